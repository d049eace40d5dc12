import Derived.Test.YtlnjdclmopblcaaDoorI06
import Derived.Deep.DeepCutAuto
import Derived.BigRegion
import Derived.Deep.RegionHeld
set_option linter.unusedVariables false
set_option linter.unusedSimpArgs false
set_option maxHeartbeats 40000000
set_option maxRecDepth 100000
namespace Go.Proofs.YtlnjdclmopblcaaDoor
open Go Go.RowKit
open Go.Lib (hid)
theorem lS (w : World) (a b : Array Value) (TA TB : TypeId) :
 ((w.alloc (.cells a TA)).alloc (.cells b TB)).heap[w.heap.size]? = some (.cells a TA (0, 0)) /\ ((w.alloc (.cells a TA)).alloc (.cells b TB)).heap[w.heap.size + 1]? = some (.cells b TB (0, 0)) /\
   Below w.heap.size w ((w.alloc (.cells a TA)).alloc (.cells b TB)) /\ ((w.alloc (.cells a TA)).alloc (.cells b TB)).heap.size = w.heap.size + 2 := by
 refine ⟨JA (jb w a TA) _, ?_, ((jD _ w).alloc (jB _) _).alloc (by simp) _, by simp⟩; have := jb (w.alloc (.cells a TA)) b TB; rw [Jt] at this; exact this
def iL (t : Lx.Tok) : Value := .agg #[.int .i64 t.kind, .int .i64 t.pos, .string ⟨t.text.toArray⟩, .int .i64 t.int]
def Ym (w : World) (lv : Value) (all : List Lx.Tok) : Prop := JO 4 (fun v t => v = iL t) w lv all
def xP (v : Value) : Prop := ∃ (k p : Int) (s : ByteArray) (i : Int) (b : Bool) (q : Option Addr) (n c : Nat), v = .agg #[.int .i64 k, .int .i64 p, .string s, .int .i64 i, .bool b, .slice q n c]
def vF (w : World) (all : List Lx.Tok) (D : Nat) (r : Px.R (Px.Node × List Lx.Tok)) (e : Ending) (w' : World) : Prop :=
 Below w.heap.size w w' /\ ∃ v nx k, e = .returned (.tuple #[v, .int .i64 nx, .int .i64 k]) /\ xP v /\
  (match r with | .ok (n, ts) => k = -1 /\ ∃ j : Nat, nx = (j : Int) /\ j <= all.length /\ ts = all.drop j /\ New (Qw D) w w' v n | .error p => k = (p : Int))
theorem YL {w w' : World} {all : List Lx.Tok} {D : Nat} {r : Px.R (Px.Node × List Lx.Tok)} {p : Nat} {v : Value} {nx : Int} (hr : r = .error p) (hb : Below w.heap.size w w') (hs : xP v) : vF w all D r (.returned (.tuple #[v, .int .i64 nx, .int .i64 (p : Int)])) w' := by
 subst hr; exact ⟨hb, v, nx, p, rfl, hs, rfl⟩
theorem gY {w w' : World} {all : List Lx.Tok} {D : Nat} {r : Px.R (Px.Node × List Lx.Tok)} {n : Px.Node} {j : Nat} {v : Value} (hr : r = .ok (n, all.drop j)) (hj : j <= all.length) (hb : Below w.heap.size w w') (hs : xP v) (hn : New (Qw D) w w' v n) : vF w all D r (.returned (.tuple #[v, .int .i64 (j : Int), .int .i64 (-1)])) w' := by
 subst hr; exact ⟨hb, v, j, -1, rfl, hs, rfl, j, rfl, hj, rfl, hn⟩
theorem Yw {g o : Nat} {w : World} {t : Lx.Tok} {i : Nat} {u : Value} (hu : u = iL t) (hc : ∀ j z, u.cells[j]? = some z -> w.cell? ⟨g, o + i * 4 + j, none⟩ = some z) :
 w.cell? ⟨g, o + i * 4, none⟩ = some (.int .i64 t.kind) /\ w.cell? ⟨g, o + i * 4 + 1, none⟩ = some (.int .i64 t.pos) /\ w.cell? ⟨g, o + i * 4 + 2, none⟩ = some (.string ⟨t.text.toArray⟩) /\ w.cell? ⟨g, o + i * 4 + 3, none⟩ = some (.int .i64 t.int) := by
 subst hu; exact ⟨hc 0 (.int .i64 t.kind) rfl, hc 1 (.int .i64 t.pos) rfl, hc 2 (.string ⟨t.text.toArray⟩) rfl, hc 3 (.int .i64 t.int) rfl⟩
theorem lT (f d stop i : Nat) (all : List Lx.Tok) (lv : Value) (w : World) (hr : Ym w lv all) (hi : all.length <= i) : Calls Tryd.prog 24 #[lv, .int .i64 i, .int .i64 d, .int .i64 stop] w (vF w all (41 - d) (Px.node stop (f + 1) d (all.drop i))) := by
 obtain ⟨q, c, rfl⟩ := hr.len; have hp : Px.node stop (f + 1) d (all.drop i) = .error stop := by rw [qg hi]; rfl
 have HP := hid hp; have hii : (i : Int) >= (all.length : Int) := by omega
 clear hr hp; go_enter Tryd.func24, Tryd.ntmps24; have ER := hid (jb w #[.int .i64 0, .int .i64 0, .string ⟨#[]⟩, .int .i64 0, .bool false, .slice none 0 0] 73); have HB := hid ((jD w.heap.size w).alloc (jB _) (.cells #[.int .i64 0, .int .i64 0, .string ⟨#[]⟩, .int .i64 0, .bool false, .slice none 0 0] 73)); go_upto_region 2 with fail
 generalize w.alloc (.cells #[.int .i64 0, .int .i64 0, .string ⟨#[]⟩, .int .i64 0, .bool false, .slice none 0 0] 73) = wz at ER HB ⊢; obtain ⟨J3, J4, qA, qJ, qW, QQ, Qx⟩ := xF6 ER; go_wp2_with fail; replace ER := hid (YF (ER.out) (.int .i64 0) (.int .i64 0) (.string ⟨#[]⟩) (.int .i64 0) (.bool false) (.slice none 0 0)); replace HB := xS HB ER; obtain ⟨r0, r1, r2, r3, r4, r5⟩ := xQ6 ER; refine jG (v := .tuple #[.agg #[.int .i64 0, .int .i64 0, .string ⟨#[]⟩, .int .i64 0, .bool false, .slice none 0 0], .int .i64 i, .int .i64 stop]) (by simp [results, Tryd.results24, go_sem, r0, r1, r2, r3, r4, r5]) rfl ?_; exact YL HP HB ⟨_, _, _, _, _, _, _, _, rfl⟩
theorem DY (f d stop i : Nat) (all : List Lx.Tok) (lv : Value) (w : World) (hr : Ym w lv all) (hd : d <= 40) (t : Lx.Tok) (ht : all[i]? = some t) (hk0 : t.kind ≠ 0) (hk1 : t.kind ≠ 1) : Calls Tryd.prog 24 #[lv, .int .i64 i, .int .i64 d, .int .i64 stop] w (vF w all (41 - d) (Px.node stop (f + 1) d (all.drop i))) := by
 obtain ⟨q, c, rfl⟩ := hr.len; have hlt : i < all.length := (jm.1 ht).1; have hdr : all.drop i = t :: all.drop (i + 1) := by rw [Jg hlt]; congr 1; exact (jm.1 ht).2
 have hp : Px.node stop (f + 1) d (all.drop i) = .ok (.mk t [] (Px.qQ t.text), all.drop (i + 1)) := by rw [hdr, Px.node, if_neg hk1, if_neg hk0]
 have HP := hid hp; have hii : ¬ (i : Int) >= (all.length : Int) := by omega
 have hij : (i : Int) < (all.length : Int) := by omega
 rcases hr with ⟨h0, _⟩ | ⟨g, of, c', hv, g1, g2, g3⟩
 . rw [h0] at hlt; simp at hlt
 injection hv with hq1 _ hq2
 subst hq1; subst hq2
 obtain ⟨u, hu, _, hcell⟩ := g3 i t ht; obtain ⟨n0, n1, n2, n3⟩ := Yw hu hcell; have jE0 := hid hlt; clear hu hcell hp hdr g3 ht; go_enter Tryd.func24, Tryd.ntmps24; obtain ⟨er, et, hb, hsz⟩ := lS w #[.int .i64 0, .int .i64 0, .string ⟨#[]⟩, .int .i64 0, .bool false, .slice none 0 0] #[.int .i64 t.kind, .int .i64 t.pos, .string ⟨t.text.toArray⟩, .int .i64 t.int] 73 70; have ER := hid er; have ET := hid et; have HB := hid hb
 replace n0 := jC ((jD w.heap.size w).alloc (jB _) (.cells #[.int .i64 0, .int .i64 0, .string ⟨#[]⟩, .int .i64 0, .bool false, .slice none 0 0] 73)) n0; replace n1 := jC ((jD w.heap.size w).alloc (jB _) (.cells #[.int .i64 0, .int .i64 0, .string ⟨#[]⟩, .int .i64 0, .bool false, .slice none 0 0] 73)) n1; replace n2 := jC ((jD w.heap.size w).alloc (jB _) (.cells #[.int .i64 0, .int .i64 0, .string ⟨#[]⟩, .int .i64 0, .bool false, .slice none 0 0] 73)) n2; replace n3 := jC ((jD w.heap.size w).alloc (jB _) (.cells #[.int .i64 0, .int .i64 0, .string ⟨#[]⟩, .int .i64 0, .bool false, .slice none 0 0] 73)) n3; replace hsz := JS hsz.symm; clear er et hb; obtain ⟨J3, J4, qA, qJ, qW, QQ, Qx⟩ := xF6 ER; obtain ⟨j3, jv, jw, JH, QH⟩ := xF4 ET; have b0 : (t.kind != 0) = true := vQ.2 hk0; have b1 : (t.kind == 1) = false := qF.2 hk1; have hlb : Px.jR (.mk t [] (Px.qQ t.text)) = false := by unfold Px.jR; exact qF.2 hk0
 have Sz := hid hlb; clear hlb hk0 hk1
 go_upto_region 7 with fail
 clear J3 J4 qA qJ qW QQ Qx j3 jv jw JH QH; clear n0 n1 n2 n3; generalize (w.alloc (.cells #[.int .i64 0, .int .i64 0, .string ⟨#[]⟩, .int .i64 0, .bool false, .slice none 0 0] 73)).alloc (.cells #[.int .i64 t.kind, .int .i64 t.pos, .string ⟨t.text.toArray⟩, .int .i64 t.int] 70) = wz at ER ET HB hsz ⊢; obtain ⟨J3, J4, qA, qJ, qW, QQ, Qx⟩ := xF6 ER; obtain ⟨j3, jv, jw, JH⟩ := xQ4 ET; go_wp2_with fail; replace ER := hid (YF (ER.out) (.int .i64 t.kind) (.int .i64 t.pos) (.string ⟨t.text.toArray⟩) (.int .i64 t.int) (.bool false) (.slice none 0 0)); replace HB := xS HB ER; obtain ⟨r0, r1, r2, r3, r4, r5⟩ := xQ6 ER; refine jG (v := .tuple #[.agg #[.int .i64 t.kind, .int .i64 t.pos, .string ⟨t.text.toArray⟩, .int .i64 t.int, .bool false, .slice none 0 0], .int .i64 ((i + 1 : Nat) : Int), .int .i64 (-1)]) (by simp [results, Tryd.results24, go_sem, r0, r1, r2, r3, r4, r5]) rfl ?_; exact gY HP jE0 HB ⟨_, _, _, _, _, _, _, _, rfl⟩ (fun u hu => by rw [show 41 - d = (40 - d) + 1 from by omega]; exact ⟨.slice none 0 0, by unfold nV; rw [Sz.out]; rfl, .inl ⟨rfl, none, 0, rfl⟩⟩)
theorem H7 (f d stop i : Nat) (all : List Lx.Tok) (lv : Value) (w : World) (hr : Ym w lv all) (hd : d <= 40) (t : Lx.Tok) (ht : all[i]? = some t) (hk1 : t.kind = 1) : Calls Tryd.prog 24 #[lv, .int .i64 i, .int .i64 d, .int .i64 stop] w (vF w all (41 - d) (Px.node stop (f + 1) d (all.drop i))) := by
 obtain ⟨q, c, rfl⟩ := hr.len; have hlt : i < all.length := (jm.1 ht).1; have hdr : all.drop i = t :: all.drop (i + 1) := by rw [Jg hlt]; congr 1; exact (jm.1 ht).2
 have hp : Px.node stop (f + 1) d (all.drop i) = .error t.pos := by rw [hdr, Px.node, if_pos hk1]
 have HP := hid hp; have hii : ¬ (i : Int) >= (all.length : Int) := by omega
 have hij : (i : Int) < (all.length : Int) := by omega
 rcases hr with ⟨h0, _⟩ | ⟨g, of, c', hv, g1, g2, g3⟩
 . rw [h0] at hlt; simp at hlt
 injection hv with hq1 _ hq2
 subst hq1; subst hq2
 obtain ⟨u, hu, _, hcell⟩ := g3 i t ht; obtain ⟨n0, n1, n2, n3⟩ := Yw hu hcell; clear hu hcell hp hdr g3 ht; go_enter Tryd.func24, Tryd.ntmps24; obtain ⟨er, et, hb, hsz⟩ := lS w #[.int .i64 0, .int .i64 0, .string ⟨#[]⟩, .int .i64 0, .bool false, .slice none 0 0] #[.int .i64 t.kind, .int .i64 t.pos, .string ⟨t.text.toArray⟩, .int .i64 t.int] 73 70; have ER := hid er; have ET := hid et; have HB := hid hb
 replace n0 := jC ((jD w.heap.size w).alloc (jB _) (.cells #[.int .i64 0, .int .i64 0, .string ⟨#[]⟩, .int .i64 0, .bool false, .slice none 0 0] 73)) n0; replace n1 := jC ((jD w.heap.size w).alloc (jB _) (.cells #[.int .i64 0, .int .i64 0, .string ⟨#[]⟩, .int .i64 0, .bool false, .slice none 0 0] 73)) n1; replace n2 := jC ((jD w.heap.size w).alloc (jB _) (.cells #[.int .i64 0, .int .i64 0, .string ⟨#[]⟩, .int .i64 0, .bool false, .slice none 0 0] 73)) n2; replace n3 := jC ((jD w.heap.size w).alloc (jB _) (.cells #[.int .i64 0, .int .i64 0, .string ⟨#[]⟩, .int .i64 0, .bool false, .slice none 0 0] 73)) n3; replace hsz := JS hsz.symm; clear er et hb; obtain ⟨J3, J4, qA, qJ, qW, QQ, Qx⟩ := xF6 ER; obtain ⟨j3, jv, jw, JH, QH⟩ := xF4 ET; have b1 : (t.kind == 1) = true := by rw [hk1]; rfl
 clear hk1; go_upto_region 5 with fail
 clear J3 J4 qA qJ qW QQ Qx j3 jv jw JH QH; clear n0 n1 n2 n3; generalize (w.alloc (.cells #[.int .i64 0, .int .i64 0, .string ⟨#[]⟩, .int .i64 0, .bool false, .slice none 0 0] 73)).alloc (.cells #[.int .i64 t.kind, .int .i64 t.pos, .string ⟨t.text.toArray⟩, .int .i64 t.int] 70) = wz at ER ET HB hsz ⊢; obtain ⟨J3, J4, qA, qJ, qW, QQ, Qx⟩ := xF6 ER; have jv := xK ET 1 rfl
 go_region
 all_goals (try go_wp2_with fail)
 replace ER := hid (YF (ER.out) (.int .i64 0) (.int .i64 0) (.string ⟨#[]⟩) (.int .i64 0) (.bool false) (.slice none 0 0)); replace HB := xS HB ER; replace ER := qM ER; replace HB := hid (HB.out.drew); obtain ⟨r0, r1, r2, r3, r4, r5⟩ := xQ6 ER; refine jG (v := .tuple #[.agg #[.int .i64 0, .int .i64 0, .string ⟨#[]⟩, .int .i64 0, .bool false, .slice none 0 0], .int .i64 i, .int .i64 t.pos]) (by simp [results, Tryd.results24, go_sem, r0, r1, r2, r3, r4, r5]) rfl ?_; refine YL HP ?_ ⟨_, _, _, _, _, _, _, _, rfl⟩
 with_reducible exact HB.out
theorem DZ (f d stop i : Nat) (all : List Lx.Tok) (lv : Value) (w : World) (hr : Ym w lv all) (hd : d <= 40) (t : Lx.Tok) (ht : all[i]? = some t) (hk0 : t.kind = 0) (iM : d = 40) : Calls Tryd.prog 24 #[lv, .int .i64 i, .int .i64 d, .int .i64 stop] w (vF w all (41 - d) (Px.node stop (f + 1) d (all.drop i))) := by
 obtain ⟨q, c, rfl⟩ := hr.len; have hlt : i < all.length := (jm.1 ht).1; have hdr : all.drop i = t :: all.drop (i + 1) := by rw [Jg hlt]; congr 1; exact (jm.1 ht).2
 have hp : Px.node stop (f + 1) d (all.drop i) = .error t.pos := by rw [hdr, Px.node, if_neg (by omega), if_pos hk0, if_pos iM]
 have HP := hid hp; have hii : ¬ (i : Int) >= (all.length : Int) := by omega
 have hij : (i : Int) < (all.length : Int) := by omega
 rcases hr with ⟨h0, _⟩ | ⟨g, of, c', hv, g1, g2, g3⟩
 . rw [h0] at hlt; simp at hlt
 injection hv with hq1 _ hq2
 subst hq1; subst hq2
 obtain ⟨u, hu, _, hcell⟩ := g3 i t ht; obtain ⟨n0, n1, n2, n3⟩ := Yw hu hcell; clear hu hcell hp hdr g3 ht; go_enter Tryd.func24, Tryd.ntmps24; obtain ⟨er, et, hb, hsz⟩ := lS w #[.int .i64 0, .int .i64 0, .string ⟨#[]⟩, .int .i64 0, .bool false, .slice none 0 0] #[.int .i64 t.kind, .int .i64 t.pos, .string ⟨t.text.toArray⟩, .int .i64 t.int] 73 70; have ER := hid er; have ET := hid et; have HB := hid hb
 replace n0 := jC ((jD w.heap.size w).alloc (jB _) (.cells #[.int .i64 0, .int .i64 0, .string ⟨#[]⟩, .int .i64 0, .bool false, .slice none 0 0] 73)) n0; replace n1 := jC ((jD w.heap.size w).alloc (jB _) (.cells #[.int .i64 0, .int .i64 0, .string ⟨#[]⟩, .int .i64 0, .bool false, .slice none 0 0] 73)) n1; replace n2 := jC ((jD w.heap.size w).alloc (jB _) (.cells #[.int .i64 0, .int .i64 0, .string ⟨#[]⟩, .int .i64 0, .bool false, .slice none 0 0] 73)) n2; replace n3 := jC ((jD w.heap.size w).alloc (jB _) (.cells #[.int .i64 0, .int .i64 0, .string ⟨#[]⟩, .int .i64 0, .bool false, .slice none 0 0] 73)) n3; replace hsz := JS hsz.symm; clear er et hb; obtain ⟨J3, J4, qA, qJ, qW, QQ, Qx⟩ := xF6 ER; obtain ⟨j3, jv, jw, JH, QH⟩ := xF4 ET; have b1 : (t.kind == 1) = false := by rw [hk0]; rfl
 have b0 : (t.kind != 0) = false := by rw [hk0]; rfl
 have hdi : (d : Int) >= 40 := by omega
 clear hk0 iM; go_upto_region 9 with fail
 clear J3 J4 qA qJ qW QQ Qx j3 jv jw JH QH; clear n0 n1 n2 n3; generalize (w.alloc (.cells #[.int .i64 0, .int .i64 0, .string ⟨#[]⟩, .int .i64 0, .bool false, .slice none 0 0] 73)).alloc (.cells #[.int .i64 t.kind, .int .i64 t.pos, .string ⟨t.text.toArray⟩, .int .i64 t.int] 70) = wz at ER ET HB hsz ⊢; obtain ⟨J3, J4, qA, qJ, qW, QQ, Qx⟩ := xF6 ER; have jv := xK ET 1 rfl
 go_region
 all_goals (try go_wp2_with fail)
 replace ER := hid (YF (ER.out) (.int .i64 0) (.int .i64 0) (.string ⟨#[]⟩) (.int .i64 0) (.bool false) (.slice none 0 0)); replace HB := xS HB ER; replace ER := qM ER; replace HB := hid (HB.out.drew); obtain ⟨r0, r1, r2, r3, r4, r5⟩ := xQ6 ER; refine jG (v := .tuple #[.agg #[.int .i64 0, .int .i64 0, .string ⟨#[]⟩, .int .i64 0, .bool false, .slice none 0 0], .int .i64 i, .int .i64 t.pos]) (by simp [results, Tryd.results24, go_sem, r0, r1, r2, r3, r4, r5]) rfl ?_; refine YL HP ?_ ⟨_, _, _, _, _, _, _, _, rfl⟩
 with_reducible exact HB.out
section
variable {P : Program} {ops : Array Oper} {Q : Exit -> Act -> World -> Prop} {md : Region.Mode} {S : Array Bool -> World -> Prop}
def Un (P : Program) (md : Region.Mode) (ops : Array Oper) (Q : Exit -> Act -> World -> Prop) (S : Array Bool -> World -> Prop) : Nat -> Array Bool -> Act -> World -> Prop
 | 0, l, a, w => Region.ready md ops l = [] /\ Q .normal a w
 | k + 1, l, a, w => (Region.ready md ops l = [] -> Q .normal a w) /\
    ∀ i ∈ Region.ready md ops l, wpOp P ops Q i (fun b u => S (l.setIfInBounds i true) u /\ Un P md ops Q S k (l.setIfInBounds i true) b u) a w
theorem H8 : ∀ (k : Nat) (l : Array Bool) (a : Act) (w : World), Un P md ops Q S k l a w -> wpAny P md ops Q k l a w
 | 0, _, _, _, h => h
 | k + 1, _, _, _, h => ⟨h.1, fun i hi => wpOp_mono (fun b u hb => H8 k _ b u hb.2) (h.2 i hi)⟩
theorem lU {i j : Nat} {l : Array Bool} {oj : Oper} (hi : i ∈ Region.ready md ops l) (hall : ∀ e ∈ oj.after, Region.binds md e = true -> l.getD e.on false = true) : ∀ e ∈ oj.after, Region.binds md e = true -> e.on ≠ i := by
 intro e he hb heq; have h0 := (mem_ready.1 hi).1; have h1 := hall e he hb; rw [heq] at h1
 rcases ZA i l.size with h | h
 . simp [h] at h0 h1; rw [h0] at h1; cases h1
 . simp [Vf h] at h1
theorem Da {i d : Nat} {oi od : Oper} {v : Value} (hi : ops[i]? = some oi) (hsel : ∀ (j : Nat) (o : Oper) cs b, ops[j]? = some o -> o.op ≠ .select cs b)
 (hQ : ∀ c a w, Q (.panic c) (a.put oi.dst v) w -> Q (.panic c) a w) (hod : ops[d]? = some od) (O8 : ∃ e ∈ od.after, Region.binds md e = true /\ e.on = i)
 (hS : ∀ l w, S (l.setIfInBounds i true) w ↔ S l w) : ∀ (k : Nat) (l : Array Bool) (a : Act) (w : World),
   (∀ j oj, ops[j]? = some oj -> j ≠ i -> l.getD j true = false -> (∀ e ∈ oj.after, Region.binds md e = true -> e.on ≠ i) -> oi.apart ops oj = true) ->
   i ∈ Region.ready md ops l -> l.getD d true = false -> YieldsIf P ops (fun u => ∃ m, Array.getD m d true = false /\ S m u) oi v a -> S l w ->
   Un P md ops Q S k (l.setIfInBounds i true) (a.put oi.dst v) w -> Un P md ops Q S (k + 1) l a w := by
 intro k
 induction k with
 | zero =>
   intro l a w _ hr hd hy hl H; refine ⟨fun h => (by rw [h] at hr; cases hr), fun j hj => ?_⟩; by_cases hji : j = i
   . subst hji; exact hy.wpOp hi ⟨l, hd, hl⟩ ⟨(hS _ _).2 hl, H⟩
   . have := ready_mono hj hji; rw [H.1] at this; cases this
 | succ k ih =>
   intro l a w hfree hr hd hy hl H; refine ⟨fun h => (by rw [h] at hr; cases hr), fun j hj => ?_⟩; by_cases hji : j = i
   . subst hji; exact hy.wpOp hi ⟨l, hd, hl⟩ ⟨(hS _ _).2 hl, H⟩
   . obtain ⟨hjun, oj, hoj, hall⟩ := mem_ready.1 hj; have hno := lU (j := j) hr hall
     have hjd : j ≠ d := by
      intro e; subst e; rw [hoj] at hod
      injection hod with hod
      subst hod; obtain ⟨e, he, hb, h⟩ := O8; exact hno e he hb h
     refine wpOp_mono (fun b u h3 => ?_) (wpOp_putIf hoj (hfree j oj hoj hji hjun hno) (fun cs b => hsel i oi cs b hi) (fun cs b => hsel j oj cs b hoj) hQ hy (H.2 j (ready_mono hj hji))); obtain ⟨h4, h5, h6⟩ := h3; rw [<- Array.setIfInBounds_comm _ _ hji] at h5 h6; have h7 := (hS _ _).1 h5; refine ⟨h7, ih (l.setIfInBounds j true) b u (fun m om hm jE1 hun hnm => ?_) (ready_mono hr (Ne.symm hji)) (by rw [getD_set_ne true hjd]; exact hd) h4 h7 h6⟩; refine hfree m om hm jE1 ?_ hnm; by_cases hjm : j = m
     . subst hjm; exact hjun
     . rw [getD_set_ne true hjm] at hun; exact hun
theorem Q5 {i : Nat} (d : Nat) {oi : Oper} {v : Value} {k : Nat} {l : Array Bool} {a : Act} {w : World} (hi : ops[i]? = some oi)
 (hs : Region.noSelect ops = true) (hf : Region.free md ops l i = true) (hr : (Region.ready md ops l).contains i = true)
 (hQ : ∀ c a w, Q (.panic c) (a.put oi.dst v) w -> Q (.panic c) a w) (hd : ((ops[d]?).map fun o => o.after.any fun e => Region.binds md e && e.on == i) = some true) (hl : l.getD d true = false)
 (hS : ∀ l w, S (l.setIfInBounds i true) w ↔ S l w) (hy : YieldsIf P ops (fun u => ∃ m, Array.getD m d true = false /\ S m u) oi v a) (jE2 : S l w)
 (h : Un P md ops Q S k (l.setIfInBounds i true) (a.put oi.dst v) w) : Un P md ops Q S (k + 1) l a w := by
 cases hod : ops[d]? with
 | none => rw [hod] at hd; cases hd
 | some od =>
   rw [hod] at hd; have h1 : od.after.any (fun e => Region.binds md e && e.on == i) = true := by simpa using hd
   obtain ⟨e, he, hb⟩ := Array.any_eq_true'.1 h1; simp only [Ji, qd] at hb; exact Da hi (Region.noSelect_spec hs) hQ hod ⟨e, he, hb⟩ hS k l a w (Region.free_spec hi hf) (by simpa using hr) hl hy jE2 h
theorem QE {i : Nat} {oi : Oper} {k : Nat} {l : Array Bool} {a : Act} {w : World} (hr : Region.ready md ops l = [i]) (hi : ops[i]? = some oi)
 (h1 : ∀ K' : Act -> World -> Prop, Shut (∀ b u, S (l.setIfInBounds i true) u -> Un P md ops Q S k (l.setIfInBounds i true) b u -> K' b u) -> if Region.wanted oi (yielded ops a.tmps) = true then Oper.wp P oi a w K' Q else K' (a.put oi.dst undef) w) : Un P md ops Q S (k + 1) l a w := by
 refine ⟨fun h => absurd (hr ▸ h) (by simp), fun j hj => ?_⟩; rw [hr] at hj; rw [j4.1 hj]; exact wpOp_step hi (fun K' hK => h1 K' (fun b u hb hu => hK b u ⟨hb, hu⟩))
theorem kP {i j : Nat} {oi oj : Oper} {k : Nat} {l : Array Bool} {a : Act} {w : World} (hr : Region.ready md ops l = [i, j]) (hi : ops[i]? = some oi) (hj : ops[j]? = some oj)
 (h1 : ∀ K' : Act -> World -> Prop, Shut (∀ b u, S (l.setIfInBounds i true) u -> Un P md ops Q S k (l.setIfInBounds i true) b u -> K' b u) -> if Region.wanted oi (yielded ops a.tmps) = true then Oper.wp P oi a w K' Q else K' (a.put oi.dst undef) w)
 (h2 : ∀ K' : Act -> World -> Prop, Shut (∀ b u, S (l.setIfInBounds j true) u -> Un P md ops Q S k (l.setIfInBounds j true) b u -> K' b u) -> if Region.wanted oj (yielded ops a.tmps) = true then Oper.wp P oj a w K' Q else K' (a.put oj.dst undef) w) : Un P md ops Q S (k + 1) l a w := by
 refine ⟨fun h => absurd (hr ▸ h) (by simp), fun m hm => ?_⟩; rw [hr] at hm
 rcases jf.1 hm with rfl | hm
 . exact wpOp_step hi (fun K' hK => h1 K' (fun b u hb hu => hK b u ⟨hb, hu⟩))
 . rw [j4.1 hm]; exact wpOp_step hj (fun K' hK => h2 K' (fun b u hb hu => hK b u ⟨hb, hu⟩))
theorem Uo {l : Array Bool} {a : Act} {w : World} (hr : Region.ready md ops l = []) (h : Q .normal a w) : ∀ k, Un P md ops Q S k l a w
 | 0 => ⟨hr, h⟩
 | _ + 1 => ⟨fun _ => h, by rw [hr]; simp⟩
theorem H9 {id : Nat} {a : Act} {w : World} (hm : P.follows .mixedOrders = true) (h : Un P .any ops Q S ops.size (Array.replicate ops.size false) a w.drew) : (Code.region id ops true).wp P Q a w :=
 wp_region_any hm (H8 _ _ _ _ h)
end
structure Two (W0 : World) (gx f : Nat) (p : Int) (c4 c5 nv xv : Value) (nn xn : Nat) (strs vs ys : List Value) (xs : List Px.Expr) (L : List (Nat × Obj)) (w : World) : Prop where
 low : Below gx W0 w
 lt : gx < w.heap.size
 et : w.heap[gx]? = some (.cells #[.int .i64 4, .int .i64 p, .string ⟨#[]⟩, .int .i64 0, c4, c5, .slice none 0 0] 38 (0, 0))
 on : w.ownsRow (gx + 1) 9 1 nv nn strs
 ox : w.ownsRow (gx + 1) 38 7 xv xn (cellsOf vs)
 kx : qw (YX (JB f) (gx + 1) w (fun g => nv.ownBlock = some g \/ xv.ownBlock = some g)) ys xs
 sh : ∀ u ∈ ys, qH u
 bx : ∀ b ∈ L, gx < b.1 /\ w.heap[b.1]? = some b.2 /\ nv.ownBlock ≠ some b.1 /\ xv.ownBlock ≠ some b.1
section
variable {W0 : World} {gx f : Nat} {p : Int} {c4 c5 nv xv : Value} {nn xn : Nat} {strs vs ys : List Value} {xs : List Px.Expr} {L : List (Nat × Obj)} {w w' : World}
theorem Two.cell (h : Two W0 gx f p c4 c5 nv xv nn xn strs vs ys xs L w) : w.cell? ⟨gx, 4, none⟩ = some c4 /\ w.cell? ⟨gx, 5, none⟩ = some c5 := ⟨jK h.et 4 _ rfl, jK h.et 5 _ rfl⟩
theorem Two.below (h : Two W0 gx f p c4 c5 nv xv nn xn strs vs ys xs L w) (hb : Below w.heap.size w w') : Two W0 gx f p c4 c5 nv xv nn xn strs vs ys xs L w' where
 low := h.low.trans (hb.mono (Nat.le_of_lt h.lt))
 lt := Jo h.lt hb.size
 et := (hb.block _ h.lt).trans h.et
 on := jc h.on hb
 ox := jc h.ox hb
 kx := h.kx.mono fun _ _ k => k.below hb
 sh := h.sh
 bx := fun b hm => ⟨(h.bx b hm).1, (hb.block _ (ji (h.bx b hm).2.1)).trans (h.bx b hm).2.1, (h.bx b hm).2.2⟩
theorem Two.alloc (h : Two W0 gx f p c4 c5 nv xv nn xn strs vs ys xs L w) (cs : Array Value) (T : TypeId) : Two W0 gx f p c4 c5 nv xv nn xn strs vs ys xs ((w.heap.size, .cells cs T (0, 0)) :: L) (w.alloc (.cells cs T)) := by
 have hb : Below w.heap.size w (w.alloc (.cells cs T)) := (jD _ _).alloc (jB _) _; have h1 := h.below hb; refine { h1 with bx := fun b hm => ?_ }
 rcases jf.1 hm with rfl | hm
 . exact ⟨h.lt, jb w cs T, fun e => by have := (h.on.lt _ e).2; omega, fun e => by have := (h.ox.lt _ e).2; omega⟩
 . exact h1.bx b hm
theorem Two.only (h : Two W0 gx f p c4 c5 nv xv nn xn strs vs ys xs L w) {M : List (Nat × Obj)} (hM : ∀ b ∈ M, b ∈ L) : Two W0 gx f p c4 c5 nv xv nn xn strs vs ys xs M w := { h with bx := fun b hm => h.bx b (hM b hm) }
theorem Two.add (h : Two W0 gx f p c4 c5 nv xv nn xn strs vs ys xs L w) {y : Value} {x : Px.Expr} (hk : New (JB f) w w' y x) (hs : qH y) (hb : Below w.heap.size w w') : Two W0 gx f p c4 c5 nv xv nn xn strs vs (ys ++ [y]) (xs ++ [x]) L w' := by
 have h1 := h.below hb; refine { h1 with kx := qw.snoc (hk.Eo (by have := h.lt; omega) (fun g hg => hg.elim (fun e => (h.on.lt g e).2) (fun e => (h.ox.lt g e).2))) h1.kx, sh := fun u hu => ?_ }
 rcases jW.1 hu with hu | hu
 . exact h.sh u hu
 . rw [j4.1 hu]; exact hs
theorem Two.iN (h : Two W0 gx f p c4 c5 nv xv nn xn strs vs ys xs L w) {v' : Value} {m : Nat} {more : List Value} (ho : w'.ownsRow (gx + 1) 9 1 v' m more) (hg : w.grownBy w' nv.ownBlock)
 (hl : v'.ownBlock = nv.ownBlock \/ ∀ g, v'.ownBlock = some g -> w.heap.size <= g) : Two W0 gx f p c4 c5 v' xv m xn more vs ys xs L w' where
 low := h.low.trans ⟨hg.os, hg.tape, hg.output, hg.size, fun b hb => hg.block b (by have := h.lt; omega) (fun e => by have := (h.on.lt b e.symm).1; omega)⟩
 lt := Jo h.lt hg.size
 et := (hg.block _ h.lt (fun e => by have := (h.on.lt gx e.symm).1; omega)).trans h.et
 on := ho
 ox := Qp h.ox fun b hb => hg.block b (h.ox.lt b hb).2 (fun e => yO h.on h.ox (by decide) b e.symm hb)
 kx := h.kx.mono fun _ _ k => k.step (S' := fun g => v'.ownBlock = some g \/ xv.ownBlock = some g) hg.size (fun b hb1 _ hb3 => hg.block b hb1 (fun e => hb3 (.inl e.symm)))
  (fun g hg' => hg'.elim (fun e => hl.elim (fun e' => .inl (.inl (e' ▸ e))) (fun e' => .inr (e' g e))) (fun e => .inl (.inr e)))
 sh := h.sh
 bx := fun b hm => ⟨(h.bx b hm).1, (hg.block _ (ji (h.bx b hm).2.1) (fun e => (h.bx b hm).2.2.1 e.symm)).trans (h.bx b hm).2.1,
  fun e => hl.elim (fun e' => (h.bx b hm).2.2.1 (e' ▸ e)) (fun e' => by have := e' _ e; have := ji (h.bx b hm).2.1; omega), (h.bx b hm).2.2.2⟩
theorem Two.sG (h : Two W0 gx f p c4 c5 nv xv nn xn strs vs ys xs L w) {v' : Value} {m : Nat} {more : List Value} (ho : w'.ownsRow (gx + 1) 38 7 v' m (cellsOf more)) (hg : w.grownBy w' xv.ownBlock)
 (hl : v'.ownBlock = xv.ownBlock \/ ∀ g, v'.ownBlock = some g -> w.heap.size <= g) : Two W0 gx f p c4 c5 nv v' nn m strs more ys xs L w' where
 low := h.low.trans ⟨hg.os, hg.tape, hg.output, hg.size, fun b hb => hg.block b (by have := h.lt; omega) (fun e => by have := (h.ox.lt b e.symm).1; omega)⟩
 lt := Jo h.lt hg.size
 et := (hg.block _ h.lt (fun e => by have := (h.ox.lt gx e.symm).1; omega)).trans h.et
 on := Qp h.on fun b hb => hg.block b (h.on.lt b hb).2 (fun e => yO h.ox h.on (by decide) b e.symm hb)
 ox := ho
 kx := h.kx.mono fun _ _ k => k.step (S' := fun g => nv.ownBlock = some g \/ v'.ownBlock = some g) hg.size (fun b hb1 _ hb3 => hg.block b hb1 (fun e => hb3 (.inr e.symm)))
  (fun g hg' => hg'.elim (fun e => .inl (.inl e)) (fun e => hl.elim (fun e' => .inl (.inr (e' ▸ e))) (fun e' => .inr (e' g e))))
 sh := h.sh
 bx := fun b hm => ⟨(h.bx b hm).1, (hg.block _ (ji (h.bx b hm).2.1) (fun e => (h.bx b hm).2.2.2 e.symm)).trans (h.bx b hm).2.1, (h.bx b hm).2.2.1,
  fun e => hl.elim (fun e' => (h.bx b hm).2.2.2 (e' ▸ e)) (fun e' => by have := e' _ e; have := ji (h.bx b hm).2.1; omega)⟩
theorem Two.st (h : Two W0 gx f p c4 c5 nv xv nn xn strs vs ys xs L w) (j : Nat) (z OD jBA : Value)
 (he : (#[.int .i64 4, .int .i64 p, .string ⟨#[]⟩, .int .i64 0, c4, c5, .slice none 0 0] : Array Value).setIfInBounds j z = #[.int .i64 4, .int .i64 p, .string ⟨#[]⟩, .int .i64 0, OD, jBA, .slice none 0 0]) :
 Two W0 gx f p OD jBA nv xv nn xn strs vs ys xs L (w.setCell ⟨gx, j, none⟩ z) := by
 have hst : ∀ b, b ≠ gx -> (w.setCell ⟨gx, j, none⟩ z).heap[b]? = w.heap[b]? := fun b hb => jP w ⟨gx, j, none⟩ z b hb
 have hsz : (w.setCell ⟨gx, j, none⟩ z).heap.size = w.heap.size := by simp
 refine ⟨h.low.setCell (p := ⟨gx, j, none⟩) (jB _) z, by rw [hsz]; exact h.lt, ?_, Qp h.on fun b hb => hst b (by have := (h.on.lt b hb).1; omega), Qp h.ox fun b hb => hst b (by have := (h.ox.lt b hb).1; omega),
  h.kx.mono fun _ _ k => k.step (JS hsz.symm) (fun b _ hb2 _ => hst b (by omega)) (fun g hg => .inl hg), h.sh,
  fun b hm => ⟨(h.bx b hm).1, (hst b.1 (by have := (h.bx b hm).1; omega)).trans (h.bx b hm).2.1, (h.bx b hm).2.2⟩⟩
 have := Jf h.et j z; rw [he] at this; exact this
theorem Two.Mv (h : Two W0 gx f p c4 c5 nv xv nn xn strs vs ys xs L w) {s : ByteArray} {gb : Nat} (hb : (gb, .cells #[.string s] 9 (0, 0)) ∈ L) (hn : nn <= 100)
 {ops : Array Oper} {o : Oper} {a : Act} {K : Act -> World -> Prop} {Q : Exit -> Act -> World -> Prop} {X : Prop} (hgd : o.guard = none) (l r : Operand)
 (ho : o.op = .call { callee := .builtin .append, args := #[l, r], argTypes := #[34, 34] }) (hl : a.eval l = nv) (hr : a.eval r = .slice (some ⟨gb, 0, none⟩) 1 1)
 (hK : ∀ v' w', Two W0 gx f p c4 c5 v' xv (nn + 1) xn (strs ++ [.string s]) vs ys xs L w' -> K (a.put o.dst v') w') : if Region.wanted o (yielded ops a.tmps) = true then Oper.wp Tryd.prog o a w K Q else X := by
 obtain ⟨i0, h0, h1, h2, h3⟩ := QL Ka; refine vR hgd l r 34 ho (gx + 1) 9 i0 (.string ⟨#[]⟩) 1 16 Tryd.underlying34 h0 h1 h2 h3 rfl (by decide) nv nn strs hl h.on ⟨gb, 0, none⟩ 1 1 [.string s] hr (by decide) rfl ?_ ?_ (by unfold maxLen; omega) (by omega) (by have := h.lt; omega) ?_
 . intro j u hu; have e : (⟨gb, 0, none⟩ : Addr).add j = ⟨gb, j, none⟩ := by unfold Addr.add; split <;> simp_all
   rw [e]; exact jK (h.bx _ hb).2.1 j u (by simpa using hu)
 . intro u hu; rw [j4.1 hu]; rfl
 . intro v' w' hown hgr hloc; exact hK v' w' (h.iN hown hgr hloc)
theorem Two.Mw (h : Two W0 gx f p c4 c5 nv xv nn xn strs vs ys xs L w) {a0 a1 a2 a3 a4 a5 a6 : Value} {gb : Nat} (hb : (gb, .cells #[a0, a1, a2, a3, a4, a5, a6] 38 (0, 0)) ∈ L) (hn : xn <= 100)
 (hone : ∀ u ∈ [a0, a1, a2, a3, a4, a5, a6], u.oneCell' = true)
 {ops : Array Oper} {o : Oper} {a : Act} {K : Act -> World -> Prop} {Q : Exit -> Act -> World -> Prop} {X : Prop} (hgd : o.guard = none) (l r : Operand)
 (ho : o.op = .call { callee := .builtin .append, args := #[l, r], argTypes := #[35, 35] }) (hl : a.eval l = xv) (hr : a.eval r = .slice (some ⟨gb, 0, none⟩) 1 1)
 (hK : ∀ v' w', Two W0 gx f p c4 c5 nv v' nn (xn + 1) strs (vs ++ [.agg #[a0, a1, a2, a3, a4, a5, a6]]) ys xs L w' -> K (a.put o.dst v') w') : if Region.wanted o (yielded ops a.tmps) = true then Oper.wp Tryd.prog o a w K Q else X := by
 obtain ⟨i0, h0, h1, h2, h3⟩ := QL u6; refine vR hgd l r 35 ho (gx + 1) 38 i0 (.agg #[.int .i64 0, .int .i64 0, .string ⟨#[]⟩, .int .i64 0, .slice none 0 0, .slice none 0 0, .slice none 0 0]) 7 112 Tryd.underlying35 h0 h1 h2 h3 rfl (by decide) xv xn (cellsOf vs) hl h.ox ⟨gb, 0, none⟩ 1 1 [a0, a1, a2, a3, a4, a5, a6] hr (by decide) rfl ?_ hone (by unfold maxLen; omega) (by omega) (by have := h.lt; omega) ?_
 . intro j u hu; have e : (⟨gb, 0, none⟩ : Addr).add j = ⟨gb, j, none⟩ := by unfold Addr.add; split <;> simp_all
   rw [e]; exact jK (h.bx _ hb).2.1 j u (by simpa using hu)
 . intro v' w' hown hgr hloc; rw [<- dz] at hown; exact hK v' w' (h.sG hown hgr hloc)
theorem Two.sH (h : Two W0 gx f p c4 c5 nv xv nn xn strs vs ys xs L w) {a0 a1 a2 a3 a4 a5 a6 : Value} {gb : Nat} (hb : (gb, .cells #[a0, a1, a2, a3, a4, a5, a6] 38 (0, 0)) ∈ L) (hn : xn <= 100)
 (hone : ∀ u ∈ [a0, a1, a2, a3, a4, a5, a6], u.oneCell' = true)
 {ops : Array Oper} {rest : List Oper} {o : Oper} {a : Act} {Q : Exit -> Act -> World -> Prop} (hgd : o.guard = none) (l r : Operand)
 (ho : o.op = .call { callee := .builtin .append, args := #[l, r], argTypes := #[35, 35] }) (hl : a.eval l = xv) (hr : a.eval r = .slice (some ⟨gb, 0, none⟩) 1 1)
 (hK : ∀ v' w', Two W0 gx f p c4 c5 nv v' nn (xn + 1) strs (vs ++ [.agg #[a0, a1, a2, a3, a4, a5, a6]]) ys xs L w' -> wpList Tryd.prog ops Q rest (a.put o.dst v') w') : wpList Tryd.prog ops Q (o :: rest) a w := by
 obtain ⟨i0, h0, h1, h2, h3⟩ := QL u6; refine qi w hgd l r 35 ho (gx + 1) 38 i0 (.agg #[.int .i64 0, .int .i64 0, .string ⟨#[]⟩, .int .i64 0, .slice none 0 0, .slice none 0 0, .slice none 0 0]) 7 112 Tryd.underlying35 h0 h1 h2 h3 rfl (by decide) xv xn (cellsOf vs) hl h.ox ⟨gb, 0, none⟩ 1 1 [a0, a1, a2, a3, a4, a5, a6] hr (by decide) rfl ?_ hone (by unfold maxLen; omega) (by omega) (by have := h.lt; omega) ?_
 . intro j u hu; have e : (⟨gb, 0, none⟩ : Addr).add j = ⟨gb, j, none⟩ := by unfold Addr.add; split <;> simp_all
   rw [e]; exact jK (h.bx _ hb).2.1 j u (by simpa using hu)
 . intro v' w' hown hgr hloc; rw [<- dz] at hown; exact hK v' w' (h.sG hown hgr hloc)
theorem Two.rows {ns : List (List UInt8)} (h : Two W0 gx f p c4 c5 nv xv nn xn (yt ns) vs vs xs L w) (hn : xn = xs.length) {u : World} (hu : ∀ b, gx < b -> b < w.heap.size -> u.heap[b]? = w.heap[b]?) : JO 1 (zA u) u nv ns /\ JO 7 (JB f u) u xv xs :=
 ⟨xG (Qp h.on fun b hb => hu b (by have := (h.on.lt b hb).1; omega) (h.on.lt b hb).2), mi h.ox hn h.kx (fun v hv => VG (h.sh v hv)) (fun b h1 h2 => hu b (by omega) h2)⟩
theorem qV {W0 w : World} {gx g : Nat} {o : Option Obj} (h : Below gx W0 w) (e : W0.heap[g]? = o) (hg : g < gx) : w.heap[g]? = o := (h.block g hg).trans e
def S3 (x y z : Nat) (A B C : World -> Prop) (l : Array Bool) (u : World) : Prop := (l.getD x true = false -> A u) /\ (l.getD y true = false -> B u) /\ (l.getD z true = false -> C u)
theorem S3.iff {x y z i : Nat} {A B C : World -> Prop} (hx : i ≠ x) (hy : i ≠ y) (hz : i ≠ z) (l : Array Bool) (u : World) : S3 x y z A B C (l.setIfInBounds i true) u ↔ S3 x y z A B C l u := by
 unfold S3; rw [getD_set_ne true hx, getD_set_ne true hy, getD_set_ne true hz]
theorem Two.s3 (h : Two W0 gx f p c4 c5 nv xv nn xn strs vs ys xs L w) {gy : Nat} {o : Obj} (hy : (gy, o) ∈ L) {n0 x0 : Value} {l : Array Bool} (h4 : l.getD 4 true = false -> c4 = n0) (h5 : l.getD 9 true = false -> c5 = x0) :
 S3 4 9 8 (fun u => u.cell? ⟨gx, 4, none⟩ = some n0) (fun u => u.cell? ⟨gx, 5, none⟩ = some x0) (fun u => u.heap[gy]? = some o) l w :=
 ⟨fun e => h4 e ▸ h.cell.1, fun e => h5 e ▸ h.cell.2, fun _ => (h.bx _ hy).2.1⟩
end
end Go.Proofs.YtlnjdclmopblcaaDoor
