import Derived.Test.YtlnjdclmopblcaaDoorI14
import Derived.Deep.RegionHeld3
set_option linter.unusedVariables false
set_option linter.unusedSimpArgs false
set_option maxHeartbeats 40000000
set_option maxRecDepth 100000
namespace Go.Proofs.YtlnjdclmopblcaaDoor
open Go Go.RowKit Go.Shelf
open Go.Lib (hid)
attribute [local go_sem] Oper.semAt_some
namespace Fr
variable {lo b mt mh : Nat} {D : List Nm}
def back (pre : List (Nat × Fv)) (ρ : Env) : Env := pre.foldl (fun τ x => upd τ x.2.1 x.2.2) ρ
theorem GI (pre : List (Nat × Fv)) (x : Nat × Fv) (ρ : Env) : back (pre ++ [x]) ρ = upd (back pre ρ) x.2.1 x.2.2 := by simp [back]
theorem BG (zs : List Fv) (ρ : Env) : back (Zh zs zs.length) ρ = LF zs ρ := by
 have key : ∀ k, k <= zs.length -> back (Zh zs k) ρ = LF (zs.drop (zs.length - k)) ρ := by
  intro k
  induction k with
  | zero => intro _; simp [Zh, back, LF]
  | succ k ih =>
    intro hk; rw [kY, GI, ih (by omega)]; have hm : zs.length - 1 - k < zs.length := by omega
    have e1 : zs.length - (k + 1) = zs.length - 1 - k := by omega
    have e2 : zs.length - k = zs.length - 1 - k + 1 := by omega
    rw [e1, e2, Jg hm, jA hm]; rfl
 have := key zs.length (jB _); rw [Nat.sub_self, List.drop_zero] at this; exact this
def LJ (lo mh : Nat) (wS : World) (ρ : Env) (pre : List (Nat × Fv)) (W : World) : Prop :=
 (∃ L, Z6 W mh L /\ sO (back pre ρ) L) /\ (∀ c, c < wS.heap.size -> c ≠ mh -> W.heap[c]? = wS.heap[c]?) /\ Below lo wS W
def OP (wS : World) (mh : Nat) (A B : World) : Prop := ∀ c, c < wS.heap.size -> c ≠ mh -> B.heap[c]? = A.heap[c]?
def NY (w : World) (rv : Value) (zs : List Fv) : Prop := (zs = [] /\ ∃ q c, rv = .slice q 0 c) \/ ∃ b o cap cur, rv = .slice (some ⟨b, o, none⟩) zs.length cap /\ zs.length <= cap /\ (cap : Int) <= 9223372036854775807 /\ w.heap[b]? = some (.cells cur 121 (0, 0)) /\ ∀ j, j < zs.length -> cur[o + j * 2]? = some (.string ⟨(zs[j]?.getD ([], [])).1.toArray⟩) /\ cur[o + j * 2 + 1]? = some (.string ⟨(zs[j]?.getD ([], [])).2.toArray⟩)
theorem NZ {w : World} {q : Option Addr} {c : Nat} {A ext : List (Nm × Nm)} (h : LD w lo (.slice q (A ++ ext).length c) (A ++ ext)) : NY w (.slice (q.map fun x => x.add (A.length * 2)) ext.length (c - A.length)) ext := by
 by_cases he : ext = []
 . subst he; exact .inl ⟨rfl, _, _, rfl⟩
 have hpos : 0 < ext.length := Yo.2 he
 rcases h.2 with ⟨e, h0⟩ | ⟨g, cap, cur, hv, a1, a2, a3, a4, a5, a6⟩
 . rw [jE] at h0; omega
 . injection hv with e1 _ e2
   subst e1; subst e2
   rw [jE] at a3; refine .inr ⟨g, A.length * 2, c - A.length, cur, ?_, by omega, by unfold maxLen at a4; omega, a2, fun j hj => ?_⟩
   . simp [Addr.add]; omega
   . have hx : (A ++ ext)[A.length + j]? = some (ext[j]?.getD ([], [])) := by
      rw [ZP (by omega), J5, jA hj]; rfl
     have hm : ((A ++ ext).map YW)[A.length + j]? = some (YW (ext[j]?.getD ([], []))) := by rw [QG, hx]; rfl
     have k0 := ZG 2 (Vo (A ++ ext)) hm (j := 0) (c := .string ⟨(ext[j]?.getD ([], [])).1.toArray⟩) rfl; have k1 := ZG 2 (Vo (A ++ ext)) hm (j := 1) (c := .string ⟨(ext[j]?.getD ([], [])).2.toArray⟩) rfl; rw [<- a6, WS (by rw [jE]; omega), zG] at k0 k1; rw [Qz] at k0 k1; exact ⟨k0, k1⟩
theorem XD {w w' : World} {rv : Value} {zs : List Fv} (h : NY w rv zs) (hb : Below w.heap.size w w') : NY w' rv zs := by
 rcases h with h | ⟨b, o, cap, cur, h1, h2, h3, h4, h5⟩
 . exact .inl h
 . exact .inr ⟨b, o, cap, cur, h1, h2, h3, jM h4 hb, h5⟩
theorem LK {w : World} {q : Option Addr} {c M : Nat} {A ext : List (Nm × Nm)} (h : LD w lo (.slice q M c) (A ++ ext)) (hM : M = (A ++ ext).length) : LD w lo (.slice q A.length c) A := by
 have hl : (cellsOf (A.map YW)).length = A.length * 2 := by rw [vk 2 (Vo A)]; simp
 refine ⟨hl, ?_⟩; have jI5 : M = A.length + ext.length := by rw [hM, jE]
 rcases h.2 with ⟨e, h0⟩ | ⟨g, cap, cur, hv, a1, a2, a3, a4, a5, a6⟩
 . injection e with e1 e2 e3
   subst e1; subst e3
   have h1 : A.length = 0 := by omega
   exact .inl ⟨by rw [h1], h1⟩
 . injection hv with e1 _ e2
   subst e1; subst e2
   refine .inr ⟨g, c, cur, rfl, a1, a2, by omega, a4, a5, ?_⟩; have h2 : cur.toList.take (A.length * 2) = (cur.toList.take ((A ++ ext).length * 2)).take (A.length * 2) := by rw [List.take_take]; congr 1; rw [jE]; omega
   rw [h2, a6, QN, YE, List.take_append_of_le_length (by omega), QR (by omega)]
theorem Nb {wS W W' : World} {q : Option Addr} {c M n : Nat} {ρ : Env} {A ext : List (Nm × Nm)} (hS : St wS lo b mt mh (.slice q M c) D n ρ (A ++ ext)) (hM : M = (A ++ ext).length) (hI : LJ lo mh wS ρ (Zh ext ext.length) W)
 (hb : W'.heap[b]? = some (.cells #[.map (some mt), .int .i64 n, .map (some mh), .slice q A.length c] 52 (0, 0))) (hk : ∀ k, k < wS.heap.size -> k ≠ b -> W'.heap[k]? = W.heap[k]?) : St W' lo b mt mh (.slice q A.length c) D n (LF ext ρ) A := by
 obtain ⟨l1, l2, l3, l4⟩ := hS.low; obtain ⟨d1, d2, d3⟩ := hS.apart; obtain ⟨⟨L, m1, m2⟩, i2, i3⟩ := hI; obtain ⟨L', t1, t2⟩ := hS.RS; rw [BG] at m2; have jBW : ∀ k, k < wS.heap.size -> k ≠ b -> k ≠ mh -> W'.heap[k]? = wS.heap[k]? := fun k h1 h2 h3 => (hk k h1 h2).trans (i2 k h1 h3)
 refine ⟨hb, ⟨L', t1.keep (jBW mt l2 d1 hS.ne) (fun _ _ => trivial), t2⟩, ⟨L, m1.keep (hk mh l3 d2) (fun _ _ => trivial), m2⟩, ?_, hS.lb, hS.lt, hS.lh, hS.ne⟩; have h1 := LK (A := A) (ext := ext) (w := wS) (lo := lo) hS.hid hM; refine ⟨h1.1, ?_⟩
 rcases h1.2 with e | ⟨g, cap, cur, e, a1, a2, a3⟩
 . exact .inl e
 . have hg : (Value.slice q M c).ownBlock = some g := by injection e with e1 _ _; subst e1; rfl
   obtain ⟨e1, e2, e3⟩ := d3 g hg; exact .inr ⟨g, cap, cur, e, a1, (jBW g (ji a2) e1 e3).trans a2, a3⟩
theorem Nc {w wS W W' : World} {q : Option Addr} {c M n : Nat} {ρ : Env} {A ext : List (Nm × Nm)} (hS : St wS lo b mt mh (.slice q M c) D n ρ (A ++ ext)) (hw : Below w.heap.size w wS) (jF7 : lo <= w.heap.size) (hI : LJ lo mh wS ρ (Zh ext ext.length) W) (hW : Below lo W W')
 (hk : ∀ k, k < wS.heap.size -> k ≠ b -> W'.heap[k]? = W.heap[k]?) : Stp lo b mt mh (.slice q M c) (.slice q A.length c) w W' := by
 refine ⟨((hw.mono jF7).trans hI.2.2).trans hW, fun k h1 hn => ?_, ?_⟩
 . have h2 := hw.size; rw [hk k (by omega) (fun e => hn (.inl e)), hI.2.1 k (by omega) (fun e => hn (.inr (.inr (.inl e)))), hw.block k h1]
 . exact .inl (by cases q <;> rfl)
theorem fZ {wS : World} {ρ : Env} (Ie : mh < wS.heap.size) (hlo : lo <= wS.heap.size) : OwnFrom wS.heap.size (LJ lo mh wS ρ) := by
 rintro pre W W' row ⟨⟨L, m1, m2⟩, h2, h3⟩ hg hr; have hs := h3.size; have hk : ∀ c, c < wS.heap.size -> W'.heap[c]? = W.heap[c]? := fun c hc => hg.block c (by omega) (fun e => by have := (hr c e.symm).1; omega)
 exact ⟨⟨L, m1.keep (hk mh Ie) (fun _ _ => trivial), m2⟩, fun c hc hn => (hk c hc).trans (h2 c hc hn), h3.grown hg (by omega) (fun k e => by have := (hr k e).1; omega)⟩
theorem BH {wS W : World} {ρ : Env} {pre : List (Nat × Fv)} (h : LJ lo mh wS ρ pre W) (hl : lo <= W.heap.size) (o : Obj) : LJ lo mh wS ρ pre (W.alloc o) := by
 obtain ⟨⟨L, m1, m2⟩, h2, h3⟩ := h; have hs := h3.size; exact ⟨⟨L, m1.keep (QC W o mh m1.lt) (fun _ _ => trivial), m2⟩, fun c hc hn => (QC W o c (by omega)).trans (h2 c hc hn), h3.trans ((jD _ _).alloc hl _)⟩
theorem BI {P : Program} {c : Code} {a : Act} {w : World} {Q : Exit -> Act -> World -> Prop} (a1 : Act) (w1 : World) (h1 : c.wp P (fun e a' w' => e = .normal /\ a' = a1 /\ w' = w1) a w) (h2 : Q .normal a1 w1) : c.wp P Q a w :=
 Code.wp_mono (fun e a w ⟨he, ha, hw⟩ => by subst he; subst ha; subst hw; exact h2) h1
theorem sP {wS : World} (W : World) (l : Nat) (o o' : Obj) (hl : wS.heap.size <= l) (h : W.heap[l]? = some o) (_ : o.isCells = false) (_ : o.isWalk = false) : OP wS mh W (W.putObj l o') := by
 intro c hc _; have hlt := (JW.1 h).1; exact (grownBy_putObj' W l o').block c (by omega) (fun e => by cases e; omega)
def AQ (AR : Nat × Fv -> Nat -> Act) (wS : World) (x : Nat × Fv) (a' : Act) (W : World) : Prop :=
 ∃ vb, a' = AR x vb /\ wS.heap.size <= vb /\ W.heap[vb]? = some (.cells #[.string ⟨x.2.1.toArray⟩, .string ⟨x.2.2.toArray⟩] 121 (0, 0))
theorem fo {wS : World} {AR : Nat × Fv -> Nat -> Act} (x : Nat × Fv) (a' : Act) : OwnFrom wS.heap.size (fun (_ : Unit) W => AQ AR wS x a' W) := by
 rintro _ W W' row ⟨vb, h1, h2, h3⟩ hg hr; refine ⟨vb, h1, h2, (hg.block vb (ji h3) (fun e => ?_)).trans h3⟩; obtain ⟨o, ho, hc⟩ := (hr vb e.symm).2; rw [h3] at ho; cases ho; cases hc
theorem BJ {wS W : World} {ρ : Env} {pre : List (Nat × Fv)} (x : Nat × Fv) (h : LJ lo mh wS ρ pre W) (hlo : lo <= mh) (Ie : mh < wS.heap.size) : ∃ W', (Instr.mapUpdate 49 (.map (some mh)) (.string ⟨x.2.1.toArray⟩) (.agg #[.string ⟨x.2.1.toArray⟩, .string ⟨x.2.2.toArray⟩])).run Tryd.prog W = .ok () W' /\ LJ lo mh wS ρ (pre ++ [x]) W' /\ OP wS mh W W' /\ KeepsFrom wS.heap.size W W' /\ ∀ c, c ≠ mh -> c < W.heap.size -> W'.heap[c]? = W.heap[c]? := by
 obtain ⟨⟨L, m1, m2⟩, h2, h3⟩ := h; have hs := h3.size; obtain ⟨W', hr, hm, hg⟩ := m1.update (vK Tryd.underlying9) Kj x.2.1 trivial (.agg #[.string ⟨x.2.1.toArray⟩, .string ⟨x.2.2.toArray⟩]) (fun _ _ _ _ _ => trivial); have hk : ∀ c, c ≠ mh -> c < W.heap.size -> W'.heap[c]? = W.heap[c]? := fun c hn hc => hg.block c hc (fun e => hn (by injection e))
 refine ⟨W', hr, ⟨⟨_, hm, by rw [GI]; exact m2.set x.2.1 x.2.1 x.2.2⟩, fun c hc hn => (hk c hn (by omega)).trans (h2 c hc hn), h3.grown hg (by omega) (fun k e => by injection e with e; omega)⟩, fun c hc hn => hk c hn (by omega), ⟨hg.size, fun k o hkb ho _ => (hk k (by omega) (ji ho)).trans ho⟩, hk⟩
theorem U3 (w : World) (hv : Value) (n : Nat) (ρ : Env) (A ext : List (Nm × Nm)) (h : St w lo b mt mh hv D n ρ (A ++ ext)) (hlen : (A ++ ext).length <= 100000000) :
 Calls Tryd.prog 35 #[.pointer (some ⟨b, 0, none⟩), .int .i64 A.length] w fun e w' => e = .returned (.tuple #[]) /\ ∃ hv', St w' lo b mt mh hv' D n (LF ext ρ) A /\ Stp lo b mt mh hv hv' w w' := by
 obtain ⟨l1, l2, l3, l4⟩ := h.low; have hA : Below w.heap.size w (w.alloc (.cells #[.pointer (some ⟨b, 0, none⟩)] 47)) := (jD _ _).alloc (jB _) _; obtain ⟨q, c, hq⟩ := jH h.hid; subst hq; have H0 := hid (h.below hA); have HL := hid hlen; have PV := hid (jb w #[.pointer (some ⟨b, 0, none⟩)] 47); have HA := hid hA; refine (callsIn_wide (n := 6)).1 ?_; refine callsIn_of_wp_marks Tryd.func35 rfl trivial ?_ rfl; simp only [Tryd.ntmps35, Ga, JG, Qa, Nat.reduceAdd, Nat.reduceSub, Ub, Ua, Gb, KH, J6, JQ]
 have hcap : (A ++ ext).length <= c := by
  rcases h.hid.2 with ⟨e, h0⟩ | ⟨g, cap, cur, hv, a1, a2, a3, a4, a5, a6⟩
  . omega
  . injection hv with _ _ e; omega
 obtain ⟨M, hM⟩ : ∃ M, M = (A ++ ext).length := ⟨_, rfl⟩
 have hM1 : (A.length : Int) <= (M : Int) := by rw [hM, jE]; omega
 have hM2 : (M : Int) <= (c : Int) := by omega
 rw [<- hM] at H0; have RZ := hid hM; have z3 := jK H0.out.uH 3 _ rfl; clear h hlen hA hcap hM
 gi_wp2
 case inl h =>
  subst h; have Ig : M - A.length = ext.length := by rw [RZ.out]; simp
  obtain ⟨rq, rc, Ih, hrow⟩ : ∃ rq rc, Value.slice q (M - A.length) 0 = .slice rq ext.length rc /\ NY (w.alloc (.cells #[.pointer (some ⟨b, 0, none⟩)] 47)) (.slice rq ext.length rc) ext :=
   ⟨q, 0, by rw [Ig], .inl ⟨JP (by have h1 := RZ.out; rw [jE] at h1; omega), q, 0, by rw [show ext.length = 0 by have h1 := RZ.out; rw [jE] at h1; omega]⟩⟩
  rw [Ih]; have vW := hid hrow; obtain ⟨bx, hbx⟩ : ∃ bx, bx = w.heap.size := ⟨_, rfl⟩
  obtain ⟨w0, hw0⟩ : ∃ w0, w0 = (w.alloc (.cells #[.pointer (some ⟨b, 0, none⟩)] 47)) := ⟨_, rfl⟩
  rw [<- hw0] at H0 PV HA vW ⊢; rw [<- hbx] at PV ⊢; have TR := hid (show w.heap.size <= bx by omega); have AU := hid (show (A.length : Int) <= ((A.length : Nat) : Int) by omega); clear hw0 hbx z3 hrow Ih hM1 hM2 Ig; refine ⟨trivial, (kZ Fence.wide _ trivial rfl _ _ _ w0).mono ?_⟩; rintro e wS ⟨rfl, TT⟩; have Nf : Below w0.heap.size w0 wS := by rw [TT]; exact (jD _ _).alloc (jB _) _
  have Ii : wS.heap[w0.heap.size]? = some (.cells #[.slice rq ext.length rc] 50 (0, 0)) := by rw [TT]; exact jb w0 _ _
  have AV := hid Nf; have TU := hid Ii; obtain ⟨Bs, LH⟩ : ∃ Bs, Bs = w0.heap.size := ⟨_, rfl⟩
  rw [<- LH] at TU ⊢; have TV := hid (show w0.heap.size <= Bs by omega); have U4 := hid (H0.out.below Nf); have Ng := hid (XD vW Nf); have wN := bE PV Nf; clear TT Nf Ii LH
  gi_wp2
  have AX := hid (show ext.length <= 100000000 by have := HL.out; rw [jE] at this; omega); obtain ⟨LM, TW, Nh⟩ := U4.out.hol
  have hmap : ∀ (b : Nat) (cur : Array Value), wS.heap[b]? = some (Obj.cells cur 121 (0, 0)) -> b ≠ mh := by
   obtain ⟨es, k, e1, _⟩ := TW; intro b cur hb e; rw [e, e1] at hb; cases hb
  have TY := hid hmap; have Ni : Hid (Bs < wS.heap.size /\ Bs ≠ mh) := hid ⟨ji TU, by have := TV.out; have := HA.out.size; omega⟩; have TZ := hid (show mh < wS.heap.size from U4.out.low.2.2.1); have QX := hid (show lo <= wS.heap.size from U4.out.low.2.2.2); have HI0 : Hid (LJ lo mh wS ρ [] wS) := hid ⟨⟨LM, TW, Nh⟩, fun _ _ _ => rfl, jD _ _⟩; clear TW Nh hmap; refine wpIn_rangeFunc_ownH (α := Nat × Fv) rfl (by decide) (gf := 75) (lb := #[.pointer (some ⟨Bs, 0, none⟩)]) rfl trivial (enters_of Tryd.func75 (by kernel_rfl) rfl)
   (VR Fence.wide _ trivial rfl (by decide) Bs _ ext AX wS (OP wS mh) (fun A B h => ⟨h Bs Ni.out.1 Ni.out.2, fun b cur hb => h b (ji hb) (TY.out b cur hb)⟩) TU Ng) (fun h k c h1 h2 => (k c h1 h2).trans (h c h1 h2)) sP (jD _ _) (fun _ => rfl)
   (LJ lo mh wS ρ) (fun _ _ _ => False) (fZ TZ QX) (fun _ _ _ _ _ hs _ _ => hs) HI0.out (AQ (fun x vb => { tmps := List.toArray (.pointer (some ⟨b, 0, none⟩) :: .int .i64 A.length :: .pointer (some ⟨bx, 0, none⟩) :: undef :: undef :: .pointer (some ⟨vb, 0, none⟩) :: .pointer (some ⟨b, 0, none⟩) :: .pointer (some ⟨b, 0, none⟩) :: .pointer (some ⟨b, 3, none⟩) :: .slice q M A.length :: .int .i64 A.length :: .slice rq ext.length rc :: .func (.func 75) #[] #[.pointer (some ⟨Bs, 0, none⟩)] :: .int .i64 (x.1 : Nat) :: fv x.2 :: undef :: undef :: undef :: undef :: undef :: undef :: undef :: undef :: undef :: undef :: undef :: undef :: undef :: undef :: undef :: undef :: []), defers := [] }) wS) (fun x a' => fo x a') ?AY ?body ?done ?stop
  case AY =>
   intro l pre x W K hI hK; simp only [fv]
   gi_wp2
   have hsz := hI.2.2.size; exact hK _ _ ⟨by simp, fun k o _ hk _ => JA hk _⟩ (fun c hc _ => QC W _ c (by omega)) (BH hI (by have := QX.out; omega) _) ⟨W.heap.size, rfl, hsz, jb W _ _⟩
  case body =>
   rintro l pre x a' W hl hloop hI ⟨vb, rfl, hvb, Rc⟩ hpl; have hbS := U4.out.low.1; have D7 := U4.out.apart.2.1; have Ij : LJ lo mh wS ρ pre W.drew := ⟨hI.1, hI.2.1, hI.2.2.drew⟩; obtain ⟨W2, hr, hI2, hK2, Ik, hoth⟩ := BJ x Ij U4.out.lh TZ; have wO : W.heap[b]? = _ := (hI.2.1 b hbS (Ne.symm D7)).trans U4.out.uH; have wP : bx ≠ mh := by have := TR.out; omega
   have BK : W.heap[bx]? = _ := (hI.2.1 bx (ji wN) wP).trans wN.out; have Cr : vb ≠ mh := by have := TZ.out; omega
   have hS2 : W2.cell? ⟨bx, 0, none⟩ = some (.pointer (some ⟨b, 0, none⟩)) /\ W2.cell? ⟨b, 2, none⟩ = some (.map (some mh)) /\ W2.heap[vb]? = some (.cells #[.string ⟨x.2.1.toArray⟩, .string ⟨x.2.2.toArray⟩] 121 (0, 0)) :=
    ⟨jK ((hoth bx wP (ji BK)).trans BK) 0 _ rfl, jK ((hoth b (Ne.symm D7) (ji wO)).trans wO) 2 _ rfl, (hoth vb Cr (ji Rc)).trans Rc⟩
   have hS1 : W.drew.cell? ⟨bx, 0, none⟩ = some (.pointer (some ⟨b, 0, none⟩)) /\ W.drew.cell? ⟨b, 2, none⟩ = some (.map (some mh)) /\ W.drew.heap[vb]? = some (.cells #[.string ⟨x.2.1.toArray⟩, .string ⟨x.2.2.toArray⟩] 121 (0, 0)) :=
    ⟨xK BK 0 rfl, xK wO 2 rfl, Rc⟩
   have V5 := hid hS1; have HS2 := hid hS2; have TK := hid hK2; have tV := hid Ik; have HI2 := hid hI2
   clear hI Rc Ij hI2 hK2 Ik hoth wO BK hS1 hS2 hloop hpl; simp only [fv]; obtain ⟨x1, x2, x3⟩ := x
   dsimp only at *
   gi_wp2
   refine UM (S := fun (u : World) => u.cell? ⟨bx, 0, none⟩ = some (.pointer (some ⟨b, 0, none⟩)) /\ u.cell? ⟨b, 2, none⟩ = some (.map (some mh)) /\ u.heap[vb]? = some (.cells #[.string ⟨x2.toArray⟩, .string ⟨x3.toArray⟩] 121 (0, 0))) (by kernel_rfl) (by kernel_rfl) V5 (fun hHeld => ?_); refine J7 (i := 0) (v := .pointer (some ⟨b, 0, none⟩)) rfl (by kernel_rfl) (by kernel_rfl) (by kernel_rfl) (fun _ _ _ h => by first | exact h | exact h.elim | (cases h.1)) (Or.inl ⟨by rfl, fun w' hSw => by have hx := hSw.1; go_simp⟩) hHeld ?_; refine J7 (i := 1) (v := .pointer (some ⟨b, 0, none⟩)) rfl (by kernel_rfl) (by kernel_rfl) (by kernel_rfl) (fun _ _ _ h => by first | exact h | exact h.elim | (cases h.1)) (Or.inl ⟨by rfl, fun w' hSw => by go_simp⟩) hHeld ?_; refine J7 (i := 2) (v := .pointer (some ⟨b, 2, none⟩)) rfl (by kernel_rfl) (by kernel_rfl) (by kernel_rfl) (fun _ _ _ h => by first | exact h | exact h.elim | (cases h.1)) (Or.inl ⟨by rfl, fun w' hSw => by go_simp⟩) hHeld ?_; refine J7 (i := 3) (v := .map (some mh)) rfl (by kernel_rfl) (by kernel_rfl) (by kernel_rfl) (fun _ _ _ h => by first | exact h | exact h.elim | (cases h.1)) (Or.inl ⟨by rfl, fun w' hSw => by have hx := hSw.2.1; go_simp⟩) hHeld ?_; refine J7 (i := 4) (v := .pointer (some ⟨vb, 0, none⟩)) rfl (by kernel_rfl) (by kernel_rfl) (by kernel_rfl) (fun _ _ _ h => by first | exact h | exact h.elim | (cases h.1)) (Or.inl ⟨by rfl, fun w' hSw => by go_simp⟩) hHeld ?_; refine J7 (i := 5) (v := .string ⟨x2.toArray⟩) rfl (by kernel_rfl) (by kernel_rfl) (by kernel_rfl) (fun _ _ _ h => by first | exact h | exact h.elim | (cases h.1)) (Or.inl ⟨by rfl, fun w' hSw => by have hx := jK hSw.2.2 0 _ rfl; go_simp⟩) hHeld ?_; refine J7 (i := 6) (v := .agg #[.string ⟨x2.toArray⟩, .string ⟨x3.toArray⟩]) rfl (by kernel_rfl) (by kernel_rfl) (by kernel_rfl) (fun _ _ _ h => by first | exact h | exact h.elim | (cases h.1)) (Or.inl ⟨by rfl, fun w' hSw => by have hx := jK hSw.2.2 0 _ rfl; have hy := jK hSw.2.2 1 _ rfl; go_simp⟩) hHeld ?_
   try simp only [aP]
   refine wR 7 rfl (fun K hK => ?_); go_simp; refine hK.out _ _ HS2.out (fun hHeld => ?_); clear hK K; refine wD ?_; exact ⟨⟨tV.out.size, tV.out.same⟩, TK.out, HI2.out⟩
  case done =>
   rintro Dq ys W hD rfl hI hDe; have hbS := U4.out.low.1; have D7 := U4.out.apart.2.1; have wO : W.heap[b]? = _ := (hI.2.1 b hbS (Ne.symm D7)).trans U4.out.uH; have wP : bx ≠ mh := by have := TR.out; omega
   have Ta : bx ≠ b := by have := TR.out; omega
   have BK : W.heap[bx]? = _ := (hI.2.1 bx (ji wN) wP).trans wN.out; have hS1 : W.drew.cell? ⟨bx, 0, none⟩ = some (.pointer (some ⟨b, 0, none⟩)) := xK BK 0 rfl; have wH : (W.drew.setCell ⟨b, 3, none⟩ (.slice q A.length A.length)).cell? ⟨bx, 0, none⟩ = some (.pointer (some ⟨b, 0, none⟩)) := jK ((jP W.drew ⟨b, 3, none⟩ _ bx Ta).trans BK) 0 _ rfl; have hDn : Dq ≠ b := by omega
   have Nj : (W.drew.setCell ⟨b, 3, none⟩ (.slice q A.length A.length)).heap[Dq]? = some (.deferred (some [])) := (jP W.drew ⟨b, 3, none⟩ _ Dq hDn).trans hDe
   have hb3 : (W.drew.setCell ⟨b, 3, none⟩ (.slice q A.length A.length)).heap[b]? = some (.cells #[.map (some mt), .int .i64 n, .map (some mh), .slice q A.length A.length] 52 (0, 0)) := by
    have := Jf (w := W.drew) wO 3 (.slice q A.length A.length); simpa using this
   have c3 : W.drew.cell? ⟨b, 3, none⟩ = some (.slice q M A.length) := xK wO 3 rfl; have f3 : W.drew.frozen? ⟨b, 3, none⟩ = false := jX (w := W.drew) wO 3; have Il : (A.length : Int) <= ((A.length : Nat) : Int) := AU.out; have HI := hid hI; have dK := hid wH; have Im := hid Nj; have HB3 := hid hb3; have V5 := hid hS1; have AZ := hid hD
   clear hI hS1 wH hDe Nj hb3 wO BK hD
   gi_wp2
   refine wpIn_wide.2 ?_; refine BI { tmps := List.toArray (.pointer (some ⟨b, 0, none⟩) :: .int .i64 A.length :: .pointer (some ⟨bx, 0, none⟩) :: undef :: undef :: undef :: .pointer (some ⟨b, 0, none⟩) :: .pointer (some ⟨b, 0, none⟩) :: .pointer (some ⟨b, 3, none⟩) :: .slice q M A.length :: .int .i64 A.length :: .slice rq ext.length rc :: .func (.func 75) #[] #[.pointer (some ⟨Bs, 0, none⟩)] :: undef :: undef :: undef :: undef :: undef :: undef :: undef :: undef :: undef :: .pointer (some ⟨b, 0, none⟩) :: .pointer (some ⟨b, 0, none⟩) :: .pointer (some ⟨b, 0, none⟩) :: .pointer (some ⟨b, 3, none⟩) :: .slice q M A.length :: .int .i64 A.length :: .slice q A.length A.length :: .pointer (some ⟨b, 0, none⟩) :: .pointer (some ⟨b, 3, none⟩) :: []), defers := { target := .collected Dq, args := #[] } :: [] } (W.drew.setCell ⟨b, 3, none⟩ (.slice q A.length A.length)) ?_ ?_
   focus
    refine jU (S := fun (u : World) => u.cell? ⟨bx, 0, none⟩ = some (.pointer (some ⟨b, 0, none⟩))) (by kernel_rfl) V5.out (fun hHeld => ?_); refine J7 (i := 0) (v := .pointer (some ⟨b, 0, none⟩)) rfl (by kernel_rfl) (by kernel_rfl) (by kernel_rfl) (fun _ _ _ h => by first | exact h | exact h.elim | (cases h.1)) (Or.inl ⟨by rfl, fun w' hSw => by have hx : w'.cell? ⟨bx, 0, none⟩ = some (.pointer (some ⟨b, 0, none⟩)) := hSw; go_simp⟩) hHeld ?_; refine J7 (i := 1) (v := .pointer (some ⟨b, 0, none⟩)) rfl (by kernel_rfl) (by kernel_rfl) (by kernel_rfl) (fun _ _ _ h => by first | exact h | exact h.elim | (cases h.1)) (Or.inl ⟨by rfl, fun w' hSw => by have hx : w'.cell? ⟨bx, 0, none⟩ = some (.pointer (some ⟨b, 0, none⟩)) := hSw; go_simp⟩) hHeld ?_; refine J7 (i := 2) (v := .pointer (some ⟨b, 0, none⟩)) rfl (by kernel_rfl) (by kernel_rfl) (by kernel_rfl) (fun _ _ _ h => by first | exact h | exact h.elim | (cases h.1)) (Or.inl ⟨by rfl, fun w' hSw => by go_simp⟩) hHeld ?_; refine J7 (i := 3) (v := .pointer (some ⟨b, 3, none⟩)) rfl (by kernel_rfl) (by kernel_rfl) (by kernel_rfl) (fun _ _ _ h => by first | exact h | exact h.elim | (cases h.1)) (Or.inl ⟨by rfl, fun w' hSw => by go_simp⟩) hHeld ?_; refine J7 (i := 5) (v := .int .i64 A.length) rfl (by kernel_rfl) (by kernel_rfl) (by kernel_rfl) (fun _ _ _ h => by first | exact h | exact h.elim | (cases h.1)) (Or.inl ⟨by rfl, fun w' hSw => by go_simp⟩) hHeld ?_
    try simp only [aP]
    refine wR 4 rfl (fun K hK => ?_); go_simp; refine hK.out _ _ V5.out (fun hHeld => ?_); clear hK K; refine wR 6 rfl (fun K hK => ?_); go_simp; refine hK.out _ _ V5.out (fun hHeld => ?_); clear hK K; refine wR 7 rfl (fun K hK => ?_); go_simp; refine hK.out _ _ V5.out (fun hHeld => ?_); clear hK K; refine wR 8 rfl (fun K hK => ?_); go_simp; refine hK.out _ _ V5.out (fun hHeld => ?_); clear hK K; refine wR 9 rfl (fun K hK => ?_); go_simp; refine hK.out _ _ dK.out (fun hHeld => ?_); clear hK K hHeld c3 f3 Il; refine wD ?_; exact ⟨rfl, rfl, rfl⟩
   clear c3 f3 Il; have Io := hid (fun (k : Nat) (hn : k ≠ b) => (jP W.drew ⟨b, 3, none⟩ (.slice q A.length A.length) k hn : (W.drew.setCell ⟨b, 3, none⟩ (.slice q A.length A.length)).heap[k]? = W.heap[k]?)); have Zj := hid ((jD lo W).drew.setCell (p := ⟨b, 3, none⟩) U4.out.lb (.slice q A.length A.length)); generalize W.drew.setCell ⟨b, 3, none⟩ (.slice q A.length A.length) = W3 at *; refine ⟨by simp, .inl ⟨_, _, rfl, run_takeDeferred Im.out, ?_⟩⟩; have hgr := fun o' => grownBy_putObj' W3 Dq o'
   have jF8 : Dq < W3.heap.size := (JW.1 Im.out).1; have jF9 := AZ.out; have Aa := QX.out; refine ⟨_, results_none rfl _ _ _, rfl, .slice q A.length A.length, ?_, ?_⟩
   . refine Nb U4 RZ HI (((hgr _).block b (by omega) (fun e => by cases e; omega)).trans HB3.out) (fun k h1 h2 => ((hgr _).block k (by omega) (fun e => by cases e; omega)).trans (Io.out k h2))
   . rw [<- RZ.out]; exact Nc U4 ((HA.out.trans (AV.out.mono HA.out.size))) l4 HI (Zj.out.grown (hgr _) (by omega) (fun k e => by cases e; omega)) (fun k h1 h2 => ((hgr _).block k (by omega) (fun e => by cases e; omega)).trans (Io.out k h2))
  case stop =>
   intro D c pre W hD _ h _; exact h.elim
 case inr h =>
  have Ig : M - A.length = ext.length := by rw [RZ.out]; simp
  obtain ⟨rq, rc, Ih, hrow⟩ : ∃ rq rc, Value.slice (Option.map (fun x => x.add (A.length * 2)) q) (M - A.length) (c - A.length) = .slice rq ext.length rc /\ NY (w.alloc (.cells #[.pointer (some ⟨b, 0, none⟩)] 47)) (.slice rq ext.length rc) ext :=
   ⟨_, _, by rw [Ig], NZ (q := q) (c := c) (by have h1 := H0.out.hid; rw [RZ.out] at h1; exact h1)⟩
  clear h; rw [Ih]; have vW := hid hrow; obtain ⟨bx, hbx⟩ : ∃ bx, bx = w.heap.size := ⟨_, rfl⟩
  obtain ⟨w0, hw0⟩ : ∃ w0, w0 = (w.alloc (.cells #[.pointer (some ⟨b, 0, none⟩)] 47)) := ⟨_, rfl⟩
  rw [<- hw0] at H0 PV HA vW ⊢; rw [<- hbx] at PV ⊢; have TR := hid (show w.heap.size <= bx by omega); have AU := hid (show (A.length : Int) <= ((c : Nat) : Int) by omega); clear hw0 hbx z3 hrow Ih hM1 hM2 Ig; refine ⟨trivial, (kZ Fence.wide _ trivial rfl _ _ _ w0).mono ?_⟩; rintro e wS ⟨rfl, TT⟩; have Nf : Below w0.heap.size w0 wS := by rw [TT]; exact (jD _ _).alloc (jB _) _
  have Ii : wS.heap[w0.heap.size]? = some (.cells #[.slice rq ext.length rc] 50 (0, 0)) := by rw [TT]; exact jb w0 _ _
  have AV := hid Nf; have TU := hid Ii; obtain ⟨Bs, LH⟩ : ∃ Bs, Bs = w0.heap.size := ⟨_, rfl⟩
  rw [<- LH] at TU ⊢; have TV := hid (show w0.heap.size <= Bs by omega); have U4 := hid (H0.out.below Nf); have Ng := hid (XD vW Nf); have wN := bE PV Nf; clear TT Nf Ii LH
  gi_wp2
  have AX := hid (show ext.length <= 100000000 by have := HL.out; rw [jE] at this; omega); obtain ⟨LM, TW, Nh⟩ := U4.out.hol
  have hmap : ∀ (b : Nat) (cur : Array Value), wS.heap[b]? = some (Obj.cells cur 121 (0, 0)) -> b ≠ mh := by
   obtain ⟨es, k, e1, _⟩ := TW; intro b cur hb e; rw [e, e1] at hb; cases hb
  have TY := hid hmap; have Ni : Hid (Bs < wS.heap.size /\ Bs ≠ mh) := hid ⟨ji TU, by have := TV.out; have := HA.out.size; omega⟩; have TZ := hid (show mh < wS.heap.size from U4.out.low.2.2.1); have QX := hid (show lo <= wS.heap.size from U4.out.low.2.2.2); have HI0 : Hid (LJ lo mh wS ρ [] wS) := hid ⟨⟨LM, TW, Nh⟩, fun _ _ _ => rfl, jD _ _⟩; clear TW Nh hmap; refine wpIn_rangeFunc_ownH (α := Nat × Fv) rfl (by decide) (gf := 75) (lb := #[.pointer (some ⟨Bs, 0, none⟩)]) rfl trivial (enters_of Tryd.func75 (by kernel_rfl) rfl)
   (VR Fence.wide _ trivial rfl (by decide) Bs _ ext AX wS (OP wS mh) (fun A B h => ⟨h Bs Ni.out.1 Ni.out.2, fun b cur hb => h b (ji hb) (TY.out b cur hb)⟩) TU Ng) (fun h k c h1 h2 => (k c h1 h2).trans (h c h1 h2)) sP (jD _ _) (fun _ => rfl)
   (LJ lo mh wS ρ) (fun _ _ _ => False) (fZ TZ QX) (fun _ _ _ _ _ hs _ _ => hs) HI0.out (AQ (fun x vb => { tmps := List.toArray (.pointer (some ⟨b, 0, none⟩) :: .int .i64 A.length :: .pointer (some ⟨bx, 0, none⟩) :: undef :: undef :: .pointer (some ⟨vb, 0, none⟩) :: .pointer (some ⟨b, 0, none⟩) :: .pointer (some ⟨b, 0, none⟩) :: .pointer (some ⟨b, 3, none⟩) :: .slice q M c :: .int .i64 A.length :: .slice rq ext.length rc :: .func (.func 75) #[] #[.pointer (some ⟨Bs, 0, none⟩)] :: .int .i64 (x.1 : Nat) :: fv x.2 :: undef :: undef :: undef :: undef :: undef :: undef :: undef :: undef :: undef :: undef :: undef :: undef :: undef :: undef :: undef :: undef :: []), defers := [] }) wS) (fun x a' => fo x a') ?AY ?body ?done ?stop
  case AY =>
   intro l pre x W K hI hK; simp only [fv]
   gi_wp2
   have hsz := hI.2.2.size; exact hK _ _ ⟨by simp, fun k o _ hk _ => JA hk _⟩ (fun c hc _ => QC W _ c (by omega)) (BH hI (by have := QX.out; omega) _) ⟨W.heap.size, rfl, hsz, jb W _ _⟩
  case body =>
   rintro l pre x a' W hl hloop hI ⟨vb, rfl, hvb, Rc⟩ hpl; have hbS := U4.out.low.1; have D7 := U4.out.apart.2.1; have Ij : LJ lo mh wS ρ pre W.drew := ⟨hI.1, hI.2.1, hI.2.2.drew⟩; obtain ⟨W2, hr, hI2, hK2, Ik, hoth⟩ := BJ x Ij U4.out.lh TZ; have wO : W.heap[b]? = _ := (hI.2.1 b hbS (Ne.symm D7)).trans U4.out.uH; have wP : bx ≠ mh := by have := TR.out; omega
   have BK : W.heap[bx]? = _ := (hI.2.1 bx (ji wN) wP).trans wN.out; have Cr : vb ≠ mh := by have := TZ.out; omega
   have hS2 : W2.cell? ⟨bx, 0, none⟩ = some (.pointer (some ⟨b, 0, none⟩)) /\ W2.cell? ⟨b, 2, none⟩ = some (.map (some mh)) /\ W2.heap[vb]? = some (.cells #[.string ⟨x.2.1.toArray⟩, .string ⟨x.2.2.toArray⟩] 121 (0, 0)) :=
    ⟨jK ((hoth bx wP (ji BK)).trans BK) 0 _ rfl, jK ((hoth b (Ne.symm D7) (ji wO)).trans wO) 2 _ rfl, (hoth vb Cr (ji Rc)).trans Rc⟩
   have hS1 : W.drew.cell? ⟨bx, 0, none⟩ = some (.pointer (some ⟨b, 0, none⟩)) /\ W.drew.cell? ⟨b, 2, none⟩ = some (.map (some mh)) /\ W.drew.heap[vb]? = some (.cells #[.string ⟨x.2.1.toArray⟩, .string ⟨x.2.2.toArray⟩] 121 (0, 0)) :=
    ⟨xK BK 0 rfl, xK wO 2 rfl, Rc⟩
   have V5 := hid hS1; have HS2 := hid hS2; have TK := hid hK2; have tV := hid Ik; have HI2 := hid hI2
   clear hI Rc Ij hI2 hK2 Ik hoth wO BK hS1 hS2 hloop hpl; simp only [fv]; obtain ⟨x1, x2, x3⟩ := x
   dsimp only at *
   gi_wp2
   refine UM (S := fun (u : World) => u.cell? ⟨bx, 0, none⟩ = some (.pointer (some ⟨b, 0, none⟩)) /\ u.cell? ⟨b, 2, none⟩ = some (.map (some mh)) /\ u.heap[vb]? = some (.cells #[.string ⟨x2.toArray⟩, .string ⟨x3.toArray⟩] 121 (0, 0))) (by kernel_rfl) (by kernel_rfl) V5 (fun hHeld => ?_); refine J7 (i := 0) (v := .pointer (some ⟨b, 0, none⟩)) rfl (by kernel_rfl) (by kernel_rfl) (by kernel_rfl) (fun _ _ _ h => by first | exact h | exact h.elim | (cases h.1)) (Or.inl ⟨by rfl, fun w' hSw => by have hx := hSw.1; go_simp⟩) hHeld ?_; refine J7 (i := 1) (v := .pointer (some ⟨b, 0, none⟩)) rfl (by kernel_rfl) (by kernel_rfl) (by kernel_rfl) (fun _ _ _ h => by first | exact h | exact h.elim | (cases h.1)) (Or.inl ⟨by rfl, fun w' hSw => by go_simp⟩) hHeld ?_; refine J7 (i := 2) (v := .pointer (some ⟨b, 2, none⟩)) rfl (by kernel_rfl) (by kernel_rfl) (by kernel_rfl) (fun _ _ _ h => by first | exact h | exact h.elim | (cases h.1)) (Or.inl ⟨by rfl, fun w' hSw => by go_simp⟩) hHeld ?_; refine J7 (i := 3) (v := .map (some mh)) rfl (by kernel_rfl) (by kernel_rfl) (by kernel_rfl) (fun _ _ _ h => by first | exact h | exact h.elim | (cases h.1)) (Or.inl ⟨by rfl, fun w' hSw => by have hx := hSw.2.1; go_simp⟩) hHeld ?_; refine J7 (i := 4) (v := .pointer (some ⟨vb, 0, none⟩)) rfl (by kernel_rfl) (by kernel_rfl) (by kernel_rfl) (fun _ _ _ h => by first | exact h | exact h.elim | (cases h.1)) (Or.inl ⟨by rfl, fun w' hSw => by go_simp⟩) hHeld ?_; refine J7 (i := 5) (v := .string ⟨x2.toArray⟩) rfl (by kernel_rfl) (by kernel_rfl) (by kernel_rfl) (fun _ _ _ h => by first | exact h | exact h.elim | (cases h.1)) (Or.inl ⟨by rfl, fun w' hSw => by have hx := jK hSw.2.2 0 _ rfl; go_simp⟩) hHeld ?_; refine J7 (i := 6) (v := .agg #[.string ⟨x2.toArray⟩, .string ⟨x3.toArray⟩]) rfl (by kernel_rfl) (by kernel_rfl) (by kernel_rfl) (fun _ _ _ h => by first | exact h | exact h.elim | (cases h.1)) (Or.inl ⟨by rfl, fun w' hSw => by have hx := jK hSw.2.2 0 _ rfl; have hy := jK hSw.2.2 1 _ rfl; go_simp⟩) hHeld ?_
   try simp only [aP]
   refine wR 7 rfl (fun K hK => ?_); go_simp; refine hK.out _ _ HS2.out (fun hHeld => ?_); clear hK K; refine wD ?_; exact ⟨⟨tV.out.size, tV.out.same⟩, TK.out, HI2.out⟩
  case done =>
   rintro Dq ys W hD rfl hI hDe; have hbS := U4.out.low.1; have D7 := U4.out.apart.2.1; have wO : W.heap[b]? = _ := (hI.2.1 b hbS (Ne.symm D7)).trans U4.out.uH; have wP : bx ≠ mh := by have := TR.out; omega
   have Ta : bx ≠ b := by have := TR.out; omega
   have BK : W.heap[bx]? = _ := (hI.2.1 bx (ji wN) wP).trans wN.out; have hS1 : W.drew.cell? ⟨bx, 0, none⟩ = some (.pointer (some ⟨b, 0, none⟩)) := xK BK 0 rfl; have wH : (W.drew.setCell ⟨b, 3, none⟩ (.slice q A.length c)).cell? ⟨bx, 0, none⟩ = some (.pointer (some ⟨b, 0, none⟩)) := jK ((jP W.drew ⟨b, 3, none⟩ _ bx Ta).trans BK) 0 _ rfl; have hDn : Dq ≠ b := by omega
   have Nj : (W.drew.setCell ⟨b, 3, none⟩ (.slice q A.length c)).heap[Dq]? = some (.deferred (some [])) := (jP W.drew ⟨b, 3, none⟩ _ Dq hDn).trans hDe
   have hb3 : (W.drew.setCell ⟨b, 3, none⟩ (.slice q A.length c)).heap[b]? = some (.cells #[.map (some mt), .int .i64 n, .map (some mh), .slice q A.length c] 52 (0, 0)) := by
    have := Jf (w := W.drew) wO 3 (.slice q A.length c); simpa using this
   have c3 : W.drew.cell? ⟨b, 3, none⟩ = some (.slice q M c) := xK wO 3 rfl; have f3 : W.drew.frozen? ⟨b, 3, none⟩ = false := jX (w := W.drew) wO 3; have Il : (A.length : Int) <= ((c : Nat) : Int) := AU.out; have HI := hid hI; have dK := hid wH; have Im := hid Nj; have HB3 := hid hb3; have V5 := hid hS1; have AZ := hid hD
   clear hI hS1 wH hDe Nj hb3 wO BK hD
   gi_wp2
   refine wpIn_wide.2 ?_; refine BI { tmps := List.toArray (.pointer (some ⟨b, 0, none⟩) :: .int .i64 A.length :: .pointer (some ⟨bx, 0, none⟩) :: undef :: undef :: undef :: .pointer (some ⟨b, 0, none⟩) :: .pointer (some ⟨b, 0, none⟩) :: .pointer (some ⟨b, 3, none⟩) :: .slice q M c :: .int .i64 A.length :: .slice rq ext.length rc :: .func (.func 75) #[] #[.pointer (some ⟨Bs, 0, none⟩)] :: undef :: undef :: undef :: undef :: undef :: undef :: undef :: undef :: undef :: .pointer (some ⟨b, 0, none⟩) :: .pointer (some ⟨b, 0, none⟩) :: .pointer (some ⟨b, 0, none⟩) :: .pointer (some ⟨b, 3, none⟩) :: .slice q M c :: .int .i64 A.length :: .slice q A.length c :: .pointer (some ⟨b, 0, none⟩) :: .pointer (some ⟨b, 3, none⟩) :: []), defers := { target := .collected Dq, args := #[] } :: [] } (W.drew.setCell ⟨b, 3, none⟩ (.slice q A.length c)) ?_ ?_
   focus
    refine jU (S := fun (u : World) => u.cell? ⟨bx, 0, none⟩ = some (.pointer (some ⟨b, 0, none⟩))) (by kernel_rfl) V5.out (fun hHeld => ?_); refine J7 (i := 0) (v := .pointer (some ⟨b, 0, none⟩)) rfl (by kernel_rfl) (by kernel_rfl) (by kernel_rfl) (fun _ _ _ h => by first | exact h | exact h.elim | (cases h.1)) (Or.inl ⟨by rfl, fun w' hSw => by have hx : w'.cell? ⟨bx, 0, none⟩ = some (.pointer (some ⟨b, 0, none⟩)) := hSw; go_simp⟩) hHeld ?_; refine J7 (i := 1) (v := .pointer (some ⟨b, 0, none⟩)) rfl (by kernel_rfl) (by kernel_rfl) (by kernel_rfl) (fun _ _ _ h => by first | exact h | exact h.elim | (cases h.1)) (Or.inl ⟨by rfl, fun w' hSw => by have hx : w'.cell? ⟨bx, 0, none⟩ = some (.pointer (some ⟨b, 0, none⟩)) := hSw; go_simp⟩) hHeld ?_; refine J7 (i := 2) (v := .pointer (some ⟨b, 0, none⟩)) rfl (by kernel_rfl) (by kernel_rfl) (by kernel_rfl) (fun _ _ _ h => by first | exact h | exact h.elim | (cases h.1)) (Or.inl ⟨by rfl, fun w' hSw => by go_simp⟩) hHeld ?_; refine J7 (i := 3) (v := .pointer (some ⟨b, 3, none⟩)) rfl (by kernel_rfl) (by kernel_rfl) (by kernel_rfl) (fun _ _ _ h => by first | exact h | exact h.elim | (cases h.1)) (Or.inl ⟨by rfl, fun w' hSw => by go_simp⟩) hHeld ?_; refine J7 (i := 5) (v := .int .i64 A.length) rfl (by kernel_rfl) (by kernel_rfl) (by kernel_rfl) (fun _ _ _ h => by first | exact h | exact h.elim | (cases h.1)) (Or.inl ⟨by rfl, fun w' hSw => by go_simp⟩) hHeld ?_
    try simp only [aP]
    refine wR 4 rfl (fun K hK => ?_); go_simp; refine hK.out _ _ V5.out (fun hHeld => ?_); clear hK K; refine wR 6 rfl (fun K hK => ?_); go_simp; refine hK.out _ _ V5.out (fun hHeld => ?_); clear hK K; refine wR 7 rfl (fun K hK => ?_); go_simp; refine hK.out _ _ V5.out (fun hHeld => ?_); clear hK K; refine wR 8 rfl (fun K hK => ?_); go_simp; refine hK.out _ _ V5.out (fun hHeld => ?_); clear hK K; refine wR 9 rfl (fun K hK => ?_); go_simp; refine hK.out _ _ dK.out (fun hHeld => ?_); clear hK K hHeld c3 f3 Il; refine wD ?_; exact ⟨rfl, rfl, rfl⟩
   clear c3 f3 Il; have Io := hid (fun (k : Nat) (hn : k ≠ b) => (jP W.drew ⟨b, 3, none⟩ (.slice q A.length c) k hn : (W.drew.setCell ⟨b, 3, none⟩ (.slice q A.length c)).heap[k]? = W.heap[k]?)); have Zj := hid ((jD lo W).drew.setCell (p := ⟨b, 3, none⟩) U4.out.lb (.slice q A.length c)); generalize W.drew.setCell ⟨b, 3, none⟩ (.slice q A.length c) = W3 at *; refine ⟨by simp, .inl ⟨_, _, rfl, run_takeDeferred Im.out, ?_⟩⟩; have hgr := fun o' => grownBy_putObj' W3 Dq o'
   have jF8 : Dq < W3.heap.size := (JW.1 Im.out).1; have jF9 := AZ.out; have Aa := QX.out; refine ⟨_, results_none rfl _ _ _, rfl, .slice q A.length c, ?_, ?_⟩
   . refine Nb U4 RZ HI (((hgr _).block b (by omega) (fun e => by cases e; omega)).trans HB3.out) (fun k h1 h2 => ((hgr _).block k (by omega) (fun e => by cases e; omega)).trans (Io.out k h2))
   . rw [<- RZ.out]; exact Nc U4 ((HA.out.trans (AV.out.mono HA.out.size))) l4 HI (Zj.out.grown (hgr _) (by omega) (fun k e => by cases e; omega)) (fun k h1 h2 => ((hgr _).block k (by omega) (fun e => by cases e; omega)).trans (Io.out k h2))
  case stop =>
   intro D c pre W hD _ h _; exact h.elim
end Fr
end Go.Proofs.YtlnjdclmopblcaaDoor
namespace Go.Proofs.YtlnjdclmopblcaaDoor
open Go Go.RowKit
open Go.Lib (hid)
namespace Fr
def kN (v : Value) : Prop := ∃ s : ByteArray, v = .string s
theorem LP {v : Value} (h : kN v) : ∀ c ∈ v.cells.toList, c.oneCell' = true := by
 obtain ⟨s, rfl⟩ := h; intro c hc; simp only [Value.cells, jf, Ja, Qu] at hc; subst hc; rfl
theorem wQ {α : Type} (Js : Value -> α -> Prop) (hsh : ∀ v x, Js v x -> kN v) (v : Value) (xs : List α) (w : World) (h : JO 1 Js w v xs) (hs : xs.length <= 1000000) :
 Calls Tryd.prog 51 #[v] w fun e w' => ∃ v' us, e = .returned v' /\ w'.ownsRow w.heap.size 9 1 v' xs.length (cellsOf us) /\ qw Js us xs /\ (∀ u ∈ us, u.cells.size = 1) /\ Below w.heap.size w w' := by
 obtain ⟨p, c, rfl⟩ := h.len; have qT : ∀ (w : World) (a : Option Addr) (n c n' c' : Nat), (binOp .eql 34 (.slice a n c) (.slice none n' c')).run Tryd.prog w = .ok (.bool a.isNone) w := fun w a n c n' c' => Lib.run_eql_slice_nil w _ _ a n c n' c' Tryd.underlying34
 obtain ⟨i0, q0, q1, q2, q3⟩ := QL Ka; cases p with
 | none =>
   have hxs : xs = [] := by
    rcases h with ⟨h0, _⟩ | ⟨g, of, c', hv, g1, g2, g3⟩
    . exact h0
    . injection hv with hv; cases hv
   subst hxs; go_enter Tryd.func51, Tryd.ntmps51; go_wp2; go_ret; exact ⟨_, [], rfl, jo _ _ _ _, trivial, (fun u hu => by cases hu), jD _ _⟩
 | some ad =>
   have HX := hid h; have HS := hid hs
   clear h hs; go_enter Tryd.func51, Tryd.ntmps51; go_wp2_with (at_builtin; go_loud (refine QK rfl fun K hK => qy (Js := Js) rfl (.tmp 5) (.tmp 6) 34 rfl w.heap.size 9 i0 _ 1 16 Tryd.underlying34 q0 q1 q2 q3 rfl (by decide) _ 0 [] rfl (yI w #[] 0 (jB _) (by unfold maxLen; omega) rfl) _ rfl xs (HX.out.mono ((jD _ _).alloc (jB _) _) (fun _ _ _ h => h)) (fun u x hu => LP (hsh u x hu)) (by have := HS.out; unfold maxLen; omega) (by have := HS.out; omega) (by simp) ?_)); intro v3 w3 Nk hr3 hz3 hown3 VS hlo3
   have hb3 : Below w.heap.size w w3 := ((jD _ _).alloc (jB _) (.cells #[] 9)).grown VS (by simp) (fun kk hkk => by
    have : kk = w.heap.size := by simpa [Value.ownBlock] using hkk.symm
    omega)
   have HB3 := hid hb3; have yQ := hid hown3; have HR3 := hid hr3; have HZ3 := hid hz3
   clear hown3 VS hlo3 hb3 hr3 hz3; refine hK _ _ ?_; clear hK; go_wp2; go_ret; exact ⟨v3, Nk, rfl, by simpa using yQ.out, HR3.out, HZ3.out, HB3.out⟩
def yS (v : Value) : Prop := ∃ (a0 : Int) (a1 : Int) (a2 : ByteArray) (a3 : Int) (p4 : Option Addr) (n4 c4 : Nat), v = .agg #[.int .i64 a0, .int .i64 a1, .string a2, .int .i64 a3, .slice p4 n4 c4]
theorem xJ {v : Value} (h : yS v) : v.cells.size = 5 := by
 obtain ⟨a0, a1, a2, a3, p4, n4, c4, rfl⟩ := h; rfl
theorem LQ {v : Value} (h : yS v) : ∀ c ∈ v.cells.toList, c.oneCell' = true := by
 obtain ⟨a0, a1, a2, a3, p4, n4, c4, rfl⟩ := h; intro c hc; simp only [Value.cells, jf, Ja, Qu] at hc
 rcases hc with rfl | rfl | rfl | rfl | rfl <;> rfl
theorem wV {α : Type} (Js : Value -> α -> Prop) (hsh : ∀ v x, Js v x -> yS v) (v : Value) (xs : List α) (w : World) (h : JO 5 Js w v xs) (hs : xs.length <= 1000000) :
 Calls Tryd.prog 82 #[v] w fun e w' => ∃ v' us, e = .returned v' /\ w'.ownsRow w.heap.size 85 5 v' xs.length (cellsOf us) /\ qw Js us xs /\ (∀ u ∈ us, u.cells.size = 5) /\ Below w.heap.size w w' := by
 obtain ⟨p, c, rfl⟩ := h.len; have qT : ∀ (w : World) (a : Option Addr) (n c n' c' : Nat), (binOp .eql 83 (.slice a n c) (.slice none n' c')).run Tryd.prog w = .ok (.bool a.isNone) w := fun w a n c n' c' => Lib.run_eql_slice_nil w _ _ a n c n' c' Tryd.underlying83
 obtain ⟨i0, q0, q1, q2, q3⟩ := QL Ez; cases p with
 | none =>
   have hxs : xs = [] := by
    rcases h with ⟨h0, _⟩ | ⟨g, of, c', hv, g1, g2, g3⟩
    . exact h0
    . injection hv with hv; cases hv
   subst hxs; go_enter Tryd.func82, Tryd.ntmps82; go_wp2; go_ret; exact ⟨_, [], rfl, jo _ _ _ _, trivial, (fun u hu => by cases hu), jD _ _⟩
 | some ad =>
   have HX := hid h; have HS := hid hs
   clear h hs; go_enter Tryd.func82, Tryd.ntmps82; go_wp2_with (at_builtin; go_loud (refine QK rfl fun K hK => qy (Js := Js) rfl (.tmp 5) (.tmp 6) 83 rfl w.heap.size 85 i0 _ 5 64 Tryd.underlying83 q0 q1 q2 q3 rfl (by decide) _ 0 [] rfl (yI w #[] 0 (jB _) (by unfold maxLen; omega) rfl) _ rfl xs (HX.out.mono ((jD _ _).alloc (jB _) _) (fun _ _ _ h => h)) (fun u x hu => LQ (hsh u x hu)) (by have := HS.out; unfold maxLen; omega) (by have := HS.out; omega) (by simp) ?_)); intro v3 w3 Nk hr3 hz3 hown3 VS hlo3
   have hb3 : Below w.heap.size w w3 := ((jD _ _).alloc (jB _) (.cells #[] 85)).grown VS (by simp) (fun kk hkk => by
    have : kk = w.heap.size := by simpa [Value.ownBlock] using hkk.symm
    omega)
   have HB3 := hid hb3; have yQ := hid hown3; have HR3 := hid hr3; have HZ3 := hid hz3
   clear hown3 VS hlo3 hb3 hr3 hz3; refine hK _ _ ?_; clear hK; go_wp2; go_ret; exact ⟨v3, Nk, rfl, by simpa using yQ.out, HR3.out, HZ3.out, HB3.out⟩
def qH (v : Value) : Prop := ∃ (a0 : Int) (a1 : Int) (a2 : ByteArray) (a3 : Int) (p4 : Option Addr) (n4 c4 : Nat) (p5 : Option Addr) (n5 c5 : Nat) (p6 : Option Addr) (n6 c6 : Nat), v = .agg #[.int .i64 a0, .int .i64 a1, .string a2, .int .i64 a3, .slice p4 n4 c4, .slice p5 n5 c5, .slice p6 n6 c6]
theorem VG {v : Value} (h : qH v) : v.cells.size = 7 := by
 obtain ⟨a0, a1, a2, a3, p4, n4, c4, p5, n5, c5, p6, n6, c6, rfl⟩ := h; rfl
theorem eH {v : Value} (h : qH v) : ∀ c ∈ v.cells.toList, c.oneCell' = true := by
 obtain ⟨a0, a1, a2, a3, p4, n4, c4, p5, n5, c5, p6, n6, c6, rfl⟩ := h; intro c hc; simp only [Value.cells, jf, Ja, Qu] at hc
 rcases hc with rfl | rfl | rfl | rfl | rfl | rfl | rfl <;> rfl
theorem Xx {α : Type} (Js : Value -> α -> Prop) (hsh : ∀ v x, Js v x -> qH v) (v : Value) (xs : List α) (w : World) (h : JO 7 Js w v xs) (hs : xs.length <= 1000000) :
 Calls Tryd.prog 72 #[v] w fun e w' => ∃ v' us, e = .returned v' /\ w'.ownsRow w.heap.size 38 7 v' xs.length (cellsOf us) /\ qw Js us xs /\ (∀ u ∈ us, u.cells.size = 7) /\ Below w.heap.size w w' := by
 obtain ⟨p, c, rfl⟩ := h.len; have qT : ∀ (w : World) (a : Option Addr) (n c n' c' : Nat), (binOp .eql 35 (.slice a n c) (.slice none n' c')).run Tryd.prog w = .ok (.bool a.isNone) w := fun w a n c n' c' => Lib.run_eql_slice_nil w _ _ a n c n' c' Tryd.underlying35
 obtain ⟨i0, q0, q1, q2, q3⟩ := QL u6; cases p with
 | none =>
   have hxs : xs = [] := by
    rcases h with ⟨h0, _⟩ | ⟨g, of, c', hv, g1, g2, g3⟩
    . exact h0
    . injection hv with hv; cases hv
   subst hxs; go_enter Tryd.func72, Tryd.ntmps72; go_wp2; go_ret; exact ⟨_, [], rfl, jo _ _ _ _, trivial, (fun u hu => by cases hu), jD _ _⟩
 | some ad =>
   have HX := hid h; have HS := hid hs
   clear h hs; go_enter Tryd.func72, Tryd.ntmps72; go_wp2_with (at_builtin; go_loud (refine QK rfl fun K hK => qy (Js := Js) rfl (.tmp 5) (.tmp 6) 35 rfl w.heap.size 38 i0 _ 7 112 Tryd.underlying35 q0 q1 q2 q3 rfl (by decide) _ 0 [] rfl (yI w #[] 0 (jB _) (by unfold maxLen; omega) rfl) _ rfl xs (HX.out.mono ((jD _ _).alloc (jB _) _) (fun _ _ _ h => h)) (fun u x hu => eH (hsh u x hu)) (by have := HS.out; unfold maxLen; omega) (by have := HS.out; omega) (by simp) ?_)); intro v3 w3 Nk hr3 hz3 hown3 VS hlo3
   have hb3 : Below w.heap.size w w3 := ((jD _ _).alloc (jB _) (.cells #[] 38)).grown VS (by simp) (fun kk hkk => by
    have : kk = w.heap.size := by simpa [Value.ownBlock] using hkk.symm
    omega)
   have HB3 := hid hb3; have yQ := hid hown3; have HR3 := hid hr3; have HZ3 := hid hz3
   clear hown3 VS hlo3 hb3 hr3 hz3; refine hK _ _ ?_; clear hK; go_wp2; go_ret; exact ⟨v3, Nk, rfl, by simpa using yQ.out, HR3.out, HZ3.out, HB3.out⟩
def BL (v : Value) : Prop := ∃ (a0 : Int) (a1 : Int) (a2 : ByteArray) (a3 : Int) (p4 : Option Addr) (n4 c4 : Nat) (a5 : Int) (a6 : Int) (a7 : ByteArray) (a8 : Int) (p9 : Option Addr) (n9 c9 : Nat) (Ip : Option Addr) (n10 c10 : Nat) (Iq : Option Addr) (n11 c11 : Nat), v = .agg #[.int .i64 a0, .int .i64 a1, .string a2, .int .i64 a3, .slice p4 n4 c4, .int .i64 a5, .int .i64 a6, .string a7, .int .i64 a8, .slice p9 n9 c9, .slice Ip n10 c10, .slice Iq n11 c11]
theorem LU {v : Value} (h : BL v) : ∀ c ∈ v.cells.toList, c.oneCell' = true := by
 obtain ⟨a0, a1, a2, a3, p4, n4, c4, a5, a6, a7, a8, p9, n9, c9, Ip, n10, c10, Iq, n11, c11, rfl⟩ := h; intro c hc; simp only [Value.cells, jf, Ja, Qu] at hc
 rcases hc with rfl | rfl | rfl | rfl | rfl | rfl | rfl | rfl | rfl | rfl | rfl | rfl <;> rfl
theorem wW {α : Type} (Js : Value -> α -> Prop) (hsh : ∀ v x, Js v x -> BL v) (v : Value) (xs : List α) (w : World) (h : JO 12 Js w v xs) (hs : xs.length <= 1000000) :
 Calls Tryd.prog 73 #[v] w fun e w' => ∃ v' us, e = .returned v' /\ w'.ownsRow w.heap.size 87 12 v' xs.length (cellsOf us) /\ qw Js us xs /\ (∀ u ∈ us, u.cells.size = 12) /\ Below w.heap.size w w' := by
 obtain ⟨p, c, rfl⟩ := h.len; have qT : ∀ (w : World) (a : Option Addr) (n c n' c' : Nat), (binOp .eql 36 (.slice a n c) (.slice none n' c')).run Tryd.prog w = .ok (.bool a.isNone) w := fun w a n c n' c' => Lib.run_eql_slice_nil w _ _ a n c n' c' Tryd.underlying36
 obtain ⟨i0, q0, q1, q2, q3⟩ := QL fB; cases p with
 | none =>
   have hxs : xs = [] := by
    rcases h with ⟨h0, _⟩ | ⟨g, of, c', hv, g1, g2, g3⟩
    . exact h0
    . injection hv with hv; cases hv
   subst hxs; go_enter Tryd.func73, Tryd.ntmps73; go_wp2; go_ret; exact ⟨_, [], rfl, jo _ _ _ _, trivial, (fun u hu => by cases hu), jD _ _⟩
 | some ad =>
   have HX := hid h; have HS := hid hs
   clear h hs; go_enter Tryd.func73, Tryd.ntmps73; go_wp2_with (at_builtin; go_loud (refine QK rfl fun K hK => qy (Js := Js) rfl (.tmp 5) (.tmp 6) 36 rfl w.heap.size 87 i0 _ 12 176 Tryd.underlying36 q0 q1 q2 q3 rfl (by decide) _ 0 [] rfl (yI w #[] 0 (jB _) (by unfold maxLen; omega) rfl) _ rfl xs (HX.out.mono ((jD _ _).alloc (jB _) _) (fun _ _ _ h => h)) (fun u x hu => LU (hsh u x hu)) (by have := HS.out; unfold maxLen; omega) (by have := HS.out; omega) (by simp) ?_)); intro v3 w3 Nk hr3 hz3 hown3 VS hlo3
   have hb3 : Below w.heap.size w w3 := ((jD _ _).alloc (jB _) (.cells #[] 87)).grown VS (by simp) (fun kk hkk => by
    have : kk = w.heap.size := by simpa [Value.ownBlock] using hkk.symm
    omega)
   have HB3 := hid hb3; have yQ := hid hown3; have HR3 := hid hr3; have HZ3 := hid hz3
   clear hown3 VS hlo3 hb3 hr3 hz3; refine hK _ _ ?_; clear hK; go_wp2; go_ret; exact ⟨v3, Nk, rfl, by simpa using yQ.out, HR3.out, HZ3.out, HB3.out⟩
def xR (v : Value) : Prop := ∃ (a0 : Int) (a1 : ByteArray) (p2 : Option Addr) (n2 c2 : Nat) (a3 : Int) (a4 : Int) (a5 : ByteArray) (a6 : Int) (p7 : Option Addr) (n7 c7 : Nat) (p8 : Option Addr) (n8 c8 : Nat) (p9 : Option Addr) (n9 c9 : Nat), v = .agg #[.int .i64 a0, .string a1, .slice p2 n2 c2, .int .i64 a3, .int .i64 a4, .string a5, .int .i64 a6, .slice p7 n7 c7, .slice p8 n8 c8, .slice p9 n9 c9]
theorem LV {v : Value} (h : xR v) : ∀ c ∈ v.cells.toList, c.oneCell' = true := by
 obtain ⟨a0, a1, p2, n2, c2, a3, a4, a5, a6, p7, n7, c7, p8, n8, c8, p9, n9, c9, rfl⟩ := h; intro c hc; simp only [Value.cells, jf, Ja, Qu] at hc
 rcases hc with rfl | rfl | rfl | rfl | rfl | rfl | rfl | rfl | rfl | rfl <;> rfl
theorem wX {α : Type} (Js : Value -> α -> Prop) (hsh : ∀ v x, Js v x -> xR v) (v : Value) (xs : List α) (w : World) (h : JO 10 Js w v xs) (hs : xs.length <= 1000000) :
 Calls Tryd.prog 31 #[v] w fun e w' => ∃ v' us, e = .returned v' /\ w'.ownsRow w.heap.size 40 10 v' xs.length (cellsOf us) /\ qw Js us xs /\ (∀ u ∈ us, u.cells.size = 10) /\ Below w.heap.size w w' := by
 obtain ⟨p, c, rfl⟩ := h.len; have qT : ∀ (w : World) (a : Option Addr) (n c n' c' : Nat), (binOp .eql 24 (.slice a n c) (.slice none n' c')).run Tryd.prog w = .ok (.bool a.isNone) w := fun w a n c n' c' => Lib.run_eql_slice_nil w _ _ a n c n' c' Tryd.underlying24
 obtain ⟨i0, q0, q1, q2, q3⟩ := QL fC; cases p with
 | none =>
   have hxs : xs = [] := by
    rcases h with ⟨h0, _⟩ | ⟨g, of, c', hv, g1, g2, g3⟩
    . exact h0
    . injection hv with hv; cases hv
   subst hxs; go_enter Tryd.func31, Tryd.ntmps31; go_wp2; go_ret; exact ⟨_, [], rfl, jo _ _ _ _, trivial, (fun u hu => by cases hu), jD _ _⟩
 | some ad =>
   have HX := hid h; have HS := hid hs
   clear h hs; go_enter Tryd.func31, Tryd.ntmps31; go_wp2_with (at_builtin; go_loud (refine QK rfl fun K hK => qy (Js := Js) rfl (.tmp 5) (.tmp 6) 24 rfl w.heap.size 40 i0 _ 10 160 Tryd.underlying24 q0 q1 q2 q3 rfl (by decide) _ 0 [] rfl (yI w #[] 0 (jB _) (by unfold maxLen; omega) rfl) _ rfl xs (HX.out.mono ((jD _ _).alloc (jB _) _) (fun _ _ _ h => h)) (fun u x hu => LV (hsh u x hu)) (by have := HS.out; unfold maxLen; omega) (by have := HS.out; omega) (by simp) ?_)); intro v3 w3 Nk hr3 hz3 hown3 VS hlo3
   have hb3 : Below w.heap.size w w3 := ((jD _ _).alloc (jB _) (.cells #[] 40)).grown VS (by simp) (fun kk hkk => by
    have : kk = w.heap.size := by simpa [Value.ownBlock] using hkk.symm
    omega)
   have HB3 := hid hb3; have yQ := hid hown3; have HR3 := hid hr3; have HZ3 := hid hz3
   clear hown3 VS hlo3 hb3 hr3 hz3; refine hK _ _ ?_; clear hK; go_wp2; go_ret; exact ⟨v3, Nk, rfl, by simpa using yQ.out, HR3.out, HZ3.out, HB3.out⟩
def Ur (v : Value) : Prop := ∃ (a0 : Int) (a1 : ByteArray) (p2 : Option Addr) (n2 c2 : Nat) (p3 : Option Addr) (n3 c3 : Nat), v = .agg #[.int .i64 a0, .string a1, .slice p2 n2 c2, .slice p3 n3 c3]
theorem eO {v : Value} (h : Ur v) : ∀ c ∈ v.cells.toList, c.oneCell' = true := by
 obtain ⟨a0, a1, p2, n2, c2, p3, n3, c3, rfl⟩ := h; intro c hc; simp only [Value.cells, jf, Ja, Qu] at hc
 rcases hc with rfl | rfl | rfl | rfl <;> rfl
theorem Xy {α : Type} (Js : Value -> α -> Prop) (hsh : ∀ v x, Js v x -> Ur v) (v : Value) (xs : List α) (w : World) (h : JO 4 Js w v xs) (hs : xs.length <= 1000000) :
 Calls Tryd.prog 14 #[v] w fun e w' => ∃ v' us, e = .returned v' /\ w'.ownsRow w.heap.size 56 4 v' xs.length (cellsOf us) /\ qw Js us xs /\ (∀ u ∈ us, u.cells.size = 4) /\ Below w.heap.size w w' := by
 obtain ⟨p, c, rfl⟩ := h.len; have qT : ∀ (w : World) (a : Option Addr) (n c n' c' : Nat), (binOp .eql 23 (.slice a n c) (.slice none n' c')).run Tryd.prog w = .ok (.bool a.isNone) w := fun w a n c n' c' => Lib.run_eql_slice_nil w _ _ a n c n' c' Tryd.underlying23
 obtain ⟨i0, q0, q1, q2, q3⟩ := QL bN; cases p with
 | none =>
   have hxs : xs = [] := by
    rcases h with ⟨h0, _⟩ | ⟨g, of, c', hv, g1, g2, g3⟩
    . exact h0
    . injection hv with hv; cases hv
   subst hxs; go_enter Tryd.func14, Tryd.ntmps14; go_wp2; go_ret; exact ⟨_, [], rfl, jo _ _ _ _, trivial, (fun u hu => by cases hu), jD _ _⟩
 | some ad =>
   have HX := hid h; have HS := hid hs
   clear h hs; go_enter Tryd.func14, Tryd.ntmps14; go_wp2_with (at_builtin; go_loud (refine QK rfl fun K hK => qy (Js := Js) rfl (.tmp 5) (.tmp 6) 23 rfl w.heap.size 56 i0 _ 4 72 Tryd.underlying23 q0 q1 q2 q3 rfl (by decide) _ 0 [] rfl (yI w #[] 0 (jB _) (by unfold maxLen; omega) rfl) _ rfl xs (HX.out.mono ((jD _ _).alloc (jB _) _) (fun _ _ _ h => h)) (fun u x hu => eO (hsh u x hu)) (by have := HS.out; unfold maxLen; omega) (by have := HS.out; omega) (by simp) ?_)); intro v3 w3 Nk hr3 hz3 hown3 VS hlo3
   have hb3 : Below w.heap.size w w3 := ((jD _ _).alloc (jB _) (.cells #[] 56)).grown VS (by simp) (fun kk hkk => by
    have : kk = w.heap.size := by simpa [Value.ownBlock] using hkk.symm
    omega)
   have HB3 := hid hb3; have yQ := hid hown3; have HR3 := hid hr3; have HZ3 := hid hz3
   clear hown3 VS hlo3 hb3 hr3 hz3; refine hK _ _ ?_; clear hK; go_wp2; go_ret; exact ⟨v3, Nk, rfl, by simpa using yQ.out, HR3.out, HZ3.out, HB3.out⟩
end Fr
namespace Fr
def vY (w : World) (g : Nat) : Nat -> List Value -> World
 | _, [] => w
 | k, z :: r => vY (w.setCell ⟨g, k, none⟩ z) g (k + 1) r
theorem ZL (g : Nat) : ∀ (zs : List Value) (w : World) (k c : Nat), c ≠ g -> (vY w g k zs).heap[c]? = w.heap[c]?
 | [], w, k, c, h => rfl
 | z :: r, w, k, c, h => (ZL g r _ (k + 1) c h).trans (jP w ⟨g, k, none⟩ z c h)
theorem Vp (g : Nat) : ∀ (zs : List Value) (w : World) (k : Nat), (vY w g k zs).heap.size = w.heap.size
 | [], w, k => rfl
 | z :: r, w, k => by rw [vY, Vp g r]; simp
theorem ZM {lo g : Nat} (hg : lo <= g) : ∀ (zs : List Value) (w : World) (k : Nat), Below lo w (vY w g k zs)
 | [], w, k => jD _ _
 | z :: r, w, k => ((jD lo w).setCell (p := ⟨g, k, none⟩) hg z).trans (ZM hg r _ (k + 1))
theorem XE {g : Nat} {E : TypeId} : ∀ (zs : List Value) (w : World) (k : Nat) (cur : Array Value), w.heap[g]? = some (.cells cur E (0, 0)) -> k + zs.length <= cur.size ->
 ∃ cur', (vY w g k zs).heap[g]? = some (.cells cur' E (0, 0)) /\ cur'.size = cur.size /\ (∀ i, i < k \/ k + zs.length <= i -> cur'[i]? = cur[i]?) /\ ∀ j z, zs[j]? = some z -> cur'[k + j]? = some z
 | [], w, k, cur, h, hs => ⟨cur, h, rfl, fun _ _ => rfl, fun j z hz => by simp at hz⟩
 | z :: r, w, k, cur, h, hs => by
   rw [JG] at hs; obtain ⟨cur', h1, h2, h3, h4⟩ := XE r (w.setCell ⟨g, k, none⟩ z) (k + 1) (cur.setIfInBounds k z) (Jf h k z) (by simp; omega); refine ⟨cur', h1, by rw [h2]; simp, fun i hi => ?_, fun j y hy => ?_⟩
   . rw [JG] at hi; rw [h3 i (by omega)]; exact Array.getElem?_setIfInBounds_ne (by omega)
   . cases j with
     | zero =>
       simp only [zT, Jn] at hy; subst hy; rw [h3 (k + 0) (by omega)]; simp only [jZ]; rw [Array.getElem?_setIfInBounds_self_of_lt (by omega)]
     | succ j =>
       rw [dH] at hy; have := h4 j y hy; rw [show k + (j + 1) = k + 1 + j by omega]; exact this
theorem Half.set {w : World} {E : TypeId} {sz g : Nat} {us : List Value} (h : Half w E sz g us) {m : Nat} (hm : m < us.length) (u : Value) (hu : u.cells.size = sz) : Half (vY w g (m * sz) u.cells.toList) E sz g (us.set m u) := by
 obtain ⟨cur, h1, h2, h3⟩ := h; have hmul : (m + 1) * sz <= us.length * sz := Ze _ hm; rw [Qz, GY] at hmul; have hl : u.cells.toList.length = sz := by simp [hu]
 obtain ⟨cur', a1, a2, a3, a4⟩ := XE (E := E) u.cells.toList w (m * sz) cur h1 (by omega); refine ⟨cur', a1, by rw [a2, List.length_set]; exact h2, fun i v hv => ?_⟩; by_cases e : i = m
 . subst e; rw [List.getElem?_set_self hm] at hv; cases hv; exact ⟨hu, fun j z hz => a4 j z (by rw [zG]; exact hz)⟩
 . rw [List.getElem?_set_ne (Ne.symm e)] at hv; obtain ⟨b1, b2⟩ := h3 i v hv; refine ⟨b1, fun j z hz => ?_⟩; have hj : j < sz := by rw [<- b1]; exact (JW.1 hz).1
   rw [a3 (i * sz + j) ?_]
   . exact b2 j z hz
   . rcases ZA i m with hlt | hge
     . left
       have : (i + 1) * sz <= m * sz := Ze _ hlt; rw [Qz, GY] at this; omega
     . right
       have : (m + 1) * sz <= i * sz := Ze _ (by omega); rw [Qz, GY] at this; omega
theorem VT {w : World} {base : Nat} {E : TypeId} {sz g cap n : Nat} {us : List Value} (h : w.ownsRow base E sz (.slice (some ⟨g, 0, none⟩) n cap) n (cellsOf us)) (hs : ∀ u ∈ us, u.cells.size = sz) (hn : us.length = n) : Half w E sz g us /\ base <= g /\ n <= cap /\ (cap : Int) <= 9223372036854775807 := by
 rcases h.2 with ⟨e, _⟩ | ⟨g', cap', cur, e, a1, a2, a3, a4, a5, a6⟩
 . cases e
 . injection e with e1 _ e2
   injection e1 with e1
   injection e1 with e1
   subst e1; subst e2
   refine ⟨⟨cur, a2, by rw [a5, hn]; exact Ze _ a3, fun i u hu => ?_⟩, a1, a3, by unfold maxLen at a4; omega⟩; have R5 := hs u (jI hu); refine ⟨R5, fun j z hz => ?_⟩; have := ZG sz hs hu hz; rw [<- a6] at this; have hj : j < sz := by rw [<- R5]; exact (JW.1 hz).1
   have hi : i < n := by rw [<- hn]; exact (jm.1 hu).1
   have : (i + 1) * sz <= n * sz := Ze _ hi; rw [Qz, GY] at this; rename_i h0; rw [WS (by omega), zG] at h0; exact h0
section
variable {α : Type} (lo b mt mh : Nat) (D : List Nm) (E : TypeId) (sz g B : Nat) (Qy : Value -> α -> Prop) (Qs : World -> Value -> α -> Prop) (G : α -> Nat -> Env -> Nat × α × Env) (H : α -> Nat -> Env -> List (Nm × Nm)) (w : World) (hv : Value) (n : Nat) (ρ : Env) (hs : List (Nm × Nm)) (xs : List α)
structure zo (m : Nat) (YC : Value) (us : List Value) (wr : World) : Prop where
 st : St wr lo b mt mh YC D (qO G (xs.take m) n ρ).1 (qO G (xs.take m) n ρ).2.2 (hs ++ hst G H (xs.take m) n ρ)
 Xz : Stp lo b mt mh hv YC w wr
 gf : ¬ Fp b mt mh YC g
 big : B <= wr.heap.size
 half : Half wr E sz g us
 len : us.length = xs.length
 outs : ∀ (i : Nat) (u : Value) (y : α), i < m -> us[i]? = some u -> (qO G (xs.take m) n ρ).2.1[i]? = some y -> Q4 Qs B wr b mt mh YC u y
 ins : ∀ (i : Nat) (u : Value) (x : α), m <= i -> us[i]? = some u -> xs[i]? = some x -> Qy u x
variable {lo b mt mh D E sz g B Qy Qs G H w hv n ρ hs xs}
theorem zo.next {m : Nat} {YC hv2 : Value} {us : List Value} {wr w2 : World} {x : α} {out : Value} (h : zo lo b mt mh D E sz g B Qy Qs G H w hv n ρ hs xs m YC us wr) (hgB : g < B) (hgw : w.heap.size <= g) (hgl : lo <= g) (hx : xs[m]? = some x) (ho : out.cells.size = sz)
 (h1 : St w2 lo b mt mh hv2 D (G x (qO G (xs.take m) n ρ).1 (qO G (xs.take m) n ρ).2.2).1 (G x (qO G (xs.take m) n ρ).1 (qO G (xs.take m) n ρ).2.2).2.2 ((hs ++ hst G H (xs.take m) n ρ) ++ H x (qO G (xs.take m) n ρ).1 (qO G (xs.take m) n ρ).2.2))
 (h2 : Stp lo b mt mh YC hv2 wr w2) (h3 : Q4 Qs wr.heap.size w2 b mt mh hv2 out (G x (qO G (xs.take m) n ρ).1 (qO G (xs.take m) n ρ).2.2).2.1) :
 zo lo b mt mh D E sz g B Qy Qs G H w hv n ρ hs xs (m + 1) hv2 (us.set m out) (vY w2 g (m * sz) out.cells.toList) := by
 have hlt : m < xs.length := (jm.1 hx).1; have htk : xs.take (m + 1) = xs.take m ++ [x] := by rw [JC, hx]; rfl
 have hT := bz G x (xs.take m) n ρ; have hH := BA G H x (xs.take m) n ρ; have hbig := h.big; have hgr : g < wr.heap.size := Jo hgB hbig; have Ir : ¬ Fp b mt mh hv2 g := h2.fp hgr h.gf; have hsz := h2.below.size; have hk : ∀ c, c ≠ g -> (vY w2 g (m * sz) out.cells.toList).heap[c]? = w2.heap[c]? := fun c hc => ZL g _ w2 _ c hc
 have hsame : ∀ c, c < w2.heap.size -> Fp b mt mh hv2 c -> (vY w2 g (m * sz) out.cells.toList).heap[c]? = w2.heap[c]? := fun c _ hc => hk c fun e => Ir (by rw [<- e]; exact hc)
 have Tc : Half w2 E sz g us := h.half.keep (h2.stay g hgr h.gf)
 have hstp : Stp lo b mt mh hv hv2 w (vY w2 g (m * sz) out.cells.toList) := by
  have h9 := h.Xz.trans h2; exact ⟨h9.below.trans (ZM hgl _ _ _), fun c hc hn => (hk c (by omega)).trans (h9.stay c hc hn), h9.own⟩
 have hN : ∀ {C : Nat} {v : Value} {y : α}, g < C -> Q4 Qs C w2 b mt mh hv2 v y -> Q4 Qs C (vY w2 g (m * sz) out.cells.toList) b mt mh hv2 v y := fun {C v y} hC hn =>
  hn.keep (by rw [Vp]; exact jB _) fun c hc _ => hk c (by omega)
 refine ⟨?_, hstp, Ir, by rw [Vp]; omega, Tc.set (by rw [h.len]; exact hlt) out ho, by rw [List.length_set]; exact h.len, fun i u y hi hu hy => ?_, fun i u y hi hu hy => ?_⟩
 . rw [htk, hT, hH, <- jg]; exact h1.keep hsame
 . rw [htk, hT] at hy
   dsimp only at hy
   have hl : (qO G (xs.take m) n ρ).2.1.length = m := by rw [zf, Jh]; omega
   by_cases e : i = m
   . subst e; rw [List.getElem?_set_self (by rw [h.len]; exact hlt)] at hu; cases hu; rw [ZP (by omega), hl, Nat.sub_self] at hy; simp only [zT, Jn] at hy; subst hy; exact hN hgB (h3.base hbig)
   . rw [List.getElem?_set_ne (Ne.symm e)] at hu; rw [Yh (by omega)] at hy; exact hN hgB ((h.outs i u y (by omega) hu hy).step h2)
 . rw [List.getElem?_set_ne (by omega)] at hu; exact h.ins i u y (by omega) hu hy
theorem zo.below {m : Nat} {YC : Value} {us : List Value} {wr w2 : World} (h : zo lo b mt mh D E sz g B Qy Qs G H w hv n ρ hs xs m YC us wr) (hb : Below wr.heap.size wr w2) (hgB : g < B) : zo lo b mt mh D E sz g B Qy Qs G H w hv n ρ hs xs m YC us w2 := by
 have hbig := h.big; have hs := hb.size; exact ⟨h.st.below hb, h.Xz.trans (Stp.of_below hb h.st.low.2.2.2), h.gf, by omega, h.half.keep (hb.block g (by omega)), h.len, fun i u y hi hu hy => (h.outs i u y hi hu hy).step (Stp.of_below hb h.st.low.2.2.2), h.ins⟩
theorem zo.start {wc : World} {us : List Value} (hS : St w lo b mt mh hv D n ρ hs) (hbc : Below w.heap.size w wc) (hh : Half wc E sz g us) (hgw : w.heap.size <= g) (hrep : qw Qy us xs) : zo lo b mt mh D E sz g wc.heap.size Qy Qs G H w hv n ρ hs xs 0 hv us wc := by
 obtain ⟨l1, l2, l3, l4⟩ := hS.low; refine ⟨?_, Stp.of_below hbc l4, ?_, jB _, hh, hrep.len, fun i u y hi => by omega, fun i u x _ hu hx => ?_⟩
 . have := hS.below hbc; rw [List.take_zero, hst, Jl]; exact this
 . rintro (e | e | e | e)
   . omega
   . omega
   . omega
   . have := (hS.hid.lt g e).2; omega
 . obtain ⟨y, hy, hr⟩ := hrep.at hx; rw [hu] at hy; cases hy; exact hr
theorem Yy {c : α -> Nat} (hle : ∀ x n ρ, (G x n ρ).1 <= n + (D.length + 1) * c x) (hln : ∀ x n ρ, (H x n ρ).length <= c x) (hn : n + (D.length + 1) * (xs.map c).sum <= 1000000000) (hh : hs.length + (xs.map c).sum <= 100000000) {m : Nat} {x : α} (hx : xs[m]? = some x) :
 (qO G (xs.take m) n ρ).1 + (D.length + 1) * c x <= 1000000000 /\ (hs ++ hst G H (xs.take m) n ρ).length + c x <= 100000000 := by
 have h1 := Zg G (D.length + 1) c hle (xs.take m) n ρ; have h2 := U1 G H c hln (xs.take m) n ρ
 have hs2 : ((xs.take m).map c).sum + c x <= (xs.map c).sum := by
  have e : xs = xs.take m ++ (x :: xs.drop (m + 1)) := by
   have hm : m < xs.length := (jm.1 hx).1; have hg : xs[m] = x := (jm.1 hx).2; rw [<- hg, <- Jg hm, uK]
  have : (xs.map c).sum = ((xs.take m).map c).sum + (c x + ((xs.drop (m + 1)).map c).sum) := by
   conv => lhs; rw [e]
   rw [QN, List.sum_append, je, jy]
  omega
 have h3 : (D.length + 1) * ((xs.take m).map c).sum + (D.length + 1) * c x <= (D.length + 1) * (xs.map c).sum := by
  rw [<- JU]; exact Nat.mul_le_mul_left _ hs2
 rw [jE]; omega
theorem zo.done {YC : Value} {us : List Value} {wr : World} {cap : Nat} (h : zo lo b mt mh D E sz g B Qy Qs G H w hv n ρ hs xs xs.length YC us wr) (hgB : g < B) (hgw : w.heap.size <= g) (hcap : xs.length <= cap) (hcap2 : (cap : Int) <= 9223372036854775807) :
 VQ lo b mt mh D (fun u v l => JO sz (Qs u) u v l) (qO G) (hst G H) w hv n ρ hs xs (.returned (.slice (some ⟨g, 0, none⟩) xs.length cap)) wr := by
 have hst := h.st; have hbig := h.big; rw [jY] at hst; refine ⟨_, YC, rfl, hst, h.Xz, fun u hu => ?_⟩; have hl : (qO G xs n ρ).2.1.length = xs.length := zf ..; have sQ : Half u E sz g us := h.half.keep (hu g hgw (by omega) h.gf); refine .inr ⟨g, 0, cap, by rw [hl], by rw [hl]; exact hcap, hcap2, fun i y hy => ?_⟩; have hi : i < us.length := by rw [h.len, <- hl]; exact (jm.1 hy).1
 obtain ⟨v, hv'⟩ : ∃ v, us[i]? = some v := ⟨_, jA hi⟩
 have hlen := h.len; refine ⟨v, h.outs i v y (by omega) hv' (by rw [jY]; exact hy) u fun c hc hc2 hn => hu c (by omega) hc2 hn, ?_, fun j z hz => ?_⟩
 . obtain ⟨cur, _, _, h3⟩ := sQ; exact (h3 i v hv').1
 . rw [JN]; exact sQ.cell hv' j z hz
theorem Yz {wr : World} {q : Option Addr} {c : Nat} (h : St w lo b mt mh hv D n ρ hs) (hb : Below w.heap.size w wr) : VQ lo b mt mh D (fun u v l => JO sz (Qs u) u v l) (qO G) (hst G H) w hv n ρ hs [] (.returned (.slice q 0 c)) wr := by
 refine ⟨_, hv, rfl, ?_, Stp.of_below hb h.low.2.2.2, fun u _ => .inl ⟨rfl, q, c, rfl⟩⟩; have := h.below hb; rw [hst, Jl]; exact this
end
end Fr
end Go.Proofs.YtlnjdclmopblcaaDoor
