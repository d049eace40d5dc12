/-
  Several texts in one: UJoinQ, UBeg, UInP, UInM, UInL.
-/
import Derived.Test.YtcblppojnailpaaDoorH07
import Derived.Test.YtcblppojnailpaaDoorH05
namespace Go.Proofs.YtcblppojnailpaaDoor
open Go Go.RowKit
set_option linter.unusedVariables false
set_option linter.unusedSimpArgs false
theorem jq_n {kk r m k u : Nat} (h1 : kk ≤ 30000000000) (h2 : kk = r) (h3 : m ≤ k) (h4 : k ≤ u) (h5 : u ≤ 100000) : r + m ≤ 100000000000 := by omega
theorem jq_w {m k u : Nat} (h3 : m ≤ k) (h4 : k ≤ u) (h5 : u ≤ 100000) : wrap64 ((m : Int) + 1) = ((m + 1 : Nat) : Int) := by unfold wrap64; omega
theorem jq_lt {m k : Nat} (h : m ≤ k) (hn : ¬ m = k) : (m : Int) < (k : Int) := by omega
theorem jq_lt2 {m k k' : Nat} (h : m ≤ k) (hn : ¬ m = k) (e : k' = k) : (m : Int) < (k' : Int) := by omega
theorem jq_s {m k : Nat} (h : m ≤ k) (hn : ¬ m = k) : m + 1 ≤ k := by omega
theorem jq_d {m k : Nat} (h : m ≤ k) (hn : ¬ m = k) : k - (((m + 1 : Nat) : Int)).toNat < k - ((m : Int)).toNat := by omega
def waits (r : List (Nat × Nat)) (ks ks' : List Nat) (m : Nat) : List (Nat × Nat) := ((ks.zip ks').take m).reverse ++ r
theorem waits_zero (r : List (Nat × Nat)) (ks ks' : List Nat) : waits r ks ks' 0 = r := by simp [waits]
theorem waits_len (r : List (Nat × Nat)) (ks ks' : List Nat) (m : Nat) (h1 : m ≤ ks.length) (h2 : ks'.length = ks.length) : (waits r ks ks' m).length = r.length + m := by
 simp [waits]; omega
theorem waits_succ (r : List (Nat × Nat)) (ks ks' : List Nat) (m a b : Nat) (h1 : ks[m]? = some a) (h2 : ks'[m]? = some b) : prc (waits r ks ks' (m + 1)) = prc (waits r ks ks' m) ++ [Value.int .i64 (a : Int), Value.int .i64 (b : Int)] := by
 have : (ks.zip ks')[m]? = some (a, b) := by rw [List.getElem?_zip_eq_some]; exact ⟨h1, h2⟩
 unfold waits
 rw [List.take_add_one, this]
 simp only [Option.toList, List.reverse_append, List.reverse_cons, List.reverse_nil, List.nil_append, List.cons_append, prc]
theorem waits_mem (r : List (Nat × Nat)) (ks ks' : List Nat) (h2 : ks'.length = ks.length) : (∀ p ∈ r, p ∈ waits r ks ks' ks.length) ∧ (∀ (k a b : Nat), ks[k]? = some a → ks'[k]? = some b → (a, b) ∈ waits r ks ks' ks.length) ∧ ∀ p ∈ waits r ks ks' ks.length, p ∈ r ∨ ∃ k : Nat, ks[k]? = some p.1 ∧ ks'[k]? = some p.2 := by
 have ht : (ks.zip ks').take ks.length = ks.zip ks' := List.take_of_length_le (by simp; omega)
 unfold waits
 rw [ht]
 refine ⟨fun p hp => List.mem_append_right _ hp, fun k a b h1 h2 => List.mem_append_left _ (List.mem_reverse.2 (List.mem_of_getElem? (i := k) (by rw [List.getElem?_zip_eq_some]; exact ⟨h1, h2⟩))), fun p hp => ?_⟩
 rcases List.mem_append.1 hp with hp | hp
 · obtain ⟨k, hk⟩ := List.mem_iff_getElem?.1 (List.mem_reverse.1 hp)
   rw [List.getElem?_zip_eq_some] at hk
   exact .inr ⟨k, hk⟩
 · exact .inl hp
theorem GSt.other {c : GCx} {e lo n : Nat} {w w' : World} {ps : List Prt} {kl : LKey → Option (List Nat)} {rep : Nat → Nat} {pv v : Value} {xs : List Value} (h : GSt c e w ps kl rep pv) (hC : c.Ok) (ho : w.ownsRow lo 132 2 v n xs) (hlo : c.y0 ≤ lo ∧ c.z1 ≤ lo ∧ c.z2 < lo) (hch : Chg (fun b => v.ownBlock = some b) w w') :
 GSt c e w' ps kl rep pv := by
 have hall : ∀ b, v.ownBlock = some b → ¬ Fz c b ∧ pv.ownBlock ≠ some b ∧ ∀ cur, w.heap[b]? ≠ some (Obj.cells cur 3 (0, 0)) := fun b hb => by
  have hlb := (ho.lt b hb).1
  rcases ho.2 with ⟨rfl, _⟩ | ⟨g', cap', cur', rfl, _, hg', _⟩
  · cases hb
  · injection hb with hb; subst hb
    refine ⟨by dsimp only [Fz] at *; omega, own_ne h.own hg' (fun cs e => by injection e with _ e _; cases e), fun cur e => ?_⟩
    rw [e] at hg'; injection hg' with hg'; injection hg' with _ hg' _; cases hg'
 have hno : ∀ b, Fz c b → ¬ v.ownBlock = some b := fun b hb e => (hall b e).1 hb
 obtain ⟨l1, l2, l3, l4, l5, l6, l7⟩ := hC.low
 exact h.keep hC hch (fun b hb => .inr (hall b hb)) (h.look.chg hch ⟨hno _ (.inl l4), hno _ (.inl l5), hno _ (.inl l6), hno _ (.inl l7)⟩ fun x hx => hno _ (hC.u x hx).1)
theorem IntsV.other {c : GCx} {lo n : Nat} {w w' : World} {v u : Value} {xs : List Value} {ks : List Nat} (h : IntsV c w u ks) (ho : w.ownsRow lo 132 2 v n xs) (hch : Chg (fun b => v.ownBlock = some b) w w') : IntsV c w' u ks :=
 h.keep fun b cur hb hcur => hch.block _ (ent_lt hcur) (own_ne ho hcur fun cs e => by injection e with _ e _; cases e)
/-- What the loop over the lists knows. -/
def PJ (c : GCx) (w0 : World) (lo : Nat) (ps : List Prt) (kl : LKey → Option (List Nat)) (rep : Nat → Nat) (pv pv0 : Value) (r : List (Nat × Nat)) (ks ks' : List Nat) (u u' : Value) (m : Nat) (ov : Value) (wx : World) : Prop :=
 GSt c 2 wx ps kl rep pv ∧ wx.ownsRow lo 132 2 ov (r.length + m) (prc (waits r ks ks' m)) ∧ IntsV c wx u ks ∧ IntsV c wx u' ks' ∧ Chg (GKeep c pv0) w0 wx
theorem PJ.step {c : GCx} {w0 wx w' : World} {lo : Nat} {ps : List Prt} {kl : LKey → Option (List Nat)} {rep : Nat → Nat} {pv pv0 : Value} {r : List (Nat × Nat)} {ks ks' : List Nat} {u u' : Value} {m : Nat} {ov ov' : Value} {a b : Nat} (h : PJ c w0 lo ps kl rep pv pv0 r ks ks' u u' m ov wx) (hC : c.Ok) (hlo : c.y0 ≤ lo ∧ c.z1 ≤ lo ∧ c.z2 < lo) (hl : w0.heap.size ≤ lo)
 (h1 : ks[m]? = some a) (h2 : ks'[m]? = some b) (ho : w'.ownsRow lo 132 2 ov' (r.length + m + 1) (prc (waits r ks ks' m) ++ [Value.int .i64 (a : Int), Value.int .i64 (b : Int)])) (hch : Chg (fun b => ov.ownBlock = some b) wx w') : PJ c w0 lo ps kl rep pv pv0 r ks ks' u u' (m + 1) ov' w' := by
 obtain ⟨g1, g2, g3, g4, g5⟩ := h
 exact ⟨g1.other hC g2 hlo hch, by rw [waits_succ r ks ks' m a b h1 h2]; exact ho, g3.other g2 hch, g4.other g2 hch, g5.then hch fun x hx hr => by have := (g2.lt x hr).1; omega⟩
theorem kids_len {c : GCx} {e : Nat} {w : World} {ps : List Prt} {kl : LKey → Option (List Nat)} {rep : Nat → Nat} {pv : Value} (h : GSt c e w ps kl rep pv) {p : Prt} {ks : List Nat} (hk : kidsOf kl p = some ks) : ks.length ≤ llen c.U := by
 unfold kidsOf at hk
 by_cases hm : p.m = 0
 · rw [if_pos hm] at hk; injection hk with hk; subst hk; exact Nat.zero_le _
 · rw [if_neg hm] at hk
   cases hq : p.q with
   | none => rw [hq] at hk; cases hk
   | some a =>
     rw [hq] at hk
     obtain ⟨a1, a2, a3, _⟩ := h.cont _ _ hk
     rw [a3]
     have := llen_sub (ls := [(a.block, a.off, p.m)]) (U := c.U) (by simp) (fun x hx => by rw [List.mem_singleton.1 hx]; exact a1)
     simpa [llen] using this
/-- Behind the loop over two parts' lists. -/
theorem jl_lists {D0 : Ux.Ty} {c : GCx} {Goal : Ux.Sub → Prop} {i0 j0 lo : Nat} {w0 wx : World} {pv0 pv : Value} {ps5 ex9 ex10 : List Prt} {kl kl9 kl10 : LKey → Option (List Nat)} {rep : Nat → Nat} {q : Nat × Nat} {r : List (Nat × Nat)} {i j k : Nat} {pi pj : Prt} {nmi nmj : List UInt8} {xsi xsj : List Ux.Ty} {ks9 ks10 : List Nat} {u u' ov : Value} (hC : c.Ok)
 (hinv : Ux.GInv c.f (mkGr ps5 kl rep)) (hout : ∀ x, ps5.length ≤ x → rep x = x) (hpi : ps5[i]? = some pi) (hpj : ps5[j]? = some pj) (ri : rep i = i) (rj : rep j = j) (hij : i ≠ j) (hx : rep q.1 = i) (hy : rep q.2 = j)
 (hcong : Ux.Cong (mkGr ps5 kl rep) (q :: r) ∧ Ux.Eqv (mkGr ps5 kl rep) (q :: r) i0 j0) (hs : ∀ σ, (Ux.KS c.f (mkGr ps5 kl rep) σ ∧ ∀ y ∈ q :: r, ((mkGr ps5 kl rep).D y.1).app σ = ((mkGr ps5 kl rep).D y.2).app σ) ↔ Goal σ) (hlt : ∀ y ∈ q :: r, y.1 < ps5.length ∧ y.2 < ps5.length) (hpar : ParB D0 ps5 kl rep i0 j0) (hst : ∀ p ∈ ps5, p.st = 0)
 (hDi : pi.D = .a nmi xsi) (hDj : pj.D = .a nmj xsj) (hE : nmi = nmj ∧ xsi.length = xsj.length)
 (h9 : kidsOf kl9 pj = some ks9 ∧ (∀ x ls, kl x = some ls → kl9 x = some ls) ∧ (∀ q ∈ ex9, q.st = 0) ∧ ∀ y, (ps5.set i { pi with tt := j, st := pi.st }).length ≤ y → y < (ps5.set i { pi with tt := j, st := pi.st } ++ ex9).length → y ∈ ks9)
 (h10 : kidsOf kl10 { pi with tt := j, st := pi.st } = some ks10 ∧ (∀ x ls, kl9 x = some ls → kl10 x = some ls) ∧ (∀ q ∈ ex10, q.st = 0) ∧ ∀ y, (ps5.set i { pi with tt := j, st := pi.st } ++ ex9).length ≤ y → y < (ps5.set i { pi with tt := j, st := pi.st } ++ ex9 ++ ex10).length → y ∈ ks10)
 (hP : PJ c w0 lo (ps5.set i { pi with tt := j, st := pi.st } ++ ex9 ++ ex10) kl10 (linkR rep i j) pv pv0 r ks10 ks9 u u' ks10.length ov wx) (hloc : pv.ownBlock = pv0.ownBlock ∨ ∀ g, pv.ownBlock = some g → w0.heap.size ≤ g) (hk : jmeas c ps5.length rep (r.length + 1) ≤ k ∧ k ≤ 30000000000) :
 JL D0 c Goal i0 j0 lo w0 pv0 (k - 1) ov wx ∧ 0 < k := by
 obtain ⟨g1, g2, g3, g4, g5⟩ := hP
 obtain ⟨a1, a2, a3, a4⟩ := h9
 obtain ⟨b1, b2, b3, b4⟩ := h10
 have hil := (List.getElem?_eq_some_iff.1 hpi).1
 have hjl := (List.getElem?_eq_some_iff.1 hpj).1
 have hset := Same.set hpi j pi.st
 have hgr8 := hset.gr kl rep
 have G8 : Grow ps5 kl (ps5.set i { pi with tt := j, st := pi.st }) kl := Grow.same hset kl
 have G9 : Grow (ps5.set i { pi with tt := j, st := pi.st }) kl (ps5.set i { pi with tt := j, st := pi.st } ++ ex9) kl9 := Grow.app a2
 have G10 : Grow (ps5.set i { pi with tt := j, st := pi.st } ++ ex9) kl9 (ps5.set i { pi with tt := j, st := pi.st } ++ ex9 ++ ex10) kl10 := Grow.app b2
 have hpi10 : (ps5.set i { pi with tt := j, st := pi.st } ++ ex9 ++ ex10)[i]? = some { pi with tt := j, st := pi.st } := by
  rw [List.getElem?_append_left (by simp; omega), List.getElem?_append_left (by simp; omega)]; exact List.getElem?_set_self hil
 have hpj10 : (ps5.set i { pi with tt := j, st := pi.st } ++ ex9 ++ ex10)[j]? = some pj := by
  rw [List.getElem?_append_left (by simp; omega), List.getElem?_append_left (by simp; omega), List.getElem?_set_ne hij]; exact hpj
 have hpj9 : (ps5.set i { pi with tt := j, st := pi.st } ++ ex9)[j]? = some pj := by
  rw [List.getElem?_append_left (by simp; omega), List.getElem?_set_ne hij]; exact hpj
 have hl8 : (ps5.set i { pi with tt := j, st := pi.st }).length = ps5.length := by simp
 have hl9 : (ps5.set i { pi with tt := j, st := pi.st } ++ ex9).length = ps5.length + ex9.length := by simp
 have hl10 : (ps5.set i { pi with tt := j, st := pi.st } ++ ex9 ++ ex10).length = ps5.length + (ex9.length + ex10.length) := by rw [List.length_append, List.length_append, List.length_set, Nat.add_assoc]
 have hmem8 : ∀ p ∈ ps5.set i { pi with tt := j, st := pi.st }, p.st = 0 := st_set hst hpi
 generalize ps5.set i { pi with tt := j, st := pi.st } = ps8 at *
 have HGR : Grow ps5 kl (ps8 ++ ex9 ++ ex10) kl10 := (G8.trans G9).trans G10
 have hst10 : ∀ p ∈ ps8 ++ ex9 ++ ex10, p.st = 0 := fun p hp => by
  rcases List.mem_append.1 hp with hp | hp
  · rcases List.mem_append.1 hp with hp | hp
    · exact hmem8 p hp
    · exact a3 p hp
  · exact b3 p hp
 have hrlt : ∀ x, x < ps5.length → rep x < ps5.length := hinv.rlt
 have hrr : ∀ x, x < ps5.length → rep (rep x) = rep x := hinv.rr
 have hout8 : ∀ x, ps8.length ≤ x → rep x = x := fun x hx => hout x (by omega)
 have hrlt8 : ∀ x, x < ps8.length → rep x < ps8.length := fun x hx => by rw [hl8] at hx ⊢; exact hrlt x hx
 have hout9 : ∀ x, (ps8 ++ ex9).length ≤ x → rep x = x := fun x hx => hout x (by omega)
 have hrlt9 : ∀ x, x < (ps8 ++ ex9).length → rep x < (ps8 ++ ex9).length := fun x hx => by
  rcases Nat.lt_or_ge x ps5.length with h | h
  · have := hrlt x h; omega
  · rw [hout x h]; exact hx
 have hinv10 : Ux.GInv c.f (mkGr (ps8 ++ ex9 ++ ex10) kl10 rep) := inv_rep g1.inv (fun x hx => by
  rcases Nat.lt_or_ge x ps5.length with h | h
  · have := hrlt x h; omega
  · rw [hout x h]; exact hx) (fun x hx => by
  rcases Nat.lt_or_ge x ps5.length with h | h
  · exact hrr x h
  · rw [hout x h]; exact hout x h)
 have hD10i : (mkGr (ps8 ++ ex9 ++ ex10) kl10 rep).D i = .a nmi xsi := (gr_at hpi10).1.trans hDi
 have hD10j : (mkGr (ps8 ++ ex9 ++ ex10) kl10 rep).D j = .a nmi xsj := (gr_at hpj10).1.trans (hDj.trans (by rw [hE.1]))
 have hKi : (mkGr (ps8 ++ ex9 ++ ex10) kl10 rep).kids i = some ks10 := (gr_at hpi10).2.trans b1
 have hKj : (mkGr (ps8 ++ ex9 ++ ex10) kl10 rep).kids j = some ks9 := (gr_at hpj10).2.trans (kidsOf_more b2 a1)
 have hi10 : i < (ps8 ++ ex9 ++ ex10).length := by omega
 have hj10 : j < (ps8 ++ ex9 ++ ex10).length := by omega
 obtain ⟨hli, hci⟩ := hinv10.kid i hi10 _ _ _ hD10i hKi
 obtain ⟨hlj, hcj⟩ := hinv10.kid j hj10 _ _ _ hD10j hKj
 have hll : ks9.length = ks10.length := by rw [hli, hlj]; exact hE.2.symm
 obtain ⟨m1, m2, m3⟩ := waits_mem r ks10 ks9 hll
 have hcong10 := HGR.cong (rep := rep) hout hrlt hcong.1
 have hs10 : ∀ σ, (Ux.KS c.f (mkGr (ps8 ++ ex9 ++ ex10) kl10 rep) σ ∧ ∀ y ∈ q :: r, ((mkGr (ps8 ++ ex9 ++ ex10) kl10 rep).D y.1).app σ = ((mkGr (ps8 ++ ex9 ++ ex10) kl10 rep).D y.2).app σ) ↔ Goal σ := fun σ => by
  rw [← hs σ, HGR.ks (rep := rep) hout hrlt σ]
  refine and_congr_right fun _ => ⟨fun h y hy => ?_, fun h y hy => ?_⟩
  · have := h y hy
    rw [HGR.D (rep := rep) (hlt y hy).1, HGR.D (rep := rep) (hlt y hy).2] at this; exact this
  · rw [HGR.D (rep := rep) (hlt y hy).1, HGR.D (rep := rep) (hlt y hy).2]; exact h y hy
 have hq := hlt q (by simp)
 obtain ⟨n1, n2⟩ := jl_app hinv10 hcong10 hs10 ⟨by omega, by omega⟩ hi10 hj10 ri rj hij hD10i hD10j hE.2.symm hKi hKj hx hy _ m1 m2 m3
 have hrl := roots_link (rep := rep) hil ri rj hij
 have hrm := roots_more (linkR rep i j) ps5.length (fun x hx => by unfold linkR; rw [hout x hx, if_neg (by omega)]) (ex9.length + ex10.length)
 have hkl := kids_len g1 b1
 have hcnt : (ps8 ++ ex9 ++ ex10).length ≤ 2 + llen c.U := by
  obtain ⟨ls, c1, c2, _, c4⟩ := g1.cnt
  have := llen_sub c1 c2; omega
 rw [hl10] at hcnt
 have hK : (2 + llen c.U - (ps5.length + (ex9.length + ex10.length)) + roots (linkR rep i j) (ps5.length + (ex9.length + ex10.length))) * (llen c.U + 2) + (llen c.U + 2) ≤ (2 + llen c.U - ps5.length + roots rep ps5.length) * (llen c.U + 2) := by
  have : (2 + llen c.U - (ps5.length + (ex9.length + ex10.length)) + roots (linkR rep i j) (ps5.length + (ex9.length + ex10.length))) + 1 ≤ 2 + llen c.U - ps5.length + roots rep ps5.length := by omega
  have := Nat.mul_le_mul_right (llen c.U + 2) this
  rw [Nat.add_mul, Nat.one_mul] at this
  exact this
 simp only [jmeas] at hk
 have hwl := waits_len r ks10 ks9 ks10.length (Nat.le_refl _) hll
 have hDj8 : (mkGr ps8 kl rep).D j = .a nmi xsj := by rw [hgr8, (gr_at hpj).1, hDj, hE.1]
 have hDi8 : (mkGr ps8 kl rep).D i = .a nmi xsi := by rw [hgr8, (gr_at hpi).1, hDi]
 have hp9 : Ux.Par (mkGr (ps8 ++ ex9) kl9 rep) i0 j0 := G9.par (rep := rep) (y := j) (ks := ks9) (by rw [hgr8]; exact hpar.1) (by omega) ((gr_at hpj9).2.trans a1) ⟨_, _, hDj8⟩ a4
 have hp10 : Ux.Par (mkGr (ps8 ++ ex9 ++ ex10) kl10 (linkR rep i j)) i0 j0 := G10.par (rep := rep) (y := i) (ks := ks10) hp9 (by omega) ((gr_at hpi10).2.trans b1) ⟨_, _, (G9.D (rep := rep) (rep' := rep) (by omega)).trans hDi8⟩ b4
 refine ⟨⟨_, kl10, linkR rep i j, pv, waits r ks10 ks9 ks10.length, g1, by rw [hwl]; exact g2, g5, hloc, ⟨n1, eqv_link hcong.2 (.inl ⟨hx, hy⟩) rj m1⟩, n2, fun y hy => ?_, ⟨hp10, by have := hpar.2.1; omega, by have := hpar.2.2.1; omega, (HGR.D (rep := rep) (rep' := linkR rep i j) hpar.2.1).trans hpar.2.2.2⟩, hst10, ?_, by omega⟩, by omega⟩
 · rcases m3 y hy with h | ⟨kk, h1, h2⟩
   · have := hlt y (by simp [h]); omega
   · obtain ⟨x1, hx1⟩ : ∃ x, xsi[kk]? = some x := ⟨_, List.getElem?_eq_getElem (by rw [← hli]; exact (List.getElem?_eq_some_iff.1 h1).1)⟩
     obtain ⟨x2, hx2⟩ : ∃ x, xsj[kk]? = some x := ⟨_, List.getElem?_eq_getElem (by rw [← hlj]; exact (List.getElem?_eq_some_iff.1 h2).1)⟩
     exact ⟨(hci kk _ _ hx1 h1).1, (hcj kk _ _ hx2 h2).1⟩
 · simp only [jmeas, hl10, hwl]; omega
end Go.Proofs.YtcblppojnailpaaDoor
namespace Go.Proofs.YtcblppojnailpaaDoor
open Go Go.RowKit
set_option linter.unusedVariables false
set_option linter.unusedSimpArgs false
section
variable {c : GCx} {e : Nat} {w w' : World} {ps : List Prt} {kl : LKey → Option (List Nat)} {rep : Nat → Nat} {pv : Value}
/-- A block that is no part of the graph changes. -/
theorem GSt.aside (h : GSt c e w ps kl rep pv) (hC : c.Ok) {b : Nat} {cur : Array Value} {T : TypeId} (hb : w.heap[b]? = some (.cells cur T (0, 0))) (hT : T ≠ 104 ∧ T ≠ 3) (hz : ¬ Fz c b) (hch : Chg (· = b) w w') : GSt c e w' ps kl rep pv := by
 have hno : ∀ x, Fz c x → ¬ x = b := fun x hx e => hz (e ▸ hx)
 obtain ⟨l1, l2, l3, l4, l5, l6, l7⟩ := hC.low
 refine h.keep hC hch (fun x hx => .inr ⟨fun e => hno x e hx, ?_, fun cur' e => ?_⟩) (h.look.chg hch ⟨hno _ (.inl l4), hno _ (.inl l5), hno _ (.inl l6), hno _ (.inl l7)⟩ fun x hx => hno _ (hC.u x hx).1)
 · rw [hx]; exact own_ne h.own hb (fun cs e => by injection e with _ e _; exact hT.1 e)
 · rw [hx, hb] at e; injection e with e; injection e with _ e _; exact hT.2 e
theorem IntsV.aside {u : Value} {ks : List Nat} (h : IntsV c w u ks) {b : Nat} {cur : Array Value} {T : TypeId} (hb : w.heap[b]? = some (.cells cur T (0, 0))) (hT : T ≠ 3) (hch : Chg (· = b) w w') : IntsV c w' u ks :=
 h.keep fun x cur' hx hcur => hch.block _ (ent_lt hcur) fun e => by rw [e, hb] at hcur; injection hcur with hcur; injection hcur with _ hcur _; exact hT hcur
/-- A part's state is set. -/
theorem GSt.state (h : GSt c e w ps kl rep pv) (hc : c.Ok) {i : Nat} {p : Prt} (hp : ps[i]? = some p) (s : Nat) {pb cap : Nat} (hpv : pv = .slice (some ⟨pb, 0, none⟩) ps.length cap) :
 GSt c e (w.setCell ⟨pb, i * 5 + 4, none⟩ (.int .i64 (s : Int))) (ps.set i { p with tt := p.tt, st := s }) kl rep pv := by
 have hil := (List.getElem?_eq_some_iff.1 hp).1
 subst hpv
 have hst := (h.own.stored (i * 5 + 4) (.int .i64 (s : Int))).1
 rw [pcells_set (fun q => { q with st := s }) 4 (.int .i64 (s : Int)) (by decide) (fun q => rfl) hp] at hst
 obtain ⟨d, hd⟩ := h.tree
 refine h.upd hc (Chg.set (R := fun b => (Value.slice (some ⟨pb, 0, none⟩) ps.length cap).ownBlock = some b) (p := ⟨pb, i * 5 + 4, none⟩) rfl _) (by rw [List.length_set]; exact hst) (Same.set hp _ _) ⟨d, fun x q hq => ?_⟩ h.outr
 rw [List.length_set]
 by_cases e : i = x
 · subst e
   rw [List.getElem?_set_self hil] at hq; injection hq with hq; subst hq
   exact hd i p hp
 · rw [List.getElem?_set_ne e] at hq
   exact hd x q hq
end
def BegPost (c : GCx) (ps : List Prt) (kl : LKey → Option (List Nat)) (rep : Nat → Nat) (pv : Value) (i : Nat) (p : Prt) (w : World) (en : Ending) (w' : World) : Prop :=
 ∃ v ks ex kl' pv', en = .returned (.agg #[.int .i64 (i : Int), v]) ∧ GSt c 2 w' (ps.set i { p with tt := p.tt, st := 1 } ++ ex) kl' rep pv' ∧ Chg (GKeep c pv) w w' ∧ (pv'.ownBlock = pv.ownBlock ∨ ∀ g, pv'.ownBlock = some g → w.heap.size ≤ g) ∧ kidsOf kl' p = some ks ∧ IntsV c w' v ks ∧
  (∀ x ls, kl x = some ls → kl' x = some ls) ∧ (∀ q ∈ ex, q.st = 0) ∧ ∀ j, ps.length ≤ j → j < ps.length + ex.length → j ∈ ks
set_option maxHeartbeats 4000000 in
set_option maxRecDepth 100000 in
theorem begin_any (c : GCx) (hC : c.Ok) (ps : List Prt) (kl : LKey → Option (List Nat)) (rep : Nat → Nat) (pv : Value) (i : Nat) (p : Prt) (hp : ps[i]? = some p) (w : World) (h : GSt c 2 w ps kl rep pv) :
 Calls Tryd.prog 58 #[.pointer (some ⟨c.gb, 0, none⟩), .int .i64 i] w (BegPost c ps kl rep pv i p w) := by
 obtain ⟨pp, pc, rfl⟩ := own_slice h.own
 have hi := (List.getElem?_eq_some_iff.1 hp).1
 obtain ⟨pb, cur, rfl, hpb, hpbl, hk2, hk3, hpe, hcell⟩ := own_open h.own (by omega)
 have o4 := hcell (i * 5 + 4) (.int .i64 p.st) (by rw [pcells_at 4 hp (by decide)]; rfl)
 have g1 := ent_cell h.gcell 1 _ rfl
 have x4 := ent_cell hpe _ _ o4
 have xf := ent_free hpe
 have gl := ent_lt h.gcell
 have xl := ent_lt hpe
 have hk1 : (i : Int) < (ps.length : Int) := by omega
 have hk4 : (ps.length : Int) ≤ (pc : Int) := by omega
 have HG := Lib.hid h
 have HP := Lib.hid hp
 clear h hp hcell o4 hpe hk2
 go_enter Tryd.func58, Tryd.ntmps58
 go_wp2_with fail
 have h1 := HG.out.state hC HP.out 1 rfl
 have hc1 : Chg (GKeep c (.slice (some ⟨pb, 0, none⟩) ps.length pc)) w (w.setCell ⟨pb, i * 5 + 4, none⟩ (.int .i64 1)) := (Chg.set (R := (· = pb)) (p := ⟨pb, i * 5 + 4, none⟩) rfl _).mono fun k _ hk => .inr (.inr (.inr (.inr (by rw [hk]; rfl))))
 have hb1 : Below (w.setCell ⟨pb, i * 5 + 4, none⟩ (.int .i64 1)).heap.size (w.setCell ⟨pb, i * 5 + 4, none⟩ (.int .i64 1)) ((w.setCell ⟨pb, i * 5 + 4, none⟩ (.int .i64 1)).alloc (.cells #[.int .i64 0, .slice none 0 0] 127)) := (Below.refl _ _).alloc (Nat.le_refl _) _
 have hr := ent_new (w.setCell ⟨pb, i * 5 + 4, none⟩ (.int .i64 1)) #[.int .i64 0, .slice none 0 0] 127
 have hsz : (w.setCell ⟨pb, i * 5 + 4, none⟩ (.int .i64 1)).heap.size = w.heap.size := by simp
 rw [hsz] at hr
 have HR := Lib.hid hr
 have HG1 := Lib.hid (h1.below hC hb1)
 have HC1 := Lib.hid (hc1.trans (.of_below hb1))
 have hp1 : (ps.set i { p with tt := p.tt, st := 1 })[i]? = some { p with tt := p.tt, st := 1 } := List.getElem?_set_self hi
 have HP1 := Lib.hid hp1
 clear h1 hc1 hb1 hr hsz hp1 g1 x4 xf gl xl
 generalize (w.setCell ⟨pb, i * 5 + 4, none⟩ (.int .i64 1)).alloc (.cells #[.int .i64 0, .slice none 0 0] 127) = w1 at HR HG1 HC1 ⊢
 refine (args_any c hC _ kl rep _ i _ HP1.out w1 HG1.out).mono ?_
 rintro e w2 ⟨v, ks, ex, kl', pv', rfl, n1, n2, n3, n4, n5, n6, n7, n8⟩
 obtain ⟨q2, cap2, rfl, _, _, _⟩ := n5.cell
 have hrz : ¬ Fz c w.heap.size := by have := HG.out.size; dsimp only [Fz]; omega
 have hr2 := ent_chg HR.out n2 (HG1.out.gkint hC hrz HR.out (by decide))
 have HR2 := Lib.hid hr2
 have r0 := ent_cell hr2 0 _ rfl
 have r1 := ent_cell hr2 1 _ rfl
 have rf := ent_free hr2
 have HN := Lib.hid (⟨n1, n2, n3, n4, n5, n6, n7, n8⟩ : _ ∧ _ ∧ _ ∧ _ ∧ _ ∧ _ ∧ _ ∧ _)
 have HRZ := Lib.hid hrz
 clear n1 n2 n3 n4 n5 n6 n7 n8 hr2 hrz
 go_wp2_with fail
 have hs1 : Chg (· = w.heap.size) w2 ((w2.setCell ⟨w.heap.size, 0, none⟩ (.int .i64 (i : Int))).setCell ⟨w.heap.size, 1, none⟩ (.slice q2 ks.length cap2)) := (Chg.set (R := (· = w.heap.size)) (p := ⟨w.heap.size, 0, none⟩) rfl _).trans (Chg.set (R := (· = w.heap.size)) (p := ⟨w.heap.size, 1, none⟩) rfl _)
 have hr3 := ent_set (ent_set HR2.out 0 (.int .i64 (i : Int))) 1 (.slice q2 ks.length cap2)
 have HS1 := Lib.hid hs1
 have HR3 := Lib.hid hr3
 clear hs1 hr3 r0 r1 rf
 generalize (w2.setCell ⟨w.heap.size, 0, none⟩ (.int .i64 (i : Int))).setCell ⟨w.heap.size, 1, none⟩ (.slice q2 ks.length cap2) = w3 at HS1 HR3 ⊢
 have r0 := ent_cell HR3.out 0 _ rfl
 have r1 := ent_cell HR3.out 1 _ rfl
 refine bodyPost_ret (v := .agg #[.int .i64 (i : Int), .slice q2 ks.length cap2]) (by simp [results, Tryd.results58, go_sem, r0, r1]) rfl ?_
 obtain ⟨n1, n2, n3, n4, n5, n6, n7, n8⟩ := HN.out
 exact ⟨_, ks, ex, kl', pv', rfl, n1.aside hC HR2.out (by decide) HRZ.out HS1.out, (HC1.out.trans n2).then HS1.out (fun x hx e => by omega), n3.imp id fun h g hg => Nat.le_trans HC1.out.size (h g hg), n4, n5.aside HR2.out (by decide) HS1.out, n6, n7, fun j h1 h2 => n8 j (by simpa using h1) (by simpa using h2)⟩
end Go.Proofs.YtcblppojnailpaaDoor
namespace Go.Proofs.YtcblppojnailpaaDoor
open Go Go.RowKit
set_option linter.unusedVariables false
set_option linter.unusedSimpArgs false
/-- Which parts were gone through, which stand on the way. -/
def StOk (ps : List Prt) (L Wp : List Nat) : Prop := ∀ (x : Nat) (p : Prt), ps[x]? = some p → (x ∈ L → p.st = 2) ∧ (x ∈ Wp → p.st = 1) ∧ (x ∉ L → x ∉ Wp → p.st = 0)
/-- What is in a part. -/
inductive Rch (g : Ux.Gr) (s0 : Nat) : Nat → Prop
 | start : Rch g s0 s0
 | step {y c : Nat} {nm : List UInt8} {xs : List Ux.Ty} {ks : List Nat} : Rch g s0 y → y < g.n → g.D y = .a nm xs → g.kids y = some ks → c ∈ ks → c < g.n → Rch g s0 (g.rep c)
theorem Rch.ext {g g' : Ux.Gr} {s0 x : Nat} (h : Rch g s0 x) (e : Ux.Ext g g') : Rch g' s0 x := by
 induction h with
 | start => exact .start
 | step _ h1 h2 h3 h4 h5 ih =>
   rw [← e.rep _ h5]
   exact .step ih (Nat.lt_of_lt_of_le h1 e.n) ((e.D _ h1).trans h2) (e.kids _ _ h1 h3) h4 (Nat.lt_of_lt_of_le h5 e.n)
structure InS (ps0 : List Prt) (kl0 : LKey → Option (List Nat)) (rep : Nat → Nat) (i0 j0 s0 : Nat) (ps : List Prt) (kl : LKey → Option (List Nat)) (L : List Nat) (W : List (Nat × List Nat)) : Prop where
 grow : Grow ps0 kl0 ps kl
 par : Ux.Par (mkGr ps kl rep) i0 j0
 lok : Ux.LOk (mkGr ps kl rep) L
 wok : Ux.WOk (mkGr ps kl rep) L none W
 nd : (L ++ W.map (·.1)).Nodup
 st : StOk ps L (W.map (·.1))
 start : s0 ∈ L ++ W.map (·.1)
 rch : ∀ x ∈ L ++ W.map (·.1), Rch (mkGr ps kl rep) s0 x
def imeas (c : GCx) (L : List Nat) (W : List (Nat × List Nat)) : Nat := (2 + llen c.U - (L.length + W.length)) * (llen c.U + 2) + (W.map fun s => s.2.length + 1).sum
theorem nodup_lt : ∀ {n : Nat} {l : List Nat}, l.Nodup → (∀ x ∈ l, x < n) → l.length ≤ n := by
 intro n l hn hl
 have := hn.length_le_of_subset (l₂ := List.range n) fun x hx => List.mem_range.2 (hl x hx)
 simpa using this
section
variable {c : GCx} {e : Nat} {w : World} {ps0 ps ps' : List Prt} {kl0 kl kl' : LKey → Option (List Nat)} {rep : Nat → Nat} {pv : Value} {i0 j0 s0 : Nat} {L : List Nat} {W : List (Nat × List Nat)}
theorem Grow.ext (h : Grow ps kl ps' kl') : Ux.Ext (mkGr ps kl rep) (mkGr ps' kl' rep) := ⟨h.len, fun x hx => h.D hx, fun _ _ => rfl, fun x ks hx hk => h.kids hx hk⟩
theorem kids_v {p : Prt} {ks : List Nat} (hm : p.m = 0) (hk : kidsOf kl p = some ks) : ks = [] := by
 unfold kidsOf at hk; rw [if_pos hm] at hk; injection hk with hk; exact hk.symm
theorem GSt.klt (h : GSt c e w ps kl rep pv) : Ux.KLt (mkGr ps kl rep) := by
 intro x ks hx hk cc hc
 have hx' : x < ps.length := hx
 have hat := List.getElem?_eq_getElem hx'
 cases hD : (mkGr ps kl rep).D x with
 | v n =>
   have := (gr_at (kl := kl) (rep := rep) hat)
   rw [this.2] at hk
   rw [kids_v (h.free _ (List.mem_of_getElem? hat) n (this.1 ▸ hD)).2 hk] at hc
   cases hc
 | a nm xs =>
   obtain ⟨h1, h2⟩ := h.inv.kid x hx nm xs ks hD hk
   obtain ⟨j, hj⟩ := List.mem_iff_getElem?.1 hc
   obtain ⟨y, hy⟩ : ∃ y, xs[j]? = some y := ⟨_, List.getElem?_eq_getElem (by have := (List.getElem?_eq_some_iff.1 hj).1; omega)⟩
   exact (h2 j y cc hy hj).1
theorem Grow.par0 (h : Grow ps kl ps' kl') {a b : Nat} (hp : Ux.Par (mkGr ps kl rep) a b) (hl : ps'.length = ps.length) : Ux.Par (mkGr ps' kl' rep) a b := by
 intro i hi
 have hi' : i < ps.length := by rw [← hl]; exact hi
 rcases hp i hi' with e | e | ⟨z, ls, nm, xs, h1, h2, h3, h4⟩
 · exact .inl e
 · exact .inr (.inl e)
 · have hz : z < ps.length := Nat.lt_trans h1 hi'
   exact .inr (.inr ⟨z, ls, nm, xs, h1, h.kids (rep := rep) hz h2, h3, by rw [h.D (rep := rep) hz]; exact h4⟩)
/-- Ways are shorter now, states stay. -/
theorem InS.same (h : InS ps0 kl0 rep i0 j0 s0 ps kl L W) (hs : Same ps ps') (hst : ∀ (j : Nat) (p p' : Prt), ps[j]? = some p → ps'[j]? = some p' → p'.st = p.st) : InS ps0 kl0 rep i0 j0 s0 ps' kl L W := by
 have hg := hs.gr kl rep
 refine ⟨h.grow.trans (Grow.same hs kl), by rw [hg]; exact h.par, by rw [hg]; exact h.lok, by rw [hg]; exact h.wok, h.nd, fun x p hp => ?_, h.start, by rw [hg]; exact h.rch⟩
 obtain ⟨p0, a1, a2⟩ := hs.back hp
 rw [hst x p0 p a1 hp]; exact h.st x p0 a1
theorem InS.inLt (h : InS ps0 kl0 rep i0 j0 s0 ps kl L W) : ∀ x ∈ L ++ W.map (·.1), x < ps.length := fun x hx => by
 rcases List.mem_append.1 hx with hx | hx
 · obtain ⟨k, hk⟩ := List.mem_iff_getElem?.1 hx
   exact (h.lok k x hk).1
 · have hall : ∀ (V : List (Nat × List Nat)) (o : Option Nat), Ux.WOk (mkGr ps kl rep) L o V → ∀ x ∈ V.map (·.1), x < ps.length := by
    intro V
    induction V with
    | nil => intro o _ x hx; cases hx
    | cons s V ih =>
      intro o hw x hx
      obtain ⟨q, rs⟩ := s
      obtain ⟨a1, _, _, _, _, a6⟩ := hw
      rcases List.mem_cons.1 (by simpa only [List.map_cons] using hx) with e | hx
      · rw [e]; exact a1
      · exact ih _ a6 x hx
   exact hall W none h.wok x hx
theorem InS.lens (h : InS ps0 kl0 rep i0 j0 s0 ps kl L W) : L.length + W.length ≤ ps.length := by
 have := nodup_lt h.nd h.inLt
 simpa using this
theorem InS.top {p : Nat} {rest : List Nat} (h : InS ps0 kl0 rep i0 j0 s0 ps kl L ((p, rest) :: W)) : p < ps.length ∧ rep p = p := ⟨h.wok.1, h.wok.2.1⟩
theorem InS.pop {p : Nat} {q : Prt} (h : InS ps0 kl0 rep i0 j0 s0 ps kl L ((p, []) :: W)) (hq : ps[p]? = some q) : InS ps0 kl0 rep i0 j0 s0 (ps.set p { q with tt := q.tt, st := 2 }) kl (L ++ [p]) W := by
 have hs := Same.set hq q.tt 2
 have hg := hs.gr kl rep
 obtain ⟨l1, w1⟩ := Ux.dfs_pop h.lok h.wok
 have hn := h.nd
 have hpm : (L ++ ((p, ([] : List Nat)) :: W).map (·.1)) = (L ++ [p]) ++ W.map (·.1) := by simp
 refine ⟨h.grow.trans (Grow.same hs kl), by rw [hg]; exact h.par, by rw [hg]; exact l1, by rw [hg]; exact w1, by rw [← hpm]; exact hn, fun x y hy => ?_, by rw [← hpm]; exact h.start, fun x hx => by rw [hg]; exact h.rch x (by rw [hpm]; exact hx)⟩
 have hil := (List.getElem?_eq_some_iff.1 hq).1
 by_cases e : p = x
 · subst e
   rw [List.getElem?_set_self hil] at hy; injection hy with hy; subst hy
   refine ⟨fun _ => rfl, fun hx => ?_, fun hx => absurd (List.mem_append.2 (.inr (by simp))) hx⟩
   rw [hpm] at hn
   exact absurd hx (fun hx => (List.nodup_append.1 hn).2.2 p (by simp) p hx rfl)
 · rw [List.getElem?_set_ne e] at hy
   obtain ⟨s1, s2, s3⟩ := h.st x y hy
   refine ⟨fun hx => s1 ?_, fun hx => s2 (by simp only [List.map_cons, List.mem_cons]; exact .inr hx), fun h1 h2 => s3 (fun hx => h1 (List.mem_append.2 (.inl hx))) fun hx => ?_⟩
   · rcases List.mem_append.1 hx with hx | hx
     · exact hx
     · exact absurd (List.mem_singleton.1 hx).symm e
   · rcases List.mem_cons.1 (by simpa only [List.map_cons] using hx) with hx | hx
     · exact e hx.symm
     · exact h2 hx
theorem InS.skip {p x : Nat} {rest : List Nat} (h : InS ps0 kl0 rep i0 j0 s0 ps kl L ((p, x :: rest) :: W)) (hx : rep x ∈ L) : InS ps0 kl0 rep i0 j0 s0 ps kl L ((p, rest) :: W) :=
 ⟨h.grow, h.par, h.lok, Ux.dfs_skip h.wok hx, h.nd, h.st, h.start, h.rch⟩
theorem InS.isA {p x : Nat} {rest : List Nat} (h : InS ps0 kl0 rep i0 j0 s0 ps kl L ((p, x :: rest) :: W)) : ∃ nm xs, (mkGr ps kl rep).D p = .a nm xs := by
 cases hD : (mkGr ps kl rep).D p with
 | v n => have := h.wok.2.2.2.1 n hD; cases this
 | a nm xs => exact ⟨nm, xs, rfl⟩
theorem InS.next (hg : GSt c e w ps kl rep pv) {p x : Nat} {rest : List Nat} (h : InS ps0 kl0 rep i0 j0 s0 ps kl L ((p, x :: rest) :: W)) : x < ps.length := by
 obtain ⟨nm, xs, hD⟩ := h.isA
 obtain ⟨ks, don, h7, h8, _⟩ := h.wok.2.2.1 nm xs hD
 exact hg.klt p ks h.top.1 h7 x (by rw [h8]; simp)
theorem InS.ring (hg : GSt c e w ps kl rep pv) {p x : Nat} {rest : List Nat} (h : InS ps0 kl0 rep i0 j0 s0 ps kl L ((p, x :: rest) :: W)) (hx : rep x ∈ ((p, x :: rest) :: W).map (·.1)) (σ : Ux.Sub) : ¬ Ux.KS c.f (mkGr ps kl rep) σ := fun hσ => Ux.dfs_ring hg.inv h.wok h.isA hx hσ
/-- A part is begun: it stands on the way now. -/
theorem par_begin {e' : Nat} {w' : World} {pv' : Value} (hg' : GSt c e' w' ps' kl' rep pv') {y : Nat} {ks : List Nat} {q : Prt} {ex : List Prt} (hG : Grow ps kl ps' kl') (hp : Ux.Par (mkGr ps kl rep) i0 j0) (hy : ps[y]? = some q) (hat : ∃ a b, ps'[y]? = some { q with tt := a, st := b }) (hlen : ps'.length = ps.length + ex.length) (hk : kidsOf kl' q = some ks) (hn : ∀ j, ps.length ≤ j → j < ps.length + ex.length → j ∈ ks) :
 Ux.Par (mkGr ps' kl' rep) i0 j0 ∧ (∀ nm xs, (mkGr ps' kl' rep).D y = .a nm xs → (mkGr ps' kl' rep).kids y = some ks) ∧ (∀ v, (mkGr ps' kl' rep).D y = .v v → ks = []) := by
 obtain ⟨a, b, hat⟩ := hat
 have hyl := (List.getElem?_eq_some_iff.1 hy).1
 have hkk : (mkGr ps' kl' rep).kids y = some ks := (gr_at hat).2.trans hk
 have hv : ∀ v, (mkGr ps' kl' rep).D y = .v v → ks = [] := fun v hD => kids_v (hg'.free _ (List.mem_of_getElem? hat) v ((gr_at (kl := kl') (rep := rep) hat).1 ▸ hD)).2 hk
 refine ⟨?_, fun _ _ _ => hkk, hv⟩
 cases hD : (mkGr ps' kl' rep).D y with
 | v n =>
   have hks := hv n hD
   refine hG.par0 hp ?_
   rcases Nat.eq_zero_or_pos ex.length with h0 | h0
   · omega
   · have := hn ps.length (Nat.le_refl _) (by omega)
     rw [hks] at this; cases this
 | a nm xs => exact hG.par (rep := rep) hp hyl hkk ⟨nm, xs, (hG.D (rep := rep) (rep' := rep) hyl) ▸ hD⟩ fun j h1 h2 => hn j h1 (by omega)
theorem InS.push {e' : Nat} {w' : World} {pv' : Value} (hg : GSt c e w ps kl rep pv) (hg' : GSt c e' w' ps' kl' rep pv') {p x : Nat} {rest ks : List Nat} {q : Prt} {ex : List Prt} (h : InS ps0 kl0 rep i0 j0 s0 ps kl L ((p, x :: rest) :: W)) (hq : ps[rep x]? = some q) (h1 : rep x ∉ L) (h2 : rep x ∉ ((p, x :: rest) :: W).map (·.1)) (he : ps' = ps.set (rep x) { q with tt := q.tt, st := 1 } ++ ex)
 (hkl : ∀ y ls, kl y = some ls → kl' y = some ls) (hk : kidsOf kl' q = some ks) (hex : ∀ y ∈ ex, y.st = 0) (hn : ∀ j, ps.length ≤ j → j < ps.length + ex.length → j ∈ ks) : InS ps0 kl0 rep i0 j0 s0 ps' kl' L ((rep x, ks) :: (p, rest) :: W) := by
 have hrl := (List.getElem?_eq_some_iff.1 hq).1
 have hs := Same.set hq q.tt 1
 have hG : Grow ps kl ps' kl' := (Grow.same hs kl).trans (he ▸ Grow.app hkl)
 have hat : ps'[rep x]? = some { q with tt := q.tt, st := 1 } := by rw [he, List.getElem?_append_left (by rw [List.length_set]; exact hrl)]; exact List.getElem?_set_self hrl
 have hlen : ps'.length = ps.length + ex.length := by rw [he, List.length_append, List.length_set]
 obtain ⟨hp, hka, hkv⟩ := par_begin hg' hG h.par hq ⟨_, _, hat⟩ hlen hk hn
 have hE : Ux.Ext (mkGr ps kl rep) (mkGr ps' kl' rep) := hG.ext
 have hA : ∃ nm xs, (mkGr ps' kl' rep).D p = .a nm xs := by
  obtain ⟨nm, xs, hD⟩ := h.isA
  exact ⟨nm, xs, (hG.D (rep := rep) (rep' := rep) h.top.1).trans hD⟩
 have hn' : ((rep x, ks) :: (p, rest) :: W).map (·.1) = rep x :: ((p, x :: rest) :: W).map (·.1) := rfl
 refine ⟨h.grow.trans hG, hp, h.lok.ext hE hg.klt, Ux.dfs_push hg'.klt (fun y hy => ⟨hg'.inv.rr y hy, hg'.inv.rlt y hy⟩) (h.wok.ext hE hg.klt) hA hka hkv, ?_, fun y z hz => ?_, ?_, fun y hy => ?_⟩
 · rw [hn']
   have hnd := List.nodup_append.1 h.nd
   exact List.nodup_append.2 ⟨hnd.1, List.nodup_cons.2 ⟨h2, hnd.2.1⟩, fun a ha b hb => (List.mem_cons.1 hb).elim (fun e1 e2 => h1 (e1 ▸ e2 ▸ ha)) fun hb => hnd.2.2 a ha b hb⟩
 · rw [hn']
   by_cases e1 : rep x = y
   · subst e1
     rw [hat] at hz; injection hz with hz; subst hz
     exact ⟨fun hx => absurd hx h1, fun _ => rfl, fun _ hx => absurd (List.mem_cons_self) hx⟩
   · rcases Nat.lt_or_ge y ps.length with hl | hl
     · rw [he, List.getElem?_append_left (by rw [List.length_set]; exact hl), List.getElem?_set_ne e1] at hz
       obtain ⟨s1, s2, s3⟩ := h.st y z hz
       exact ⟨s1, fun hx => s2 ((List.mem_cons.1 hx).resolve_left fun e2 => e1 e2.symm), fun a b => s3 a fun hx => b (List.mem_cons_of_mem _ hx)⟩
     · have hz0 : z.st = 0 := hex z (by
        rw [he, List.getElem?_append_right (by rw [List.length_set]; exact hl)] at hz
        exact List.mem_of_getElem? hz)
       have hno : y ∉ L ++ ((p, x :: rest) :: W).map (·.1) := fun hx => by
        have : ∀ u ∈ L ++ ((p, x :: rest) :: W).map (·.1), u < ps.length := h.inLt
        have := this y hx; omega
       exact ⟨fun hx => absurd (List.mem_append.2 (.inl hx)) hno, fun hx => absurd (List.mem_append.2 (.inr ((List.mem_cons.1 hx).resolve_left fun e2 => e1 e2.symm))) hno, fun _ _ => hz0⟩
 · rw [hn']
   rcases List.mem_append.1 h.start with hx | hx
   · exact List.mem_append.2 (.inl hx)
   · exact List.mem_append.2 (.inr (List.mem_cons_of_mem _ hx))
 · rw [hn'] at hy
   have hold : ∀ y ∈ L ++ ((p, x :: rest) :: W).map (·.1), Rch (mkGr ps' kl' rep) s0 y := fun y hy => (h.rch y hy).ext hE
   rcases List.mem_append.1 hy with hy | hy
   · exact hold y (List.mem_append.2 (.inl hy))
   · rcases List.mem_cons.1 hy with rfl | hy
     · obtain ⟨nm, xs, hD⟩ := h.isA
       obtain ⟨ks0, don, h7, h8, _⟩ := h.wok.2.2.1 nm xs hD
       exact (Rch.step (h.rch p (List.mem_append.2 (.inr (by simp)))) h.top.1 hD h7 (by rw [h8]; simp) (h.next hg)).ext hE
     · exact hold y (List.mem_append.2 (.inr hy))
end
end Go.Proofs.YtcblppojnailpaaDoor
namespace Go.Proofs.YtcblppojnailpaaDoor
open Go Go.RowKit
set_option linter.unusedVariables false
set_option linter.unusedSimpArgs false
/-- The way in memory: the last step last. -/
structure Stp where
 p : Nat
 rest : List Nat
 v : Value
def wcells : List Stp → List Value
 | [] => []
 | s :: r => wcells r ++ [.int .i64 (s.p : Int), s.v]
theorem wcells_len : ∀ W : List Stp, (wcells W).length = W.length * 2
 | [] => rfl
 | h :: r => by rw [wcells, List.length_append, wcells_len r]; simp; omega
theorem wcells_top (h : Stp) (r : List Stp) : (wcells (h :: r))[r.length * 2]? = some (.int .i64 (h.p : Int)) ∧ (wcells (h :: r))[r.length * 2 + 1]? = some h.v := by
 rw [wcells]
 constructor
 · rw [List.getElem?_append_right (by rw [wcells_len]; omega), wcells_len]; simp
 · rw [List.getElem?_append_right (by rw [wcells_len]; omega), wcells_len]; simp
theorem wcells_set (p : Nat) (a b : List Nat) (u v : Value) (r : List Stp) : (wcells (⟨p, a, u⟩ :: r)).set (r.length * 2 + 1) v = wcells (⟨p, b, v⟩ :: r) := by
 have := wcells_len r
 rw [wcells, wcells, List.set_append_right _ _ (by omega), this]
 simp
theorem wcells_take (h : Stp) (r : List Stp) : (wcells (h :: r)).take (r.length * 2) = wcells r := by
 rw [wcells, List.take_append_of_le_length (by rw [wcells_len]; exact Nat.le_refl _), List.take_of_length_le (by rw [wcells_len]; exact Nat.le_refl _)]
def wpr (W : List Stp) : List (Nat × List Nat) := W.map fun s => (s.p, s.rest)
def nums (L : List Nat) : List Value := L.map fun (x : Nat) => Value.int .i64 (x : Int)
/-- What of a list of numbers is left. -/
def RestV (c : GCx) (w : World) (v : Value) (rest : List Nat) : Prop :=
 (rest = [] ∧ ∃ q cap, v = .slice q 0 cap) ∨ (rest ≠ [] ∧ ∃ (b o cap : Nat) (cur : Array Value), v = .slice (some ⟨b, o, none⟩) rest.length cap ∧ ¬ Fz c b ∧ rest.length ≤ cap ∧ (cap : Int) ≤ 9223372036854775807 ∧ w.heap[b]? = some (.cells cur 3 (0, 0)) ∧ ∀ (j cc : Nat), rest[j]? = some cc → cur[o + j]? = some (Value.int .i64 (cc : Int)))
abbrev GCx.at (c : GCx) (z : Nat) : GCx := { c with z2 := z }
section
variable {c : GCx} {e : Nat} {w w' : World} {ps : List Prt} {kl : LKey → Option (List Nat)} {rep : Nat → Nat} {pv : Value}
/-- The lists lie below or in the range. -/
def Lows (c : GCx) : Prop := ∀ x ∈ c.U, x.1 < c.y0 ∨ (c.z0 ≤ x.1 ∧ x.1 < c.z1)
theorem GCx.Ok.at (h : c.Ok) (hl : Lows c) (z : Nat) : (c.at z).Ok := ⟨h.low, h.ne, h.neg, h.nec, fun x hx => ⟨(hl x hx).elim .inl fun h => .inr (.inl h), (h.u x hx).2⟩, h.few, h.fine⟩
/-- What is kept away from grows, or another is. -/
theorem GSt.shift (h : GSt c e w ps kl rep pv) (hc : c.Ok) (hl : Lows c) {R : Nat → Prop} (hch : Chg R w w') (hR : ∀ b, R b → b = c.z2 ∧ c.y0 ≤ b ∧ c.z1 ≤ b) {g : Nat} (hg : g = c.z2 ∨ w.heap.size ≤ g) (hgl : g < w'.heap.size) : GSt (c.at g) e w' ps kl rep pv := by
 obtain ⟨l1, l2, l3, l4, l5, l6, l7⟩ := hc.low
 have hno : ∀ b, b < c.y0 → ¬ R b := fun b hb hr => by have := (hR b hr).2.1; omega
 have hnq : ∀ x, x ∈ c.U → ¬ R x.1 := fun x hx hr => by have := hR _ hr; have := hl x hx; omega
 have hq : ∀ x, x ∈ c.U → w'.heap[x.1]? = w.heap[x.1]? := fun x hx => hch.block _ (by have := hl x hx; have := h.size; omega) (hnq x hx)
 obtain ⟨V, v1, v2, v3⟩ := h.vars
 obtain ⟨M, m1, m2, m3⟩ := h.lists
 have hfz : ∀ b, b < w.heap.size → ¬ Fz c b → ¬ Fz (c.at g) b := fun b hb hn hf => by
  rcases hf with hf | hf | hf
  · exact hn (.inl hf)
  · exact hn (.inr (.inl hf))
  · rcases hg with hg | hg
    · exact hn (.inr (.inr (hf.trans hg)))
    · have : b = g := hf
      omega
 refine ⟨ent_chg h.gcell hch (hno _ l1), own_chg h.own hch fun b hb hr => h.pz b hb (.inr (.inr (hR b hr).1)), fun p hp => tyQ_keep (h.ty p hp) hq, h.free, ⟨V, v1.keep (hch.block _ v1.lt (hno _ l2)) fun _ _ => trivial, v2, v3⟩, ⟨M, m1.keep (hch.block _ m1.lt (hno _ l3)) (freeQ_keep hq), fun x val hv => ?_, m3⟩, fun x ks hk => ?_, h.look.chg hch ⟨hno _ l4, hno _ l5, hno _ l6, hno _ l7⟩ hnq, (by have := h.size; have := hch.size; exact ⟨by show c.y0 ≤ _; omega, by show c.z1 ≤ _; omega, hgl⟩), fun b hb hf => hfz b (h.own.lt b hb).2 (h.pz b hb) hf, h.cnt, h.tree, h.outr⟩
 · obtain ⟨ks, a, b, cap, cur, h1, h2, h3, h4, h5, h6⟩ := m2 x val hv
   exact ⟨ks, a, b, cap, cur, h1, hfz b (ent_lt h5) h2, h3, h4, (hch.block _ (ent_lt h5) fun hr => h2 (.inr (.inr (hR b hr).1))).trans h5, h6⟩
 · obtain ⟨a1, a2, a3, a4⟩ := h.cont x ks hk
   exact ⟨a1, a2, a3, fun xs' p' hrow' => a4 xs' p' (hrow'.mono (fun y hy => ⟨hy, (hq y hy).symm⟩) fun u y _ hu => tyQ_keep hu fun z hz => (hq z hz).symm)⟩
theorem RestV.keep {v : Value} {rest : List Nat} (h : RestV c w v rest) (hk : ∀ b cur, ¬ Fz c b → w.heap[b]? = some (.cells cur 3 (0, 0)) → w'.heap[b]? = w.heap[b]?) : RestV c w' v rest := by
 rcases h with h | ⟨h0, b, o, cap, cur, h1, h2, h3, h4, h5, h6⟩
 · exact .inl h
 · exact .inr ⟨h0, b, o, cap, cur, h1, h2, h3, h4, (hk b cur h2 h5).trans h5, h6⟩
theorem RestV.shift {v : Value} {rest : List Nat} (h : RestV c w v rest) {R : Nat → Prop} (hch : Chg R w w') (hR : ∀ b, R b → b = c.z2 ∧ c.y0 ≤ b ∧ c.z1 ≤ b) {g : Nat} (hg : g = c.z2 ∨ w.heap.size ≤ g) : RestV (c.at g) w' v rest := by
 rcases h with h | ⟨h0, b, o, cap, cur, h1, h2, h3, h4, h5, h6⟩
 · exact .inl h
 · have hb := ent_lt h5
   refine .inr ⟨h0, b, o, cap, cur, h1, fun hf => ?_, h3, h4, (hch.block _ hb fun hr => h2 (.inr (.inr (hR b hr).1))).trans h5, h6⟩
   rcases hf with hf | hf | hf
   · exact h2 (.inl hf)
   · exact h2 (.inr (.inl hf))
   · rcases hg with hg | hg
     · exact h2 (.inr (.inr (hf.trans hg)))
     · have : b = g := hf
       omega
theorem IntsV.rest {v : Value} {ks : List Nat} (h : IntsV c w v ks) : RestV c w v ks := by
 rcases h with ⟨rfl, rfl⟩ | ⟨h0, b, cap, cur, rfl, h2, h3, h4, h5, h6⟩
 · exact .inl ⟨rfl, none, 0, rfl⟩
 · exact .inr ⟨h0, b, 0, cap, cur, rfl, h2, h3, h4, h5, fun j cc hj => by rw [Nat.zero_add]; exact h6 j cc hj⟩
theorem RestV.form {v : Value} {rest : List Nat} (h : RestV c w v rest) : ∃ q cap, v = .slice q rest.length cap := by
 rcases h with ⟨rfl, q, cap, rfl⟩ | ⟨_, b, o, cap, cur, rfl, _⟩
 · exact ⟨q, cap, rfl⟩
 · exact ⟨_, cap, rfl⟩
/-- Without its first. -/
theorem RestV.tail {v : Value} {x : Nat} {rest : List Nat} (h : RestV c w v (x :: rest)) : ∃ b o cap p', v = .slice (some ⟨b, o, none⟩) (rest.length + 1) cap ∧ w.cell? ⟨b, o, none⟩ = some (.int .i64 (x : Int)) ∧ RestV c w (.slice p' rest.length (cap - 1)) rest ∧ ∀ u : World, (Instr.sliceAt 42 (.slice (some ⟨b, o, none⟩) (rest.length + 1) cap) (some (.int .i64 1)) none none).run Tryd.prog u = .ok (.slice p' rest.length (cap - 1)) u := by
 rcases h with ⟨h, _⟩ | ⟨_, b, o, cap, cur, rfl, h2, h3, h4, h5, h6⟩
 · cases h
 have h0 := h6 0 x rfl
 rw [Nat.add_zero] at h0
 rw [List.length_cons] at h3
 by_cases e : cap = 1
 · have hr : rest = [] := List.length_eq_zero_iff.1 (by omega)
   subst hr; subst e
   refine ⟨b, o, 1, some ⟨b, o, none⟩, rfl, ent_cell h5 _ _ h0, .inl ⟨rfl, _, _, rfl⟩, fun u => ?_⟩
   simp [go_sem, Tryd.underlying42, Tryd.sizeOf3]
 · refine ⟨b, o, cap, some ⟨b, o + 1, none⟩, rfl, ent_cell h5 _ _ h0, ?_, fun u => ?_⟩
   · cases rest with
     | nil => exact .inl ⟨rfl, _, _, rfl⟩
     | cons y r => exact .inr ⟨by simp, b, o + 1, cap - 1, cur, rfl, h2, by simp only [List.length_cons] at h3 ⊢; omega, by omega, h5, fun j cc hj => by rw [Nat.add_assoc, Nat.add_comm 1 j]; exact h6 (j + 1) cc hj⟩
   · have h1 : (1 : Int) ≤ ((rest.length + 1 : Nat) : Int) := by omega
     have e2 : ¬ (1 = cap) := fun h => e h.symm
     have e3 : ¬ (cap ≤ 1) := by omega
     simp [go_sem, Tryd.underlying42, Tryd.sizeOf3, e, e2, e3]
     intro h; exfalso; omega
/-- A list of another kind changes. -/
theorem GSt.otherT {lo n size : Nat} {T : TypeId} {v : Value} {xs : List Value} (h : GSt c e w ps kl rep pv) (hC : c.Ok) (ho : w.ownsRow lo T size v n xs) (hT : T ≠ 104 ∧ T ≠ 3) (hlo : c.y0 ≤ lo ∧ c.z1 ≤ lo) (hz : ∀ b, v.ownBlock = some b → b ≠ c.z2) (hch : Chg (fun b => v.ownBlock = some b) w w') :
 GSt c e w' ps kl rep pv := by
 have hall : ∀ b, v.ownBlock = some b → ¬ Fz c b ∧ pv.ownBlock ≠ some b ∧ ∀ cur, w.heap[b]? ≠ some (Obj.cells cur 3 (0, 0)) := fun b hb => by
  have hlb := (ho.lt b hb).1
  have hzb := hz b hb
  rcases ho.2 with ⟨rfl, _⟩ | ⟨g', cap', cur', rfl, _, hg', _⟩
  · cases hb
  · injection hb with hb; subst hb
    refine ⟨by dsimp only [Fz] at *; omega, own_ne h.own hg' (fun cs e => by injection e with _ e _; exact hT.1 e), fun cur e => ?_⟩
    rw [e] at hg'; injection hg' with hg'; injection hg' with _ hg' _; exact hT.2 hg'.symm
 have hno : ∀ b, Fz c b → ¬ v.ownBlock = some b := fun b hb e => (hall b e).1 hb
 obtain ⟨l1, l2, l3, l4, l5, l6, l7⟩ := hC.low
 exact h.keep hC hch (fun b hb => .inr (hall b hb)) (h.look.chg hch ⟨hno _ (.inl l4), hno _ (.inl l5), hno _ (.inl l6), hno _ (.inl l7)⟩ fun x hx => hno _ (hC.u x hx).1)
theorem RestV.otherT {lo n size : Nat} {T : TypeId} {v u : Value} {xs : List Value} {rest : List Nat} (h : RestV c w u rest) (ho : w.ownsRow lo T size v n xs) (hT : T ≠ 3) (hch : Chg (fun b => v.ownBlock = some b) w w') : RestV c w' u rest :=
 h.keep fun b cur hb hcur => hch.block _ (ent_lt hcur) (own_ne ho hcur fun cs e => by injection e with _ e _; exact hT e.symm)
end
/-- What lies in memory on the way through the graph. -/
structure IM (c : GCx) (rep : Nat → Nat) (w0 : World) (pv0 : Value) (z : Nat) (ps : List Prt) (kl : LKey → Option (List Nat)) (pv : Value) (L : List Nat) (W : List Stp) (lv wv : Value) (w : World) : Prop where
 gst : GSt (c.at z) 2 w ps kl rep pv
 lrow : w.ownsRow w0.heap.size 3 1 lv L.length (nums L)
 wrow : w.ownsRow w0.heap.size 127 2 wv W.length (wcells W)
 rests : ∀ s ∈ W, RestV (c.at z) w s.v s.rest
 chg : Chg (GKeep c pv0) w0 w
 loc : pv.ownBlock = pv0.ownBlock ∨ ∀ g, pv.ownBlock = some g → w0.heap.size ≤ g
 lz : (∀ b, lv.ownBlock = some b → b = z) ∧ (lv.ownBlock = some z ∨ z < w0.heap.size)
section
variable {c : GCx} {w0 w w' : World} {ps ps' : List Prt} {kl kl' : LKey → Option (List Nat)} {rep : Nat → Nat} {pv0 pv pv' : Value} {z : Nat} {L : List Nat} {W W' : List Stp} {lv lv' wv wv' : Value}
theorem IM.wz (h : IM c rep w0 pv0 z ps kl pv L W lv wv w) : ∀ b, wv.ownBlock = some b → b ≠ z := fun b hb e => by
 rcases h.lz.2 with h1 | h1
 · exact own_type_ne h.wrow h.lrow (by decide) b hb (e ▸ h1)
 · have := (h.wrow.lt b hb).1; omega
/-- Parts change. -/
theorem IM.parts (h : IM c rep w0 pv0 z ps kl pv L W lv wv w) (hg : GSt (c.at z) 2 w' ps' kl' rep pv') (hch : Chg (GKeep c pv) w w') (hloc : pv'.ownBlock = pv.ownBlock ∨ ∀ g, pv'.ownBlock = some g → w.heap.size ≤ g) (hC : c.Ok) (hl : c.y0 ≤ w0.heap.size) : IM c rep w0 pv0 z ps' kl' pv' L W lv wv w' := by
 obtain ⟨l1, l2, l3, l4, l5, l6, l7⟩ := hC.low
 have hno : ∀ b cur T, w0.heap.size ≤ b → w.heap[b]? = some (.cells cur T (0, 0)) → T ≠ 104 → ¬ GKeep c pv b := fun b cur T hb hcur hT hr => by
  rcases hr with hr | hr | hr | hr | hr
  · omega
  · omega
  · omega
  · omega
  · exact own_ne h.gst.own hcur (fun cs e => by injection e with _ e _; exact hT e) hr
 refine ⟨hg, own_chg h.lrow hch fun b hb => ?_, own_chg h.wrow hch fun b hb => ?_, fun s hs => (h.rests s hs).keep fun b cur hb hcur => hch.block _ (ent_lt hcur) fun hr => ?_, gk_trans h.chg h.loc hch, loc_trans h.chg.size h.loc hloc, h.lz⟩
 · rcases h.lrow.2 with ⟨rfl, _⟩ | ⟨g', cap', cur', rfl, hge, hg', _⟩
   · cases hb
   · injection hb with hb; subst hb; exact hno _ _ _ hge hg' (by decide)
 · rcases h.wrow.2 with ⟨rfl, _⟩ | ⟨g', cap', cur', rfl, hge, hg', _⟩
   · cases hb
   · injection hb with hb; subst hb; exact hno _ _ _ hge hg' (by decide)
 · rcases hr with hr | hr | hr | hr | hr
   · exact hb (.inl (hr ▸ l1))
   · exact hb (.inl (hr ▸ l2))
   · exact hb (.inl (hr ▸ l3))
   · exact hb (.inl (hr ▸ l5))
   · exact own_ne h.gst.own hcur (fun cs e => by injection e with _ e _; cases e) hr
/-- The way changes. -/
theorem IM.way (h : IM c rep w0 pv0 z ps kl pv L W lv wv w) (hC : c.Ok) (hL : Lows c) (hl : c.y0 ≤ w0.heap.size ∧ c.z1 ≤ w0.heap.size) (hch : Chg (fun b => wv.ownBlock = some b) w w') (hw : w'.ownsRow w0.heap.size 127 2 wv' W'.length (wcells W')) (hr : ∀ s ∈ W', RestV (c.at z) w s.v s.rest) : IM c rep w0 pv0 z ps kl pv L W' lv wv' w' :=
 ⟨h.gst.otherT (hC.at hL z) h.wrow (by decide) hl h.wz hch, own_chg h.lrow hch fun b hb e => own_type_ne h.wrow h.lrow (by decide) b e hb, hw, fun s hs => (hr s hs).otherT h.wrow (by decide) hch, h.chg.then hch fun x hx e => by have := (h.wrow.lt x e).1; omega, h.loc, h.lz⟩
/-- The list grows. -/
theorem IM.list (h : IM c rep w0 pv0 z ps kl pv L W lv wv w) (hC : c.Ok) (hL : Lows c) (hl : c.y0 ≤ w0.heap.size ∧ c.z1 ≤ w0.heap.size) {p : Nat} (hch : Chg (fun b => lv.ownBlock = some b) w w') (hrow : w'.ownsRow w0.heap.size 3 1 lv' (L.length + 1) (nums L ++ [.int .i64 (p : Int)])) (hloc : lv'.ownBlock = lv.ownBlock ∨ ∀ g, lv'.ownBlock = some g → w.heap.size ≤ g) : ∃ z', IM c rep w0 pv0 z' ps kl pv (L ++ [p]) W lv' wv w' := by
 obtain ⟨g, hg⟩ : ∃ g, lv'.ownBlock = some g := by
  rcases hrow.2 with ⟨_, h0⟩ | ⟨g', cap', cur', rfl, _⟩
  · omega
  · exact ⟨g', rfl⟩
 have hR : ∀ b, lv.ownBlock = some b → b = z ∧ c.y0 ≤ b ∧ c.z1 ≤ b := fun b hb => ⟨h.lz.1 b hb, by have := (h.lrow.lt b hb).1; omega, by have := (h.lrow.lt b hb).1; omega⟩
 have hgz : g = z ∨ w.heap.size ≤ g := by
  rcases hloc with e | e
  · exact .inl (h.lz.1 g (e.symm.trans hg))
  · exact .inr (e g hg)
 refine ⟨g, h.gst.shift (c := c.at z) (hC.at hL z) hL hch hR hgz (hrow.lt g hg).2, by rw [List.length_append]; simpa [nums] using hrow, own_chg h.wrow hch fun b hb e => own_type_ne h.wrow h.lrow (by decide) b hb e, fun s hs => (h.rests s hs).shift (c := c.at z) hch hR hgz, h.chg.then hch fun x hx e => by have := (h.lrow.lt x e).1; omega, h.loc, ⟨fun b hb => by rw [hg] at hb; injection hb with hb; exact hb.symm, .inl hg⟩⟩
end
def IL (c : GCx) (ps0 : List Prt) (kl0 : LKey → Option (List Nat)) (rep : Nat → Nat) (i0 j0 s0 : Nat) (w0 : World) (pv0 : Value) (k : Nat) (lv wv : Value) (w : World) : Prop :=
 ∃ z ps kl pv L W, IM c rep w0 pv0 z ps kl pv L W lv wv w ∧ InS ps0 kl0 rep i0 j0 s0 ps kl L (wpr W) ∧ (imeas c L (wpr W) ≤ k ∧ k ≤ 30000000000)
end Go.Proofs.YtcblppojnailpaaDoor
namespace Go.Proofs.YtcblppojnailpaaDoor
open Go Go.RowKit
set_option linter.unusedVariables false
set_option linter.unusedSimpArgs false
theorem eltStep : Elt 129 127 (.agg #[.int .i64 0, .slice none 0 0]) 2 32 := ⟨Tryd.underlying129, by kernel_rfl, rfl, by decide, by decide⟩
theorem imeas_pop (c : GCx) (L : List Nat) (p : Nat) (W : List (Nat × List Nat)) : imeas c (L ++ [p]) W + 1 = imeas c L ((p, []) :: W) := by
 simp only [imeas, List.length_append, List.length_cons, List.length_nil, List.map_cons, List.sum_cons]
 rw [show L.length + (0 + 1) + W.length = L.length + (W.length + 1) by omega]; omega
theorem imeas_skip (c : GCx) (L : List Nat) (p x : Nat) (r : List Nat) (W : List (Nat × List Nat)) : imeas c L ((p, r) :: W) + 1 = imeas c L ((p, x :: r) :: W) := by
 simp only [imeas, List.length_cons, List.map_cons, List.sum_cons]; omega
theorem imeas_push (c : GCx) (L : List Nat) (p x y : Nat) (r ks : List Nat) (W : List (Nat × List Nat)) (h1 : L.length + (W.length + 2) ≤ 2 + llen c.U) (h2 : ks.length ≤ llen c.U) : imeas c L ((y, ks) :: (p, r) :: W) + 1 ≤ imeas c L ((p, x :: r) :: W) := by
 simp only [imeas, List.length_cons, List.map_cons, List.sum_cons]
 have h3 : (2 + llen c.U - (L.length + (W.length + 1 + 1))) + 1 = 2 + llen c.U - (L.length + (W.length + 1)) := by omega
 have h4 : ((2 + llen c.U - (L.length + (W.length + 1 + 1))) + 1) * (llen c.U + 2) = (2 + llen c.U - (L.length + (W.length + 1))) * (llen c.U + 2) := by rw [h3]
 rw [Nat.add_mul, Nat.one_mul] at h4
 omega
theorem imeas_start (c : GCx) (hC : c.Ok) (s : Nat) (ks : List Nat) (h2 : ks.length ≤ llen c.U) : imeas c [] [(s, ks)] ≤ 30000000000 := by
 have hf := hC.few
 simp only [imeas, List.length_cons, List.length_nil, List.map_cons, List.map_nil, List.sum_cons, List.sum_nil]
 have h6 : (2 + llen c.U - (0 + (0 + 1))) * (llen c.U + 2) ≤ 100002 * 100002 := Nat.mul_le_mul (by omega) (by omega)
 omega
section
variable {c : GCx} {e : Nat} {w : World} {ps0 ps ps' : List Prt} {kl0 kl kl' : LKey → Option (List Nat)} {rep : Nat → Nat} {pv : Value} {i0 j0 s0 : Nat}
theorem GSt.few2 (h : GSt c 2 w ps kl rep pv) : ps.length ≤ 2 + llen c.U := by
 obtain ⟨ls, c1, c2, _, c4⟩ := h.cnt
 have := llen_sub c1 c2; omega
theorem InS.begin0 {ps1 : List Prt} (hs : Same ps0 ps1) (hst : ∀ p ∈ ps1, p.st = 0) (hg' : GSt c e w ps' kl' rep pv) {ks : List Nat} {q : Prt} {ex : List Prt} (hq : ps1[s0]? = some q) (hr : rep s0 = s0) (he : ps' = ps1.set s0 { q with tt := q.tt, st := 1 } ++ ex)
 (hkl : ∀ y ls, kl0 y = some ls → kl' y = some ls) (hk : kidsOf kl' q = some ks) (hex : ∀ y ∈ ex, y.st = 0) (hn : ∀ j, ps1.length ≤ j → j < ps1.length + ex.length → j ∈ ks) (hp : Ux.Par (mkGr ps0 kl0 rep) i0 j0) : InS ps0 kl0 rep i0 j0 s0 ps' kl' [] [(s0, ks)] := by
 have hrl := (List.getElem?_eq_some_iff.1 hq).1
 have hs' := Same.set hq q.tt 1
 have hG1 : Grow ps1 kl0 ps' kl' := (Grow.same hs' kl0).trans (he ▸ Grow.app hkl)
 have hat : ps'[s0]? = some { q with tt := q.tt, st := 1 } := by rw [he, List.getElem?_append_left (by rw [List.length_set]; exact hrl)]; exact List.getElem?_set_self hrl
 have hlen : ps'.length = ps1.length + ex.length := by rw [he, List.length_append, List.length_set]
 obtain ⟨hp', hka, hkv⟩ := par_begin hg' hG1 (by rw [hs.gr kl0 rep]; exact hp) hq ⟨_, _, hat⟩ hlen hk hn
 refine ⟨(Grow.same hs kl0).trans hG1, hp', (fun k x hx => by cases hx), ⟨by show s0 < ps'.length; omega, hr, fun nm xs hD => ⟨ks, [], hka nm xs hD, rfl, (fun y hy => by cases hy)⟩, hkv, (fun q hq => by cases hq), trivial⟩, by simp, fun y z hz => ?_, by simp, fun x hx => (by simp at hx; subst hx; exact .start)⟩
 by_cases e1 : s0 = y
 · subst e1
   rw [hat] at hz; injection hz with hz; subst hz
   exact ⟨(fun hx => by cases hx), fun _ => rfl, fun _ hx => absurd (by simp) hx⟩
 · have hz0 : z.st = 0 := by
    rcases Nat.lt_or_ge y ps1.length with hl | hl
    · rw [he, List.getElem?_append_left (by rw [List.length_set]; exact hl), List.getElem?_set_ne e1] at hz
      exact hst z (List.mem_of_getElem? hz)
    · rw [he, List.getElem?_append_right (by rw [List.length_set]; exact hl)] at hz
      exact hex z (List.mem_of_getElem? hz)
   exact ⟨(fun hx => by cases hx), fun hx => absurd (by simpa using hx) (fun e2 : y = s0 => e1 e2.symm), fun _ _ => hz0⟩
end
def InsPost (c : GCx) (ps0 : List Prt) (kl0 : LKey → Option (List Nat)) (rep : Nat → Nat) (pv0 : Value) (i0 j0 s0 : Nat) (w : World) (en : Ending) (w' : World) : Prop :=
 ∃ z ps kl pv L W lv wv, IM c rep w pv0 z ps kl pv L W lv wv w' ∧ ((en = .returned (.tuple #[lv, .bool true]) ∧ InS ps0 kl0 rep i0 j0 s0 ps kl L []) ∨ (en = .returned (.tuple #[.slice none 0 0, .bool false]) ∧ Grow ps0 kl0 ps kl ∧ ∀ σ, ¬ Ux.KS c.f (mkGr ps kl rep) σ))
end Go.Proofs.YtcblppojnailpaaDoor
