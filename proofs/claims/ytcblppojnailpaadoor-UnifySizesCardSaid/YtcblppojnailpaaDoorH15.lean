/-
  Several texts in one: UBigP, USizL.
-/
import Derived.Test.YtcblppojnailpaaDoorH14
import Derived.Test.YtcblppojnailpaaDoorH11
import Derived.Test.YtcblppojnailpaaDoorH12
namespace Go.Proofs.YtcblppojnailpaaDoor
namespace Ux
set_option linter.unusedVariables false
set_option linter.unusedSimpArgs false
mutual
def Ty.rho : Ty → Nat
 | .v _ => 0
 | .a _ xs => (2 - xs.length) + Ty.rhos xs
def Ty.rhos : List Ty → Nat
 | [] => 0
 | x :: r => Ty.rho x + Ty.rhos r
end
theorem rhos_sum : ∀ l : List Ty, Ty.rhos l = (l.map Ty.rho).sum
 | [] => by rw [Ty.rhos]; rfl
 | x :: r => by rw [Ty.rhos, rhos_sum r]; rfl
theorem rho_a (nm : List UInt8) (xs : List Ty) : (Ty.a nm xs).rho = (2 - xs.length) + (xs.map Ty.rho).sum := by rw [Ty.rho, rhos_sum]
theorem rho_v (n : Nat) : (Ty.v n).rho = 0 := by rw [Ty.rho]
/-- What a type's variables weigh. -/
def wv (g : Nat → Nat) (t : Ty) : Nat := (t.vs.map g).sum
theorem wv_v (g : Nat → Nat) (n : Nat) : wv g (.v n) = g n := by unfold wv; rw [vs_v]; simp
theorem flat_sum (g : Nat → Nat) : ∀ xs : List Ty, ((xs.flatMap Ty.vs).map g).sum = (xs.map (wv g)).sum
 | [] => rfl
 | x :: r => by rw [List.flatMap_cons, List.map_append, List.sum_append, flat_sum g r, List.map_cons, List.sum_cons]; rfl
theorem wv_a (g : Nat → Nat) (nm : List UInt8) (xs : List Ty) : wv g (.a nm xs) = (xs.map (wv g)).sum := by
 have := flat_sum g xs
 unfold wv at this ⊢
 rw [vs_a]; exact this
theorem map_add_sum {α : Type} (f g : α → Nat) : ∀ l : List α, (l.map fun x => f x + g x).sum = (l.map f).sum + (l.map g).sum
 | [] => rfl
 | x :: r => by simp only [List.map_cons, List.sum_cons, map_add_sum f g r]; omega
theorem map_one_sum {α : Type} (f : α → Nat) : ∀ l : List α, (l.map fun x => f x + 1).sum = (l.map f).sum + l.length
 | [] => rfl
 | x :: r => by simp only [List.map_cons, List.sum_cons, List.length_cons, map_one_sum f r]; omega
theorem map_le_sum {α : Type} {f g : α → Nat} : ∀ {l : List α}, (∀ x ∈ l, f x ≤ g x) → (l.map f).sum ≤ (l.map g).sum
 | [], _ => Nat.le_refl _
 | x :: r, h => by
   simp only [List.map_cons, List.sum_cons]
   have h1 := h x (by simp)
   have h2 := map_le_sum (l := r) fun y hy => h y (by simp [hy])
   omega
theorem sz_wv (σ : Sub) : ∀ t : Ty, (t.app σ).sz + 1 ≤ t.rho + wv (fun n => (σ n).sz + 1) t := by
 intro t
 induction t using Ty.ind with
 | hv n => rw [app_v, wv_v, rho_v]; omega
 | ha nm xs ih =>
   rw [app_a, sz_a, rho_a, wv_a, List.map_map]
   have h1 := map_le_sum (l := xs) (f := fun x => (x.app σ).sz + 1) (g := fun x => x.rho + wv (fun n => (σ n).sz + 1) x) ih
   rw [map_one_sum, map_add_sum] at h1
   have h2 : (xs.map (Ty.sz ∘ Ty.app σ)).sum = (xs.map fun x => (x.app σ).sz).sum := rfl
   rw [h2]
   omega
/-- What nodes a type takes at least. -/
def c0 (n : Nat) : Nat := cost (n == 0)
theorem kidsN_kap {g : List Nod → Ty × Nat} (hg : ∀ l, (g l).1.rho + wv c0 (g l).1 ≤ (g l).2 + 1) (l : List Nod) : ∀ k, ((kidsN g l k).1.map fun t => t.rho + wv c0 t).sum + 1 ≤ (kidsN g l k).2 + k
 | 0 => by simp [kidsN]
 | k + 1 => by
   have h1 := kidsN_kap hg l k
   have h2 := hg (l.drop (kidsN g l k).2)
   simp only [kidsN, List.map_append, List.sum_append, List.map_cons, List.map_nil, List.sum_cons, List.sum_nil]
   omega
theorem typN_kap : ∀ (f : Nat) (l : List Nod), (typN f l).1.rho + wv c0 (typN f l).1 ≤ (typN f l).2 + 1 := by
 intro f
 induction f with
 | zero => intro l; simp [typN, rho_v, wv_v, c0, cost]
 | succ f ih =>
   intro l
   cases l with
   | nil => rw [typN_nil]; simp [rho_v, wv_v, c0, cost]
   | cons n r =>
     by_cases h : 0 ≤ n.var
     · rw [typN_var f n r h]
       simp only [rho_v, wv_v, c0, cost]
       split <;> omega
     · rw [typN_a f n r h]
       have h1 := kidsN_kap ih (n :: r) (n.args % 3)
       have h2 : n.args % 3 < 3 := Nat.mod_lt _ (by decide)
       have h3 := kidsN_len (typN f) (n :: r) (n.args % 3)
       simp only [rho_a, wv_a]
       rw [map_add_sum] at h1
       omega
/-! ## Sums over the variables -/
theorem sum_zero {α : Type} {f : α → Nat} : ∀ {l : List α}, (∀ x ∈ l, f x = 0) → (l.map f).sum = 0
 | [], _ => rfl
 | x :: r, h => by simp only [List.map_cons, List.sum_cons, h x (by simp), sum_zero (l := r) fun y hy => h y (by simp [hy])]
theorem sum_pick (g : Nat → Nat) (a : Nat) : ∀ {V : List Nat}, V.Nodup → a ∈ V → (V.map fun v => if a = v then g v else 0).sum = g a
 | [], _, h => by cases h
 | v :: V, hn, h => by
   obtain ⟨h1, h2⟩ := List.nodup_cons.1 hn
   rw [List.map_cons, List.sum_cons]
   by_cases e : a = v
   · subst e
     have hz : (V.map fun v => if a = v then g v else 0).sum = 0 := sum_zero fun x hx => if_neg fun (e : a = x) => h1 (e ▸ hx)
     rw [if_pos rfl, hz]
     omega
   · rw [if_neg e, sum_pick g a h2 ((List.mem_cons.1 h).resolve_left e)]
     omega
theorem sum_count (g : Nat → Nat) {V : List Nat} (hn : V.Nodup) : ∀ {l : List Nat}, (∀ x ∈ l, x ∈ V) → (l.map g).sum = (V.map fun v => l.count v * g v).sum
 | [], _ => (sum_zero (f := fun v => ([] : List Nat).count v * g v) fun x _ => by simp).symm
 | a :: l, h => by
   rw [List.map_cons, List.sum_cons, sum_count g hn (l := l) fun x hx => h x (by simp [hx]), ← sum_pick g a hn (h a (by simp)), ← map_add_sum]
   congr 1
   refine List.map_congr_left fun v _ => ?_
   rw [List.count_cons]
   by_cases e : a = v
   · subst e; simp [Nat.add_mul]; omega
   · rw [if_neg e, if_neg (by simpa using e), Nat.add_zero, Nat.zero_add]
theorem count_flat (w : Nat) {x : Ty} : ∀ {xs : List Ty}, x ∈ xs → x.vs.count w ≤ (xs.flatMap Ty.vs).count w
 | y :: r, h => by
   rw [List.flatMap_cons, List.count_append]
   rcases List.mem_cons.1 h with rfl | h
   · omega
   · have := count_flat w h; omega
theorem PartOf.count {x t : Ty} (h : PartOf x t) (w : Nat) : x.vs.count w ≤ t.vs.count w := by
 induction h with
 | self => exact Nat.le_refl _
 | down h hx ih =>
   rw [vs_a] at ih
   exact Nat.le_trans (count_flat w hx) ih
theorem PartOf.rho {x t : Ty} (h : PartOf x t) : x.rho ≤ t.rho := by
 induction h with
 | self => exact Nat.le_refl _
 | down h hx ih =>
   rw [rho_a] at ih
   have := sum_ge Ty.rho hx
   omega
theorem perm_sum {f : Nat → Nat} {l m : List Nat} (h : l.Perm m) : (l.map f).sum = (m.map f).sum := by
 induction h with
 | nil => rfl
 | cons x _ ih => simp only [List.map_cons, List.sum_cons, ih]
 | swap x y l => simp only [List.map_cons, List.sum_cons]; omega
 | trans _ _ h1 h2 => exact h1.trans h2
theorem has_max (p : Nat → Nat) : ∀ {V : List Nat}, V ≠ [] → ∃ v ∈ V, ∀ w ∈ V, p w ≤ p v
 | [], h => absurd rfl h
 | [v], _ => ⟨v, by simp, fun w hw => by rw [List.mem_singleton.1 hw]; exact Nat.le_refl _⟩
 | v :: u :: V, _ => by
   obtain ⟨m, h1, h2⟩ := has_max p (V := u :: V) (by simp)
   rcases Nat.le_total (p v) (p m) with h | h
   · exact ⟨m, List.mem_cons_of_mem _ h1, fun w hw => (List.mem_cons.1 hw).elim (fun e => e ▸ h) (h2 w)⟩
   · exact ⟨v, by simp, fun w hw => (List.mem_cons.1 hw).elim (fun e => e ▸ Nat.le_refl _) fun hw => Nat.le_trans (h2 w hw) h⟩
/-- All that there is, by what is greater and greater. -/
theorem sum_order (c p : Nat → Nat) (R : Nat) : ∀ (k : Nat) (V : List Nat), V.length = k → V.Nodup → (∀ v ∈ V, p v ≤ max 2 (R + (V.map fun w => if p w < p v then c w * p w else 0).sum)) →
 ∃ W : List Nat, W.Perm V ∧ R + (V.map fun v => c v * p v).sum ≤ W.foldl (fun z v => z + c v * max 2 z) R := by
 intro k
 induction k with
 | zero => intro V hk _ _; exact ⟨[], by rw [List.length_eq_zero_iff.1 hk], by rw [List.length_eq_zero_iff.1 hk]; simp⟩
 | succ k ih =>
   intro V hk hn h
   obtain ⟨v, hv, hm⟩ := has_max p (V := V) (fun e => by rw [e] at hk; cases hk)
   have hp := List.perm_cons_erase hv
   have hn' : (V.erase v).Nodup := hn.erase v
   have hmem : ∀ w ∈ V.erase v, w ∈ V := fun w hw => List.mem_of_mem_erase hw
   have hsum : ∀ f : Nat → Nat, (V.map f).sum = f v + ((V.erase v).map f).sum := fun f => by rw [perm_sum hp]; rfl
   obtain ⟨W, w1, w2⟩ := ih (V.erase v) (by rw [List.length_erase_of_mem hv]; omega) hn' fun u hu => by
    have h1 := h u (hmem u hu)
    rw [hsum] at h1
    rw [if_neg (by have := hm u (hmem u hu); omega), Nat.zero_add] at h1
    exact h1
   refine ⟨W ++ [v], ?_, ?_⟩
   · exact (List.perm_append_comm.trans (w1.cons v)).trans hp.symm
   · rw [List.foldl_append, hsum]
     simp only [List.foldl_cons, List.foldl_nil]
     have h1 := h v hv
     rw [hsum, if_neg (by omega), Nat.zero_add] at h1
     have h2 : ((V.erase v).map fun w => if p w < p v then c w * p w else 0).sum ≤ ((V.erase v).map fun w => c w * p w).sum := map_le_sum fun w _ => by split <;> omega
     have h3 : p v ≤ max 2 (W.foldl (fun z v => z + c v * max 2 z) R) := by omega
     have h4 := Nat.mul_le_mul_left (c v) h3
     omega
theorem six_flags : ∀ {W : List Nat}, W.Perm [0, 1, 2, 3, 4, 5] → W.map (fun v => v == 0) ∈ ([[true, false, false, false, false, false], [false, true, false, false, false, false], [false, false, true, false, false, false], [false, false, false, true, false, false], [false, false, false, false, true, false], [false, false, false, false, false, true]] : List (List Bool)) := by
 intro W h
 have h1 := h.length_eq
 have h2 := (h.map fun v => v == 0).count_eq true
 have h3 : (([0, 1, 2, 3, 4, 5] : List Nat).map fun v => v == 0).count true = 1 := rfl
 rw [h3] at h2
 have h4 : (W.map fun v => v == 0).length = 6 := by simpa using h1
 generalize (W.map fun v => v == 0) = l at h2 h4
 match l, h4 with
 | [a, b, c, d, e, f], _ =>
   clear h4
   revert h2
   revert a b c d e f
   decide
theorem top_all {W : List Nat} (h : W.Perm [0, 1, 2, 3, 4, 5]) {R : Nat} (hR : R ≤ 20) : topL (W.map fun v => v == 0) (20 - R) R ≤ 1002 := by
 have h1 := allSix_ok
 unfold allSix at h1
 rw [List.all_eq_true] at h1
 have h2 := h1 R (List.mem_range.2 (by omega))
 rw [List.all_eq_true] at h2
 simpa using h2 _ (six_flags h)
/-- Two types, made one most generally, that take so few nodes. -/
theorem big_sum {x y : Ty} {N : Sub} (hs : AllOne [(x, y)] N) (hm : ∀ σ, AllOne [(x, y)] σ → ∀ n, σ n = (N n).app σ) (hx : x.rho + wv c0 x ≤ 10) (hy : y.rho + wv c0 y ≤ 10) (vx : ∀ n ∈ x.vs, n < 6) (vy : ∀ n ∈ y.vs, n < 6) : (x.app N).sz ≤ 500 := by
 have hV : ([0, 1, 2, 3, 4, 5] : List Nat).Nodup := by decide
 have mem6 : ∀ n, n < 6 → n ∈ ([0, 1, 2, 3, 4, 5] : List Nat) := by decide
 obtain ⟨p, hp⟩ : ∃ p : Nat → Nat, p = fun n => (N n).sz + 1 := ⟨_, rfl⟩
 obtain ⟨c, hc⟩ : ∃ c : Nat → Nat, c = fun n => x.vs.count n + y.vs.count n := ⟨_, rfl⟩
 have hxy : x.app N = y.app N := hs (x, y) (by simp)
 have e1 := sz_wv N x
 have e2 := sz_wv N y
 rw [← hxy, ← hp] at e2
 rw [← hp] at e1
 unfold wv at e1 e2 hx hy
 rw [sum_count p hV fun n hn => mem6 n (vx n hn)] at e1
 rw [sum_count p hV fun n hn => mem6 n (vy n hn)] at e2
 rw [sum_count c0 hV fun n hn => mem6 n (vx n hn)] at hx
 rw [sum_count c0 hV fun n hn => mem6 n (vy n hn)] at hy
 have hcp : (([0, 1, 2, 3, 4, 5] : List Nat).map fun v => c v * p v).sum = (([0, 1, 2, 3, 4, 5] : List Nat).map fun v => x.vs.count v * p v).sum + (([0, 1, 2, 3, 4, 5] : List Nat).map fun v => y.vs.count v * p v).sum := by
  rw [← map_add_sum]; congr 1; exact List.map_congr_left fun v _ => by rw [hc]; exact Nat.add_mul _ _ _
 have hcc : (([0, 1, 2, 3, 4, 5] : List Nat).map fun v => cost (v == 0) * c v).sum = (([0, 1, 2, 3, 4, 5] : List Nat).map fun v => x.vs.count v * c0 v).sum + (([0, 1, 2, 3, 4, 5] : List Nat).map fun v => y.vs.count v * c0 v).sum := by
  rw [← map_add_sum]; congr 1; exact List.map_congr_left fun v _ => by rw [hc, Nat.mul_add, Nat.mul_comm, Nat.mul_comm (cost _)]; rfl
 obtain ⟨W, w1, w2⟩ := sum_order c p (x.rho + y.rho) 6 [0, 1, 2, 3, 4, 5] rfl hV fun v hv => by
  cases hN : N v with
  | v m => rw [hp]; simp only [hN, show (Ty.v m).sz = 1 by rw [Ty.sz]]; omega
  | a nm xs =>
    obtain ⟨nm', ys, hP, h2⟩ := range_of hs hm (P := fun t => PartOf t x ∨ PartOf t y) (fun nm xs h z hz => h.imp (fun h => .down h hz) fun h => .down h hz) (fun q hq => by rw [List.mem_singleton.1 hq]; exact ⟨.inl (.self _), .inr (.self _)⟩) hN
    obtain ⟨u, hu⟩ : ∃ u, u = Ty.a nm' ys := ⟨_, rfl⟩
    rw [← hu] at hP h2
    have h6 : ∀ n ∈ u.vs, n < 6 := fun n hn => hP.elim (fun h => vx n (h.vs n hn)) fun h => vy n (h.vs n hn)
    have h7 : ∀ n ∈ u.vs, p n < p v := fun n hn => by
     rw [hp]
     show (N n).sz + 1 < (N v).sz + 1
     rw [hu, vs_a] at hn
     obtain ⟨z, hz, hn⟩ := List.mem_flatMap.1 hn
     have h3 := rgsz_in (σ := N) z n hn
     have h4 := sum_ge Ty.sz (List.mem_map.2 ⟨z, hz, rfl⟩ : z.app N ∈ ys.map (Ty.app N))
     have h5 : 1 + ((ys.map (Ty.app N)).map Ty.sz).sum = (N v).sz := by rw [← h2, hu, app_a, sz_a]
     omega
    have h8 := sz_wv N u
    rw [h2, ← hp] at h8
    unfold wv at h8
    rw [sum_count p hV fun n hn => mem6 n (h6 n hn)] at h8
    have h9 : (([0, 1, 2, 3, 4, 5] : List Nat).map fun w => u.vs.count w * p w).sum ≤ (([0, 1, 2, 3, 4, 5] : List Nat).map fun w => if p w < p v then c w * p w else 0).sum := map_le_sum fun w _ => by
     by_cases hw : w ∈ u.vs
     · rw [if_pos (h7 w hw), hc]
       refine Nat.mul_le_mul_right _ ?_
       rcases hP with h | h
       · have := h.count w; dsimp only; omega
       · have := h.count w; dsimp only; omega
     · rw [List.count_eq_zero_of_not_mem hw]; omega
    have h10 : u.rho ≤ x.rho + y.rho := hP.elim (fun h => by have := h.rho; omega) fun h => by have := h.rho; omega
    have h11 : p v = (N v).sz + 1 := by rw [hp]
    omega
 have h1 := topL_ge (fun v => v == 0) c W (20 - (x.rho + y.rho)) (x.rho + y.rho) (by rw [perm_sum w1, hcc]; omega)
 have h2 := top_all w1 (R := x.rho + y.rho) (by omega)
 omega
end Ux
end Go.Proofs.YtcblppojnailpaaDoor
namespace Go.Proofs.YtcblppojnailpaaDoor
open Go Go.RowKit
set_option linter.unusedVariables false
set_option linter.unusedSimpArgs false
theorem k_thirty (kk : Int) : ∃ K : Nat, wrap64 ((IntKind.u64.wrap kk).tmod 30) = (K : Int) ∧ K < 30 := by
 rw [IntKind.wrap_u64]
 have h0 : 0 ≤ kk % 18446744073709551616 := Int.emod_nonneg _ (by decide)
 rw [Int.tmod_eq_emod_of_nonneg h0]
 have h1 : 0 ≤ kk % 18446744073709551616 % 30 := Int.emod_nonneg _ (by decide)
 have h2 : kk % 18446744073709551616 % 30 < 30 := Int.emod_lt_of_pos _ (by decide)
 refine ⟨(kk % 18446744073709551616 % 30).toNat, ?_, by omega⟩
 rw [Int.toNat_of_nonneg h1]
 unfold wrap64
 omega
theorem rowT_below {w w' : World} {v : Value} {xs : List Ux.Ty} (h : RowAt 3 (TyP w) w v xs) (hb : Below w.heap.size w w') : RowAt 3 (TyP w') w' v xs := h.mono hb fun u x _ hu => tyP_below hu hb
theorem of2_any (nm : List UInt8) (v : Value) (xs : List Ux.Ty) (w : World) (hx : RowAt 3 (TyP w) w v xs) (hl : xs.length ≤ 1000) :
 Calls Tryd.prog 24 #[.string ⟨nm.toArray⟩, v] w (fun e w' => ∃ r, e = .returned r ∧ Below w.heap.size w w' ∧ TyP w' r (.a nm xs)) :=
 (of_any nm v xs w.heap.size w (Nat.le_refl _) (hx.mono (Below.refl _ _) fun u x _ hu => tyP_hang hu 0 0) (by omega)).mono fun e w' ⟨r, h1, h2, h3⟩ => ⟨r, h1, h2, h3.now⟩
theorem size2_any {k : Nat} {f : Ux.Map} (hf : Ux.Fine f) {N : Ux.Sub} (hN : Ux.Norm f N) (hd : ∀ n, f n ≠ none → n < 1000000) {sb : Nat} {t : Ux.Ty} {v : Value} (most : Nat) {w : World} (hs : SubC k w sb f) (ht : TyP w v t) (hk : k + t.sz ≤ 100000) (hm : most ≤ 1000000) :
 Calls Tryd.prog 26 #[.map (some sb), v, .int .i64 (most : Int)] w (fun e w' => e = .returned (.int .i64 ((min (t.app N).sz (most + 1) : Nat) : Int)) ∧ Below w.heap.size w w') := by
 have hmp := hs.p.map
 obtain ⟨U, s1, s2, s3⟩ := hs
 obtain ⟨Ua, a1, a2, a3⟩ := tyP_Q t v ht
 have hq : ∀ x ∈ U ++ Ua, ∃ cs T, w.heap[x.1]? = some (.cells cs T (0, 0)) := fun x hx => (List.mem_append.1 hx).elim (s3 x) (a3 x)
 refine sSize_any f hf N hN sb (U ++ Ua) t v most w ?_ (fun x hx => ?_) hd (tyQ_more a1 fun x hx => ⟨List.mem_append.2 (.inr hx), rfl⟩) (by rw [llen_app]; omega) hm
 · obtain ⟨L, h1, h2⟩ := s1
   exact ⟨L, h1, fun n => ⟨(h2 n).1, fun t ht => by obtain ⟨v, c, d⟩ := (h2 n).2 t ht; exact ⟨v, c, tyQ_more d fun x hx => ⟨List.mem_append.2 (.inl hx), rfl⟩⟩⟩⟩
 · obtain ⟨cs, T, e⟩ := hq x hx
   refine ⟨ent_lt e, fun e2 => ?_⟩
   obtain ⟨es, kk, e3⟩ := hmp
   rw [e2, e3] at e; cases e
/-- What Within comes to at first. -/
def WiR (k most : Nat) (a b : Ux.Ty) (sb : Nat) (w' : World) (er : Int) : Prop :=
 (er = 0 ∧ ∃ f', Ux.Made (fun _ => none) f' a b ∧ SubC k w' sb f' ∧ ∀ N, Ux.Norm f' N → (a.app N).sz ≤ most) ∨
   (er = 5 ∧ SubC k w' sb (fun _ => none) ∧ (Ux.Never (fun _ => none) a b ∨ ∃ f', Ux.Made (fun _ => none) f' a b ∧ ∀ N, Ux.Norm f' N → most < (a.app N).sz))
theorem within1_any (k' most : Nat) (sb : Nat) (a b : Ux.Ty) (va vB : Value) (w : World) (hs : SubC 0 w sb (fun _ => none)) (ha : TyP w va a) (hb : TyP w vB b) (hk : 2 * (a.sz + b.sz) ≤ k') (hfew : k' ≤ 100000) (hm : most ≤ 1000000) :
 Calls Tryd.prog 25 #[.map (some sb), va, vB, .int .i64 (most : Int)] w (fun e w' => ∃ er : Int, e = .returned (.int .i64 er) ∧ Chg (· = sb) w w' ∧ WiR k' most a b sb w' er) := by
 have hmp := hs.p.map
 obtain ⟨U, s1, s2, s3⟩ := hs
 obtain ⟨Ua, a1, a2, a3⟩ := tyP_Q a va ha
 obtain ⟨Ub, b1, b2, b3⟩ := tyP_Q b vB hb
 have hq : ∀ x ∈ Ua ++ Ub, ∃ cs T, w.heap[x.1]? = some (.cells cs T (0, 0)) := fun x hx => (List.mem_append.1 hx).elim (a3 x) (b3 x)
 refine (sWithin_any (fun _ => none) fine_none sb (Ua ++ Ub) a b va vB most w (sub_none s1) (fun x hx => ?_) (fun n h => absurd rfl h) (tyQ_more a1 fun x hx => ⟨List.mem_append.2 (.inl hx), rfl⟩) (tyQ_more b1 fun x hx => ⟨List.mem_append.2 (.inr hx), rfl⟩) (by rw [llen_app]; omega) hm).mono ?_
 · obtain ⟨cs, T, e⟩ := hq x hx
   refine ⟨ent_lt e, fun e2 => ?_⟩
   obtain ⟨es, kk, e3⟩ := hmp
   rw [e2, e3] at e; cases e
 · rintro e w' ⟨hc, ⟨rfl, f', U', h1, h2, h3, h4, _, h6⟩ | ⟨rfl, h1, h2⟩⟩
   · refine ⟨0, rfl, hc, .inl ⟨rfl, f', ⟨h1, h2⟩, ?_, h6⟩⟩
     obtain ⟨V, v1, v2, v3⟩ := sub_cells h3
     exact ⟨V, v1, by rw [llen_app] at h4; omega, v3⟩
   · refine ⟨5, rfl, hc, .inr ⟨rfl, ?_, ?_⟩⟩
     · exact ⟨[], sub_none h1, Nat.zero_le _, fun x hx => by cases hx⟩
     · rcases h2 with h2 | ⟨f', h2, h3, h4⟩
       · exact .inl fun σ hσ e => h2 σ ⟨hσ, e⟩
       · exact .inr ⟨f', ⟨h2, h3⟩, h4⟩
theorem WiR.below {k most : Nat} {a b : Ux.Ty} {sb : Nat} {w w' : World} {er : Int} (h : WiR k most a b sb w er) (hb : Below w.heap.size w w') : WiR k most a b sb w' er := by
 rcases h with ⟨e1, f2, a1, a2, a3⟩ | ⟨e1, a1, a2⟩
 · exact .inl ⟨e1, f2, a1, a2.below hb, a3⟩
 · exact .inr ⟨e1, a1.below hb, a2⟩
theorem RUPost.got {L' : Ux.Pairs} {w : World} {e : Ending} {w' : World} (h : RUPost (some L') w e w') : ∃ lv', e = .returned (.tuple #[lv', .bool true]) ∧ Below w.heap.size w w' ∧ RowAt 4 (PairP w') w' lv' L' := by
 obtain ⟨lv', h1, h2, h3⟩ := h
 exact ⟨lv', h1, h2, h3 L' rfl⟩
theorem kap_ok {l : List Ux.Nod} (h : l.length ≤ 9) : (Ux.typN 13 l).1.rho + Ux.wv Ux.c0 (Ux.typN 13 l).1 ≤ 10 := by
 have h1 := Ux.typN_kap 13 l
 have h2 := Ux.typN_le 13 l
 omega
theorem made_big {f : Ux.Map} {x y : Ux.Ty} (hm : Ux.Made (fun _ => none) f x y) {N : Ux.Sub} (hN : Ux.Norm f N) (hx : x.rho + Ux.wv Ux.c0 x ≤ 10) (hy : y.rho + Ux.wv Ux.c0 y ≤ 10) (vx : ∀ n ∈ x.vs, n < 6) (vy : ∀ n ∈ y.vs, n < 6) : (x.app N).sz ≤ 500 := by
 have hone : ∀ σ, Ux.Sol f σ ↔ Ux.AllOne [(x, y)] σ := fun σ => by
  rw [hm.2 σ]
  exact ⟨fun h p hp => by rw [List.mem_singleton.1 hp]; exact h.2, fun h => ⟨(fun n t h => by cases h), h (x, y) (by simp)⟩⟩
 exact Ux.big_sum ((hone N).1 hN.sol) (fun σ hσ => hN.most hm.1 ((hone σ).2 hσ)) hx hy vx vy
/-- Made one twice. -/
theorem made_two_like {f g : Ux.Map} {x y : Ux.Ty} (h1 : Ux.Made (fun _ => none) f x y) (h2 : Ux.Made (fun _ => none) g x y) {N M : Ux.Sub} (hN : Ux.Norm f N) (hM : Ux.Norm g M) (t : Ux.Ty) : Ux.canon (t.app N) = Ux.canon (t.app M) :=
 Ux.fine_like h1.1 h2.1 hN hM (fun σ => (h1.2 σ).trans (h2.2 σ).symm) t
theorem cut_min (m n : Nat) : Ux.cut m n = min n (m + 1) := by unfold Ux.cut; split <;> omega
theorem two_small {x y : Ux.Ty} (hx : Ux.Small 19 6 x) (hy : Ux.Small 19 6 y) : (Ux.Plain (.a [80] [x, y]) ∧ ∀ m ∈ (Ux.Ty.a [80] [x, y]).vs, m < 6) ∧ (Ux.Ty.a [80] [x, y]).sz * 19 ^ 6 ≤ 10000000000 := by
 refine ⟨⟨Ux.plain_a ⟨by decide, by decide⟩ fun u hu => ?_, fun m hm => ?_⟩, ?_⟩
 · simp at hu
   rcases hu with rfl | rfl
   · exact hx.1
   · exact hy.1
 · rw [Ux.vs_a] at hm
   simp at hm
   rcases hm with h | h
   · exact hx.2.2 m h
   · exact hy.2.2 m h
 · have h : (Ux.Ty.a [80] [x, y]).sz ≤ 39 := by rw [Ux.sz_a]; have := hx.2.1; have := hy.2.1; simp; omega
   exact Nat.le_trans (Nat.mul_le_mul_right _ h) (by decide)
end Go.Proofs.YtcblppojnailpaaDoor
