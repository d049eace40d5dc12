/-
  Several texts in one: USzB, ULike, UTwo, UApp, UApB, URefP, UPairP.
-/
import Derived.Test.YtcblppojnailpaaDoorG13
import Derived.Test.YtcblppojnailpaaDoorG01
import Derived.Test.YtcblppojnailpaaDoorG11
import Derived.Test.YtcblppojnailpaaDoorG07
import Derived.Test.YtcblppojnailpaaDoorG04
import Derived.Test.YtcblppojnailpaaDoorG02
namespace Go.Proofs.YtcblppojnailpaaDoor
namespace Ux
set_option linter.unusedVariables false
set_option linter.unusedSimpArgs false
open Classical in
mutual
/-- A variable wherever T stood. -/
noncomputable def Ty.rpl (T : Ty) : Ty → Ty
 | .v n => if Ty.v n = T then .v 0 else .v n
 | .a nm xs => if Ty.a nm xs = T then .v 0 else .a nm (Ty.rpls T xs)
noncomputable def Ty.rpls (T : Ty) : List Ty → List Ty
 | [] => []
 | x :: r => Ty.rpl T x :: Ty.rpls T r
end
theorem rpls_map (T : Ty) : ∀ l : List Ty, Ty.rpls T l = l.map (Ty.rpl T)
 | [] => by rw [Ty.rpls]; rfl
 | x :: r => by rw [Ty.rpls, rpls_map T r]; rfl
theorem rpl_self (T : Ty) : Ty.rpl T T = .v 0 := by
 cases T with
 | v n => rw [Ty.rpl, if_pos rfl]
 | a nm xs => rw [Ty.rpl, if_pos rfl]
theorem rpl_a {T : Ty} {nm : List UInt8} {xs : List Ty} (h : Ty.a nm xs ≠ T) : Ty.rpl T (.a nm xs) = .a nm (xs.map (Ty.rpl T)) := by rw [Ty.rpl, if_neg h, rpls_map]
theorem rpl_app {P : Ty → Prop} (hP : ∀ nm xs, P (.a nm xs) → ∀ x ∈ xs, P x) {N : Sub} {T : Ty} (hT : ∀ nm xs, P (.a nm xs) → (Ty.a nm xs).app N ≠ T) : ∀ t : Ty, P t → Ty.rpl T (t.app N) = t.app fun m => Ty.rpl T (N m) := by
 intro t
 induction t using Ty.ind with
 | hv n => intro _; rw [app_v, app_v]
 | ha nm xs ih =>
   intro h
   have h1 := hT nm xs h
   rw [app_a] at h1 ⊢
   rw [rpl_a h1, app_a, List.map_map]
   congr 1
   exact List.map_congr_left fun x hx => ih x hx (hP nm xs h x hx)
/-- What makes all of E one. -/
def AllOne (E : List (Ty × Ty)) (σ : Sub) : Prop := ∀ p ∈ E, p.1.app σ = p.2.app σ
theorem range_of {E : List (Ty × Ty)} {N : Sub} (hs : AllOne E N) (hm : ∀ σ, AllOne E σ → ∀ n, σ n = (N n).app σ) {P : Ty → Prop} (hP : ∀ nm xs, P (.a nm xs) → ∀ x ∈ xs, P x) (hE : ∀ p ∈ E, P p.1 ∧ P p.2) {n : Nat} {nm : List UInt8} {xs : List Ty} (hn : N n = .a nm xs) : ∃ nm' ys, P (.a nm' ys) ∧ (Ty.a nm' ys).app N = N n := by
 refine Classical.byContradiction fun hno => ?_
 have hT : ∀ nm' ys, P (.a nm' ys) → (Ty.a nm' ys).app N ≠ N n := fun nm' ys h e => hno ⟨nm', ys, h, e⟩
 have hσ : AllOne E fun m => Ty.rpl (N n) (N m) := fun p hp => by
  rw [← rpl_app hP hT _ (hE p hp).1, ← rpl_app hP hT _ (hE p hp).2, hs p hp]
 have h := hm _ hσ n
 simp only [rpl_self] at h
 rw [hn, app_a] at h
 cases h
theorem rgsum_mul {xs : List Ty} {g : Ty → Nat} {c : Nat} (h : ∀ x ∈ xs, g x ≤ x.sz * c) : (xs.map g).sum ≤ (xs.map Ty.sz).sum * c := by
 induction xs with
 | nil => simp
 | cons x r ih =>
   simp only [List.map_cons, List.sum_cons]
   have h1 := h x (by simp)
   have h2 := ih fun y hy => h y (by simp [hy])
   rw [Nat.add_mul]; omega
theorem rgapp_sz {σ : Sub} {c : Nat} (hc : 1 ≤ c) : ∀ t : Ty, (∀ n ∈ t.vs, (σ n).sz ≤ c) → (t.app σ).sz ≤ t.sz * c := by
 intro t
 induction t using Ty.ind with
 | hv n => intro h; rw [app_v, show (Ty.v n).sz = 1 by rw [Ty.sz]]; have := h n (by rw [vs_v]; simp); omega
 | ha nm xs ih =>
   intro h
   rw [app_a, sz_a, sz_a, List.map_map, Nat.add_mul]
   have h1 := rgsum_mul (xs := xs) (g := Ty.sz ∘ Ty.app σ) (c := c) fun x hx => ih x hx fun n hn => h n (by rw [vs_a]; exact List.mem_flatMap.2 ⟨x, hx, hn⟩)
   omega
theorem rgsz_in {σ : Sub} : ∀ t : Ty, ∀ n ∈ t.vs, (σ n).sz ≤ (t.app σ).sz := by
 intro t
 induction t using Ty.ind with
 | hv m => intro n hn; rw [vs_v] at hn; simp at hn; subst hn; rw [app_v]; exact Nat.le_refl _
 | ha nm xs ih =>
   intro n hn
   rw [vs_a] at hn
   obtain ⟨x, hx, hn⟩ := List.mem_flatMap.1 hn
   have h1 := ih x hx n hn
   rw [app_a, sz_a, List.map_map]
   have h2 := sum_ge (Ty.sz ∘ Ty.app σ) hx
   simp only [Function.comp] at h2
   show _ ≤ 1 + (xs.map (Ty.sz ∘ Ty.app σ)).sum
   omega
theorem rgfilter_lt {p q : Nat → Bool} : ∀ {l : List Nat} {n : Nat}, (∀ m, p m = true → q m = true) → n ∈ l → q n = true → p n = false → (l.filter p).length < (l.filter q).length
 | [], n, _, h, _, _ => by cases h
 | x :: r, n, hpq, h, hq, hp => by
   have hle : (r.filter p).length ≤ (r.filter q).length := by
    clear h
    induction r with
    | nil => simp
    | cons y r ih =>
      rw [List.filter_cons, List.filter_cons]
      by_cases h1 : p y = true
      · rw [if_pos h1, if_pos (hpq y h1)]; simpa using ih
      · rw [if_neg h1]; split
        · simp; omega
        · exact ih
   rw [List.filter_cons, List.filter_cons]
   rcases List.mem_cons.1 h with rfl | h
   · rw [if_neg (by rw [hp]; simp), if_pos hq]; simp; omega
   · have ih := rgfilter_lt hpq h hq hp
     by_cases h1 : p x = true
     · rw [if_pos h1, if_pos (hpq x h1)]; simpa using ih
     · rw [if_neg h1]; split
       · simp; omega
       · exact ih
theorem range_le {E : List (Ty × Ty)} {N : Sub} (hs : AllOne E N) (hm : ∀ σ, AllOne E σ → ∀ n, σ n = (N n).app σ) {S K : Nat} (hS : 1 ≤ S) (hE : ∀ p ∈ E, (p.1.sz ≤ S ∧ ∀ m ∈ p.1.vs, m < K) ∧ (p.2.sz ≤ S ∧ ∀ m ∈ p.2.vs, m < K)) (n : Nat) (hn : n < K) : (N n).sz ≤ S ^ K := by
 have key : ∀ k n, n < K → (N n).sz ≤ k → (N n).sz ≤ S ^ ((List.range K).filter fun m => decide ((N m).sz ≤ (N n).sz)).length := by
  intro k
  induction k with
  | zero => intro n _ h; have := sz_pos (N n); omega
  | succ k ih =>
    intro n hn hk
    cases hc : N n with
    | v m => rw [show (Ty.v m).sz = 1 by rw [Ty.sz]]; exact Nat.pow_pos hS
    | a nm xs =>
      rw [← hc]
      obtain ⟨nm', ys, ⟨hp1, hp2⟩, h2⟩ := range_of hs hm (P := fun t => t.sz ≤ S ∧ ∀ m ∈ t.vs, m < K) (fun nm xs h x hx => ⟨by have h1 := h.1; rw [sz_a] at h1; have := sum_ge Ty.sz hx; omega, fun m hm => h.2 m (by rw [vs_a]; exact List.mem_flatMap.2 ⟨x, hx, hm⟩)⟩) hE hc
      have hlt : ∀ m ∈ (Ty.a nm' ys).vs, (N m).sz < (N n).sz := fun m hm => by
       rw [← h2, app_a, sz_a]
       rw [vs_a] at hm
       obtain ⟨y, hy, hm⟩ := List.mem_flatMap.1 hm
       have h3 := rgsz_in (σ := N) y m hm
       have h4 := sum_ge Ty.sz (List.mem_map.2 ⟨y, hy, rfl⟩ : y.app N ∈ ys.map (Ty.app N))
       omega
      obtain ⟨c, hcnt⟩ : ∃ c, c = ((List.range K).filter fun m => decide ((N m).sz ≤ (N n).sz)).length := ⟨_, rfl⟩
      have hpos : 1 ≤ c := by
       rw [hcnt]
       exact List.length_pos_of_mem (List.mem_filter.2 ⟨List.mem_range.2 hn, by simp⟩)
      have hle : ∀ m ∈ (Ty.a nm' ys).vs, (N m).sz ≤ S ^ (c - 1) := fun m hm => by
       have h5 := ih m (hp2 m hm) (by have := hlt m hm; omega)
       refine Nat.le_trans h5 (Nat.pow_le_pow_right hS ?_)
       have h6 := rgfilter_lt (p := fun q => decide ((N q).sz ≤ (N m).sz)) (q := fun q => decide ((N q).sz ≤ (N n).sz)) (l := List.range K) (n := n) (fun q hq => by have := hlt m hm; simp at hq ⊢; omega) (List.mem_range.2 hn) (by simp) (by have := hlt m hm; simp; omega)
       rw [hcnt]; omega
      rw [← hcnt]
      have h7 := rgapp_sz (Nat.pow_pos hS : 1 ≤ S ^ (c - 1)) (Ty.a nm' ys) hle
      rw [h2] at h7
      refine Nat.le_trans h7 ?_
      refine Nat.le_trans (Nat.mul_le_mul_right _ hp1) ?_
      rw [show S ^ c = S ^ (c - 1 + 1) by congr 1; omega, Nat.pow_succ, Nat.mul_comm]
      exact Nat.le_refl _
 refine Nat.le_trans (key _ n hn (Nat.le_refl _)) (Nat.pow_le_pow_right hS ?_)
 refine Nat.le_trans (List.length_filter_le _ _) ?_
 simp
end Ux
end Go.Proofs.YtcblppojnailpaaDoor
namespace Go.Proofs.YtcblppojnailpaaDoor
open Go Go.RowKit
set_option linter.unusedVariables false
set_option linter.unusedSimpArgs false
set_option maxHeartbeats 4000000 in
set_option maxRecDepth 100000 in
theorem like_same {t : Ux.Ty} (ho : OkT t) (va vB : Value) (w : World) (ha : TyP w va t) (hb : TyP w vB t) (htab : Lib.TabIs Tryd.prog w "internal/strconv.uint64pow10" .u64 Lib.pow10Tab) :
 Calls Tryd.prog 15 #[va, vB] w (fun e w' => e = .returned (.bool true) ∧ Below w.heap.size w w') := by
 obtain ⟨a0, a1, aq, am, ac, rfl⟩ := tyP_sh ha
 obtain ⟨b0, b1, bq, bm, bc, rfl⟩ := tyP_sh hb
 have HA := Lib.hid ha; have HV := Lib.hid hb; have HOK := Lib.hid ho
 have HTB := Lib.hid (fun (w' : World) (hb : Below w.heap.size w w') => (Lib.tabBelow_of_tabIs htab) w' hb)
 obtain ⟨TX, hTX⟩ : ∃ TX, TX = Ux.textT t := ⟨_, rfl⟩
 have HTX := Lib.hid hTX
 clear ha hb ho htab hTX
 go_enter Tryd.func15, Tryd.ntmps15
 have EA := Lib.hid (ent_alloc (ent_new w #[.int .i64 a0, .string a1, .slice aq am ac] 30) (.cells #[.int .i64 b0, .string b1, .slice bq bm bc] 30))
 have EB := Lib.hid (ent_new (w.alloc (.cells #[.int .i64 a0, .string a1, .slice aq am ac] 30)) #[.int .i64 b0, .string b1, .slice bq bm bc] 30)
 rw [show (w.alloc (.cells #[.int .i64 a0, .string a1, .slice aq am ac] 30)).heap.size = w.heap.size + 1 by simp] at EB
 have HB := Lib.hid (show Below w.heap.size w ((w.alloc (.cells #[.int .i64 a0, .string a1, .slice aq am ac] 30)).alloc (.cells #[.int .i64 b0, .string b1, .slice bq bm bc] 30)) from ((Below.refl _ _).alloc (Nat.le_refl _) _).alloc (by simp) _)
 go_upto_region 1 with fail
 generalize (w.alloc (.cells #[.int .i64 a0, .string a1, .slice aq am ac] 30)).alloc (.cells #[.int .i64 b0, .string b1, .slice bq bm bc] 30) = w1 at EA EB HB ⊢
 replace EA : Hid (w1.drew.heap[w.heap.size]? = some (.cells #[.int .i64 a0, .string a1, .slice aq am ac] 30 (0, 0))) := Lib.hid EA.out
 replace EB : Hid (w1.drew.heap[w.heap.size + 1]? = some (.cells #[.int .i64 b0, .string b1, .slice bq bm bc] 30 (0, 0))) := Lib.hid EB.out
 replace HB : Hid (Below w.heap.size w w1.drew) := Lib.hid HB.out.drew
 have HTA := Lib.hid (tyP_below HA.out HB.out)
 have HTV := Lib.hid (tyP_below HV.out HB.out)
 refine wp_region_held_drew (S := fun (u : World) => u.heap[w.heap.size]? = some (.cells #[.int .i64 a0, .string a1, .slice aq am ac] 30 (0, 0)) ∧ u.heap[w.heap.size + 1]? = some (.cells #[.int .i64 b0, .string b1, .slice bq bm bc] 30 (0, 0))) (by kernel_rfl) (⟨EA.out, EB.out⟩) (fun hHeld => ?_)
 generalize w1.drew = wd at EA EB HB HTA HTV hHeld ⊢
 refine wpAnyH_take (i := 0) (v := .agg #[.int .i64 a0, .string a1, .slice aq am ac]) rfl (by kernel_rfl) (by kernel_rfl) (by kernel_rfl) (fun _ _ _ h => h) (Or.inl ⟨by rfl, fun w' hSw => by have h0 := ent_cell hSw.1 0 _ rfl; have h1 := ent_cell hSw.1 1 _ rfl; have h2 := ent_cell hSw.1 2 _ rfl; go_simp⟩) hHeld ?_
 refine wpAnyH_take (i := 2) (v := .agg #[.int .i64 b0, .string b1, .slice bq bm bc]) rfl (by kernel_rfl) (by kernel_rfl) (by kernel_rfl) (fun _ _ _ h => h) (Or.inl ⟨by rfl, fun w' hSw => by have h0 := ent_cell hSw.2 0 _ rfl; have h1 := ent_cell hSw.2 1 _ rfl; have h2 := ent_cell hSw.2 2 _ rfl; go_simp⟩) hHeld ?_
 try simp only [Act.put, List.getElem_toArray, List.getElem_cons_succ, List.getElem_cons_zero, List.setIfInBounds_toArray, List.set_cons_zero, List.set_cons_succ]
 refine wpAnyH_ready (rs := [1]) (by kernel_rfl) (by simp) ?_
 refine AllReadyH.cons rfl (fun K hK => ?_) AllReadyH.nil
 go_simp
 refine (rtext_ok HOK.out _ wd HTA.out (HTB.out wd HB.out)).mono ?_
 rintro e w2 ⟨rfl, hb2⟩
 rw [← HTX.out]
 have EA2 := Lib.hid (ent_below EA.out hb2); have EB2 := Lib.hid (ent_below EB.out hb2)
 have HTV2 := Lib.hid (tyP_below HTV.out hb2)
 have HB2 := Lib.hid (HB.out.trans (hb2.mono HB.out.size))
 clear hb2
 refine hK.out _ _ ⟨EA2.out, EB2.out⟩ (fun hHeld => ?_)
 clear hK K
 refine wpAnyH_ready (rs := [3]) (by kernel_rfl) (by simp) ?_
 refine AllReadyH.cons rfl (fun K hK => ?_) AllReadyH.nil
 go_simp
 refine (rtext_ok HOK.out _ w2 HTV2.out (HTB.out w2 HB2.out)).mono ?_
 rintro e w3 ⟨rfl, hb3⟩
 rw [← HTX.out]
 have EA3 := Lib.hid (ent_below EA2.out hb3); have EB3 := Lib.hid (ent_below EB2.out hb3)
 have HB3 := Lib.hid (HB2.out.trans (hb3.mono HB2.out.size))
 clear hb3
 refine hK.out _ _ ⟨EA3.out, EB3.out⟩ (fun hHeld => ?_)
 clear hK K
 refine wpAnyH_take (i := 4) (v := .bool true) rfl (by kernel_rfl) (by kernel_rfl) (by kernel_rfl) (fun _ _ _ h => h) (Or.inl ⟨by rfl, fun w' hSw => by go_simp⟩) hHeld ?_
 simp only [Act.put, List.getElem_toArray, List.getElem_cons_succ, List.getElem_cons_zero, List.setIfInBounds_toArray, List.set_cons_zero, List.set_cons_succ]
 refine wpAnyH_take (i := 5) (v := .bool true) rfl (by kernel_rfl) (by kernel_rfl) (by kernel_rfl) (fun _ _ _ h => h) (Or.inl ⟨by rfl, fun w' hSw => by go_simp⟩) hHeld ?_
 simp only [Act.put, List.getElem_toArray, List.getElem_cons_succ, List.getElem_cons_zero, List.setIfInBounds_toArray, List.set_cons_zero, List.set_cons_succ]
 refine wpAnyH_done (by kernel_rfl) ?_ _
 go_wp2_with fail
 go_ret
 exact ⟨rfl, HB3.out⟩
end Go.Proofs.YtcblppojnailpaaDoor
namespace Go.Proofs.YtcblppojnailpaaDoor
open Go Go.RowKit
set_option linter.unusedVariables false
set_option linter.unusedSimpArgs false
namespace Ux
theorem allOne_rests {E : List (Ty × Ty)} {V : Nat → Prop} (hE : ∀ p ∈ E, (∀ m ∈ p.1.vs, V m) ∧ ∀ m ∈ p.2.vs, V m) (σ τ : Sub) (h : ∀ n, V n → σ n = τ n) (e : AllOne E σ) : AllOne E τ := fun p hp =>
 one_rests (hE p hp).1 (hE p hp).2 σ τ h (e p hp)
theorem range_plain {E : List (Ty × Ty)} {N : Sub} (hs : AllOne E N) (hm : ∀ σ, AllOne E σ → ∀ n, σ n = (N n).app σ) (hE : ∀ p ∈ E, Plain p.1 ∧ Plain p.2) : ∀ n, Plain (N n) := by
 have key : ∀ k n, (N n).sz ≤ k → Plain (N n) := by
  intro k
  induction k with
  | zero => intro n h; have := sz_pos (N n); omega
  | succ k ih =>
    intro n hk
    cases hc : N n with
    | v m => exact plain_v m
    | a nm xs =>
      obtain ⟨nm', ys, hp, h2⟩ := range_of hs hm (P := Plain) (fun nm xs h => (plain_in h).2) hE hc
      rw [← hc, ← h2]
      refine plain_app hp fun m hmm => ih m ?_
      rw [vs_a] at hmm
      obtain ⟨y, hy, hmm⟩ := List.mem_flatMap.1 hmm
      have h3 := rgsz_in (σ := N) y m hmm
      have h4 := sum_ge Ty.sz (List.mem_map.2 ⟨y, hy, rfl⟩ : y.app N ∈ ys.map (Ty.app N))
      have h5 : 1 + ((ys.map (Ty.app N)).map Ty.sz).sum = (N n).sz := by rw [← h2, app_a, sz_a]
      omega
 exact fun n => key _ n (Nat.le_refl _)
/-- Small types. -/
def Small (S K : Nat) (t : Ty) : Prop := Plain t ∧ t.sz ≤ S ∧ ∀ m ∈ t.vs, m < K
end Ux
theorem okT_all {f : Ux.Map} (hf : Ux.Fine f) {N : Ux.Sub} (hN : Ux.Norm f N) {E : List (Ux.Ty × Ux.Ty)} (hE : ∀ σ, Ux.Sol f σ ↔ Ux.AllOne E σ) {S K : Nat} (hS : 1 ≤ S) (hK : K ≤ 1000000) (hEs : ∀ p ∈ E, Ux.Small S K p.1 ∧ Ux.Small S K p.2) {t : Ux.Ty} (ht : Ux.Plain t ∧ ∀ m ∈ t.vs, m < K) (hb : t.sz * S ^ K ≤ 10000000000) : OkT (t.app N) := by
 have hs : Ux.AllOne E N := (hE N).1 hN.sol
 have hm : ∀ σ, Ux.AllOne E σ → ∀ n, σ n = (N n).app σ := fun σ hσ => hN.most hf ((hE σ).2 hσ)
 refine ⟨Ux.plain_app ht.1 fun n _ => Ux.range_plain hs hm (fun p hp => ⟨(hEs p hp).1.1, (hEs p hp).2.1⟩) n, fun m hm2 => ?_, ?_⟩
 · obtain ⟨n, hn, hm2⟩ := (Ux.vs_app _ m t).1 hm2
   have := Ux.norm_vs hf hN (P := Ux.AllOne E) hE (V := fun n => n < K) (Ux.allOne_rests fun p hp => ⟨(hEs p hp).1.2.2, (hEs p hp).2.2.2⟩) (ht.2 n hn) m hm2
   omega
 · refine Nat.le_trans (Ux.rgapp_sz (Nat.pow_pos hS : 1 ≤ S ^ K) t fun n hn => Ux.range_le hs hm hS (fun p hp => ⟨(hEs p hp).1.2, (hEs p hp).2.2⟩) n (ht.2 n hn)) hb
theorem dom_all {f : Ux.Map} (hf : Ux.Fine f) {N : Ux.Sub} (hN : Ux.Norm f N) {E : List (Ux.Ty × Ux.Ty)} (hE : ∀ σ, Ux.Sol f σ ↔ Ux.AllOne E σ) {S K : Nat} (hK : K ≤ 1000000) (hEs : ∀ p ∈ E, Ux.Small S K p.1 ∧ Ux.Small S K p.2) (n : Nat) (h : f n ≠ none) : n < 1000000 := by
 have := Ux.dom_of hf hN (P := Ux.AllOne E) hE (V := fun n => n < K) (Ux.allOne_rests fun p hp => ⟨(hEs p hp).1.2.2, (hEs p hp).2.2.2⟩) n h
 omega
theorem norm_idem {f : Ux.Map} (hf : Ux.Fine f) {N : Ux.Sub} (hN : Ux.Norm f N) (t : Ux.Ty) : (t.app N).app N = t.app N := by
 rw [Ux.app_app]
 exact Ux.app_congr t fun n _ => (hN.most hf hN.sol n).symm
/-- A substitution in memory, and how many parts its lists have. -/
def SubC (k : Nat) (w : World) (b : Nat) (f : Ux.Map) : Prop := ∃ U : List LKey, SubAt (· ∈ U) w b f ∧ llen U ≤ k ∧ ∀ x ∈ U, ∃ cs T, w.heap[x.1]? = some (.cells cs T (0, 0))
theorem SubC.p {k : Nat} {w : World} {b : Nat} {f : Ux.Map} (h : SubC k w b f) : SubP w b f := by obtain ⟨U, h1, _⟩ := h; exact h1.p
theorem SubC.below {k : Nat} {w w' : World} {b : Nat} {f : Ux.Map} (h : SubC k w b f) (hb : Below w.heap.size w w') : SubC k w' b f := by
 obtain ⟨U, h1, h2, h3⟩ := h
 refine ⟨U, h1.keep (hb.block _ (SubP.lt h1.p)) fun x hx => ?_, h2, fun x hx => ?_⟩
 · obtain ⟨cs, T, e⟩ := h3 x hx; exact hb.block _ (ent_lt e)
 · obtain ⟨cs, T, e⟩ := h3 x hx; exact ⟨cs, T, ent_below e hb⟩
/-- It stays while another's block changes. -/
theorem SubC.chg {k : Nat} {w w' : World} {b sb : Nat} {f : Ux.Map} (h : SubC k w b f) (hm : ∃ es k, w.heap[sb]? = some (.map es k)) (hc : Chg (· = sb) w w') (hn : b ≠ sb) : SubC k w' b f := by
 obtain ⟨U, h1, h2, h3⟩ := h
 have hk : ∀ x ∈ U, w'.heap[x.1]? = w.heap[x.1]? := fun x hx => by
  obtain ⟨cs, T, e⟩ := h3 x hx
  refine hc.block _ (ent_lt e) fun e2 => ?_
  obtain ⟨es, k, e3⟩ := hm
  rw [e2, e3] at e; cases e
 exact ⟨U, h1.keep (hc.block _ (SubP.lt h1.p) hn) hk, h2, fun x hx => by obtain ⟨cs, T, e⟩ := h3 x hx; exact ⟨cs, T, (hk x hx).trans e⟩⟩
theorem SubP.keepBlk {w w' : World} {b sb : Nat} {f : Ux.Map} (h : SubP w b f) (hm : ∃ es k, w.heap[sb]? = some (.map es k)) (hc : Chg (· = sb) w w') (hn : b ≠ sb) : SubP w' b f := by
 have hl := h.lt
 obtain ⟨L, h1, h2⟩ := h
 exact ⟨L, h1.keep (hc.block _ hl hn) fun _ _ => trivial, fun n => ⟨(h2 n).1, fun t ht => by obtain ⟨v, a, c⟩ := (h2 n).2 t ht; exact ⟨v, a, tyP_chg hm hc c⟩⟩⟩
theorem llen_filter (p : LKey → Bool) : ∀ U : List LKey, llen (U.filter p) ≤ llen U
 | [] => Nat.le_refl _
 | x :: r => by
   have ih := llen_filter p r
   rw [List.filter_cons]
   split
   · simp only [llen, List.map_cons, List.sum_cons] at ih ⊢; omega
   · simp only [llen, List.map_cons, List.sum_cons] at ih ⊢; omega
open Classical in
theorem sub_cells {U : List LKey} {w : World} {b : Nat} {f : Ux.Map} (h : SubAt (· ∈ U) w b f) : SubC (llen U) w b f := by
 obtain ⟨L, h1, h2⟩ := h
 refine ⟨U.filter fun x => decide (∃ cs T, w.heap[x.1]? = some (.cells cs T (0, 0))), ⟨L, h1, fun n => ⟨(h2 n).1, fun t ht => ?_⟩⟩, llen_filter _ _, fun x hx => by have := (List.mem_filter.1 hx).2; simpa using this⟩
 obtain ⟨v, a, c⟩ := (h2 n).2 t ht
 obtain ⟨V, v1, _, v3⟩ := tyQ_fin t v c
 exact ⟨v, a, tyQ_more v1 fun x hx => ⟨List.mem_filter.2 ⟨(v3 x hx).1, by simpa using (v3 x hx).2⟩, rfl⟩⟩
theorem SubC.new (w : World) : SubC 0 (w.alloc (.map #[] 0)) w.heap.size (fun _ => none) :=
 ⟨[], sub_none (sub_new (fun _ => False) w), Nat.le_refl _, fun x hx => by cases hx⟩
/-- What Unify comes to. -/
def UniR (k : Nat) (f : Ux.Map) (a b : Ux.Ty) (sb : Nat) (w' : World) (er : Int) : Prop :=
 (er = 0 ∧ ∃ f', Ux.Made f f' a b ∧ SubC k w' sb f') ∨ (er = 5 ∧ Ux.Never f a b ∧ SubC k w' sb f)
theorem UniR.sub {k : Nat} {f : Ux.Map} {a b : Ux.Ty} {sb : Nat} {w w' : World} {er : Int} (h : UniR k f a b sb w er) (hk : ∀ g, SubC k w sb g → SubC k w' sb g) : UniR k f a b sb w' er := by
 rcases h with ⟨e, f', h1, h2⟩ | ⟨e, h1, h2⟩
 · exact .inl ⟨e, f', h1, hk _ h2⟩
 · exact .inr ⟨e, h1, hk _ h2⟩
/-- The block of it is a map. -/
theorem UniR.map {k : Nat} {f : Ux.Map} {a b : Ux.Ty} {sb : Nat} {w : World} {er : Int} (h : UniR k f a b sb w er) : ∃ es k, w.heap[sb]? = some (.map es k) := by
 rcases h with ⟨e, f', h1, h2⟩ | ⟨e, h1, h2⟩
 · exact h2.p.map
 · exact h2.p.map
theorem unify2_any (k k' : Nat) (f : Ux.Map) (hf : Ux.Fine f) (hd : ∀ n, f n ≠ none → n < 1000000) (sb : Nat) (a b : Ux.Ty) (va vB : Value) (w : World) (hs : SubC k w sb f) (ha : TyP w va a) (hb : TyP w vB b) (hk : k + 2 * (a.sz + b.sz) ≤ k') (hfew : k' ≤ 100000) :
 Calls Tryd.prog 13 #[.map (some sb), va, vB] w (fun e w' => ∃ er : Int, e = .returned (.int .i64 er) ∧ Chg (· = sb) w w' ∧ UniR k' f a b sb w' er) := by
 have hm := hs.p.map
 obtain ⟨U, s1, s2, s3⟩ := hs
 obtain ⟨Ua, a1, a2, a3⟩ := tyP_Q a va ha
 obtain ⟨Ub, b1, b2, b3⟩ := tyP_Q b vB hb
 have hq : ∀ x ∈ U ++ (Ua ++ Ub), ∃ cs T, w.heap[x.1]? = some (.cells cs T (0, 0)) := fun x hx => (List.mem_append.1 hx).elim (s3 x) fun hx => (List.mem_append.1 hx).elim (a3 x) (b3 x)
 refine (sUnify_any f hf sb (U ++ (Ua ++ Ub)) a b va vB w ?_ (fun x hx => ?_) hd (tyQ_more a1 fun x hx => ⟨List.mem_append.2 (.inr (List.mem_append.2 (.inl hx))), rfl⟩) (tyQ_more b1 fun x hx => ⟨List.mem_append.2 (.inr (List.mem_append.2 (.inr hx))), rfl⟩) (by rw [llen_app, llen_app]; omega)).mono ?_
 · obtain ⟨L, h1, h2⟩ := s1
   exact ⟨L, h1, fun n => ⟨(h2 n).1, fun t ht => by obtain ⟨v, c, d⟩ := (h2 n).2 t ht; exact ⟨v, c, tyQ_more d fun x hx => ⟨List.mem_append.2 (.inl hx), rfl⟩⟩⟩⟩
 · obtain ⟨cs, T, e⟩ := hq x hx
   refine ⟨ent_lt e, fun e2 => ?_⟩
   obtain ⟨es, k, e3⟩ := hm
   rw [e2, e3] at e; cases e
 · rintro e w' ⟨hc, ⟨rfl, f', U', h1, h2, h3, h4, h5⟩ | ⟨rfl, h2, h3⟩⟩
   · refine ⟨0, rfl, hc, .inl ⟨rfl, f', ⟨h1, h2⟩, ?_⟩⟩
     obtain ⟨V, v1, v2, v3⟩ := sub_cells h3
     exact ⟨V, v1, by rw [llen_app, llen_app] at h4; omega, v3⟩
   · refine ⟨5, rfl, hc, .inr ⟨rfl, fun σ hσ e => h2 σ ⟨hσ, e⟩, ?_⟩⟩
     obtain ⟨V, v1, v2, v3⟩ := sub_cells h3
     exact ⟨V, v1, by rw [llen_app, llen_app] at v2; omega, v3⟩
/-- Three types in a block. -/
theorem row_three {rep : Value → Ux.Ty → Prop} {w : World} {g : Nat} {T : TypeId} {a0 a1 a2 b0 b1 b2 c0 c1 c2 : Value} {x y z : Ux.Ty} (h : w.heap[g]? = some (.cells #[a0, a1, a2, b0, b1, b2, c0, c1, c2] T (0, 0))) (hx : rep (.agg #[a0, a1, a2]) x) (hy : rep (.agg #[b0, b1, b2]) y) (hz : rep (.agg #[c0, c1, c2]) z) : RowAt 3 rep w (.slice (some ⟨g, 0, none⟩) 3 3) [x, y, z] := by
 refine .inr ⟨g, 0, 3, rfl, Nat.le_refl _, by decide, fun i u hu => ?_⟩
 match i, hu with
 | 0, hu =>
   simp at hu; subst hu
   refine ⟨_, hx, rfl, fun j q hq => ?_⟩
   have : ([a0, a1, a2] : List Value)[j]? = some q := by simpa [Value.cells] using hq
   match j, this with
   | 0, e => exact ent_cell h _ q (by simpa using e)
   | 1, e => exact ent_cell h _ q (by simpa using e)
   | 2, e => exact ent_cell h _ q (by simpa using e)
 | 1, hu =>
   simp at hu; subst hu
   refine ⟨_, hy, rfl, fun j q hq => ?_⟩
   have : ([b0, b1, b2] : List Value)[j]? = some q := by simpa [Value.cells] using hq
   match j, this with
   | 0, e => exact ent_cell h _ q (by simpa using e)
   | 1, e => exact ent_cell h _ q (by simpa using e)
   | 2, e => exact ent_cell h _ q (by simpa using e)
 | 2, hu =>
   simp at hu; subst hu
   refine ⟨_, hz, rfl, fun j q hq => ?_⟩
   have : ([c0, c1, c2] : List Value)[j]? = some q := by simpa [Value.cells] using hq
   match j, this with
   | 0, e => exact ent_cell h _ q (by simpa using e)
   | 1, e => exact ent_cell h _ q (by simpa using e)
   | 2, e => exact ent_cell h _ q (by simpa using e)
end Go.Proofs.YtcblppojnailpaaDoor
namespace Go.Proofs.YtcblppojnailpaaDoor
open Go Go.RowKit
set_option linter.unusedVariables false
set_option linter.unusedSimpArgs false
/-- A pair of a variable and what it stands for. -/
def PairP (w : World) (z : Value) (p : Nat × Ux.Ty) : Prop := ∃ k s q m c, z = .agg #[.int .i64 p.1, .int .i64 k, .string s, .slice q m c] ∧ TyP w (.agg #[.int .i64 k, .string s, .slice q m c]) p.2
theorem applyL_take (L : Ux.Pairs) (t : Ux.Ty) (k : Nat) (p : Nat × Ux.Ty) (h : L[k]? = some p) : Ux.applyL (L.take (k + 1)) t = Ux.put p.1 p.2 (Ux.applyL (L.take k) t) := by
 unfold Ux.applyL
 rw [List.take_add_one, h]
 simp [List.foldl_append]
set_option maxHeartbeats 4000000 in
set_option maxRecDepth 100000 in
theorem apply_any (lv v : Value) (L : Ux.Pairs) (t : Ux.Ty) (w : World) (hL : RowAt 4 (PairP w) w lv L) (ht : TyP w v t) (hsz : ∀ k, (Ux.applyL (L.take k) t).sz ≤ 50000000000) :
 Calls Tryd.prog 18 #[lv, v] w (fun e w' => ∃ r, e = .returned r ∧ Below w.heap.size w w' ∧ Hang TyP w.heap.size w.heap.size w'.heap.size w' r (Ux.applyL L t)) := by
 obtain ⟨q, cp, rfl⟩ := hL.len
 obtain ⟨k0, s0, q0, m0, c0, rfl⟩ := tyP_sh ht
 have HL := Lib.hid hL
 have HSZ := Lib.hid hsz
 have HT : Hid (Hang TyP w.heap.size (w.heap.size + 2) (w.heap.size + 2) w (.agg #[.int .i64 k0, .string s0, .slice q0 m0 c0]) t) := Lib.hid (tyP_hang ht _ _)
 clear hL ht hsz
 go_enter Tryd.func18, Tryd.ntmps18
 have HB := Lib.hid (show Below w.heap.size w ((w.alloc (.cells #[.int .i64 k0, .string s0, .slice q0 m0 c0] 30)).alloc (.cells #[.int .i64 0, .string ⟨#[]⟩, .slice none 0 0] 30)) from ((Below.refl _ _).alloc (Nat.le_refl _) _).alloc (by simp) _)
 have ET := Lib.hid (ent_alloc (ent_new w #[.int .i64 k0, .string s0, .slice q0 m0 c0] 30) (.cells #[.int .i64 0, .string ⟨#[]⟩, .slice none 0 0] 30))
 have ER := Lib.hid (ent_new (w.alloc (.cells #[.int .i64 k0, .string s0, .slice q0 m0 c0] 30)) #[.int .i64 0, .string ⟨#[]⟩, .slice none 0 0] 30)
 rw [show (w.alloc (.cells #[.int .i64 k0, .string s0, .slice q0 m0 c0] 30)).heap.size = w.heap.size + 1 by simp] at ER
 have hs1 : ((w.alloc (.cells #[.int .i64 k0, .string s0, .slice q0 m0 c0] 30)).alloc (.cells #[.int .i64 0, .string ⟨#[]⟩, .slice none 0 0] 30)).heap.size = w.heap.size + 2 := by simp
 go_upto_region 1 with fail
 generalize (w.alloc (.cells #[.int .i64 k0, .string s0, .slice q0 m0 c0] 30)).alloc (.cells #[.int .i64 0, .string ⟨#[]⟩, .slice none 0 0] 30) = w1 at ET ER HB hs1 ⊢
 have HT1 := Lib.hid (HT.out.same (w' := w1) fun c hc => HB.out.block c (by omega))
 go_wp2_with fail
 go_loopw [5] (fun i wr => ∃ (j : Nat) (k : Int) (s : ByteArray) (p : Option Addr) (m c : Nat), i = .int .i64 j ∧ j ≤ L.length ∧ Hid (Hang TyP w.heap.size (w.heap.size + 2) wr.heap.size wr (.agg #[.int .i64 k, .string s, .slice p m c]) (Ux.applyL (L.take j) t)) ∧ Hid (w.heap.size + 2 ≤ wr.heap.size) ∧
  Hid (wr.heap[w.heap.size]? = some (.cells #[.int .i64 k, .string s, .slice p m c] 30 (0, 0))) ∧ Hid (wr.heap[w.heap.size + 1]? = some (.cells #[.int .i64 0, .string ⟨#[]⟩, .slice none 0 0] 30 (0, 0))) ∧ Hid (Below w.heap.size w wr)) (fun i _ => L.length - (intOf i).toNat)
 case atStart => exact ⟨0, k0, s0, q0, m0, c0, rfl, Nat.zero_le _, Lib.hid (by rw [List.take_zero]; exact HT1.out.wide (Nat.le_refl _) (Nat.le_refl _) (by omega)), Lib.hid (by omega), ET, ER, HB⟩
 case round =>
  clear ET ER HB hs1 HT HT1
  obtain ⟨j, k, s, p, m, c, rfl, hj, HT, HS, ET, ER, HB⟩ := hrel
  have hs := HS.out
  by_cases hlt : j < L.length
  · obtain ⟨x, hx1⟩ : ∃ x, L[j]? = some x := ⟨_, List.getElem?_eq_getElem hlt⟩
    have HTK := Lib.hid (applyL_take L t j x hx1)
    rcases HL.out with ⟨h0, _⟩ | ⟨g, of, c', hv, g1, g2, g3⟩
    · rw [h0] at hlt; simp at hlt
    injection hv with hq1 _ hq2
    subst hq1; subst hq2
    obtain ⟨z, ⟨a0, a1, zq, zn, zc, rfl, hty⟩, _, hcell⟩ := g3 j x hx1
    have HU := Lib.hid ((tyP_hang hty 0 0).same (w' := wr.drew) fun b hb => HB.out.drew.block b (by omega))
    have HCL := Lib.hid (fun (w' : World) (h : Below w.heap.size wr w') =>
     have up : ∀ j' z', (Value.agg #[.int .i64 x.1, .int .i64 a0, .string a1, .slice zq zn zc]).cells[j']? = some z' → w'.cell? ⟨g, of + j * 4 + j', none⟩ = some z' := fun j' z' hz' => cell_up (HB.out.trans h) (hcell j' z' hz')
     (show w'.cell? ⟨g, of + j * 4, none⟩ = some (.int .i64 x.1) ∧ w'.cell? ⟨g, of + j * 4 + 1, none⟩ = some (.int .i64 a0) ∧ w'.cell? ⟨g, of + j * 4 + 2, none⟩ = some (.string a1) ∧ w'.cell? ⟨g, of + j * 4 + 3, none⟩ = some (.slice zq zn zc) from ⟨up 0 _ rfl, up 1 _ rfl, up 2 _ rfl, up 3 _ rfl⟩))
    have hk1 : (j : Int) < (L.length : Int) := by omega
    have hk2 : (L.length : Int) ≤ (cp : Int) := by omega
    have hk3 := g2
    clear g1 g2 g3 hcell hx1 hty
    go_wp2_with fail
    refine wp_region_held_drew (S := fun (u' : World) => Below w.heap.size wr u') (by kernel_rfl) ((Below.refl _ _).drew) (fun hHeld => ?_)
    refine wpAnyH_take (i := 1) (v := .slice (some ⟨g, of, none⟩) L.length cp) rfl (by kernel_rfl) (by kernel_rfl) (by kernel_rfl) (fun _ _ _ h => h) (Or.inl ⟨by rfl, fun w' hSw => by go_simp⟩) hHeld ?_
    refine wpAnyH_take (i := 2) (v := .int .i64 j) rfl (by kernel_rfl) (by kernel_rfl) (by kernel_rfl) (fun _ _ _ h => h) (Or.inl ⟨by rfl, fun w' hSw => by go_simp⟩) hHeld ?_
    refine wpAnyH_take (i := 3) (v := .pointer (some ⟨g, of + j * 4, none⟩)) rfl (by kernel_rfl) (by kernel_rfl) (by kernel_rfl) (fun _ _ _ h => h) (Or.inl ⟨by rfl, fun w' hSw => by go_simp⟩) hHeld ?_
    refine wpAnyH_take (i := 4) (v := .pointer (some ⟨g, of + j * 4, none⟩)) rfl (by kernel_rfl) (by kernel_rfl) (by kernel_rfl) (fun _ _ _ h => h) (Or.inl ⟨by rfl, fun w' hSw => by go_simp⟩) hHeld ?_
    refine wpAnyH_take (i := 5) (v := .int .i64 x.1) rfl (by kernel_rfl) (by kernel_rfl) (by kernel_rfl) (fun _ _ _ h => h) (Or.inl ⟨by rfl, fun w' hSw => by obtain ⟨x0, x1, x2, x3⟩ := HCL.out w' hSw; go_simp⟩) hHeld ?_
    refine wpAnyH_take (i := 6) (v := .slice (some ⟨g, of, none⟩) L.length cp) rfl (by kernel_rfl) (by kernel_rfl) (by kernel_rfl) (fun _ _ _ h => h) (Or.inl ⟨by rfl, fun w' hSw => by go_simp⟩) hHeld ?_
    refine wpAnyH_take (i := 7) (v := .int .i64 j) rfl (by kernel_rfl) (by kernel_rfl) (by kernel_rfl) (fun _ _ _ h => h) (Or.inl ⟨by rfl, fun w' hSw => by go_simp⟩) hHeld ?_
    refine wpAnyH_take (i := 8) (v := .pointer (some ⟨g, of + j * 4, none⟩)) rfl (by kernel_rfl) (by kernel_rfl) (by kernel_rfl) (fun _ _ _ h => h) (Or.inl ⟨by rfl, fun w' hSw => by go_simp⟩) hHeld ?_
    refine wpAnyH_take (i := 9) (v := .pointer (some ⟨g, of + j * 4 + 1, none⟩)) rfl (by kernel_rfl) (by kernel_rfl) (by kernel_rfl) (fun _ _ _ h => h) (Or.inl ⟨by rfl, fun w' hSw => by go_simp⟩) hHeld ?_
    refine wpAnyH_take (i := 10) (v := .agg #[.int .i64 a0, .string a1, .slice zq zn zc]) rfl (by kernel_rfl) (by kernel_rfl) (by kernel_rfl) (fun _ _ _ h => h) (Or.inl ⟨by rfl, fun w' hSw => by obtain ⟨x0, x1, x2, x3⟩ := HCL.out w' hSw; go_simp⟩) hHeld ?_
    try simp only [Act.put, List.getElem_toArray, List.getElem_cons_succ, List.getElem_cons_zero, List.setIfInBounds_toArray, List.set_cons_zero, List.set_cons_succ]
    refine wpAnyH_ready (rs := [0]) (by kernel_rfl) (by simp) ?_
    refine AllReadyH.cons rfl (fun K hK => ?_) AllReadyH.nil
    have t0 := ent_cell (w := wr.drew) ET.out 0 _ rfl
    have t1 := ent_cell (w := wr.drew) ET.out 1 _ rfl
    have t2 := ent_cell (w := wr.drew) ET.out 2 _ rfl
    go_simp
    refine hK.out _ _ ((Below.refl _ _).drew) (fun hHeld => ?_)
    clear hK K t0 t1 t2
    refine wpAnyH_ready (rs := [11]) (by kernel_rfl) (by simp) ?_
    refine AllReadyH.cons rfl (fun K hK => ?_) AllReadyH.nil
    go_simp
    refine (put_any _ _ _ x.2 x.1 w.heap.size wr.drew HB.out.size (show TyP wr.drew _ _ from tyP_below HT.out.now ((Below.refl _ _).drew)) HU.out (HSZ.out j)).mono ?_
    rintro e w5 ⟨r, rfl, hb5, hh5⟩
    replace hb5 := undrew hb5
    obtain ⟨b0, b1, rq, rn, rc, rfl⟩ := tyP_sh hh5.now
    have HB5 := Lib.hid hb5
    have HH5 : Hid (Hang TyP w.heap.size wr.heap.size w5.heap.size w5 (.agg #[.int .i64 b0, .string b1, .slice rq rn rc]) (Ux.put x.1 x.2 (Ux.applyL (L.take j) t))) := Lib.hid hh5
    have hs5 := hb5.size
    have ET5 := Lib.hid (ent_below ET.out hb5)
    have ER5 := Lib.hid (ent_below ER.out hb5)
    clear hb5 hh5
    refine hK.out _ _ (HB5.out.mono (by omega)) (fun hHeld => ?_)
    clear hK K
    refine wpAnyH_ready (rs := [12]) (by kernel_rfl) (by simp) ?_
    refine AllReadyH.cons rfl (fun K hK => ?_) AllReadyH.nil
    have t0 := ent_cell ET5.out 0 _ rfl
    have t1 := ent_cell ET5.out 1 _ rfl
    have t2 := ent_cell ET5.out 2 _ rfl
    have tf := ent_free ET5.out
    go_simp
    clear t0 t1 t2 tf
    have HB6 := Lib.hid (below_set3 HB5.out wr.heap.size (Nat.le_refl _) (.int .i64 b0) (.string b1) (.slice rq rn rc))
    have HB7 := Lib.hid (below_set3 (HB.out.trans (HB5.out.mono HB.out.size)) w.heap.size (Nat.le_refl _) (.int .i64 b0) (.string b1) (.slice rq rn rc))
    have HS7 := Lib.hid (below_set3 (HB5.out.mono (B' := w.heap.size) (by omega)) w.heap.size (Nat.le_refl _) (.int .i64 b0) (.string b1) (.slice rq rn rc))
    have ET7 := Lib.hid (ent_set3 ET5.out (.int .i64 b0) (.string b1) (.slice rq rn rc))
    have HK7 : Hid (∀ b, b ≠ w.heap.size → (((w5.setCell ⟨w.heap.size, 0, none⟩ (.int .i64 b0)).setCell ⟨w.heap.size, 1, none⟩ (.string b1)).setCell ⟨w.heap.size, 2, none⟩ (.slice rq rn rc)).heap[b]? = w5.heap[b]?) :=
     Lib.hid (fun b hb => ((Below.heap_setCell _ ⟨w.heap.size, 2, none⟩ _ b hb).trans (Below.heap_setCell _ ⟨w.heap.size, 1, none⟩ _ b hb)).trans (Below.heap_setCell _ ⟨w.heap.size, 0, none⟩ _ b hb))
    have HZ7 : Hid ((((w5.setCell ⟨w.heap.size, 0, none⟩ (.int .i64 b0)).setCell ⟨w.heap.size, 1, none⟩ (.string b1)).setCell ⟨w.heap.size, 2, none⟩ (.slice rq rn rc)).heap.size = w5.heap.size) := Lib.hid (by simp)
    clear HB6
    refine hK.out _ _ HS7.out (fun hHeld => ?_)
    clear hK K
    refine wpAnyH_done (by kernel_rfl) ?_ _
    generalize ((w5.setCell ⟨w.heap.size, 0, none⟩ (.int .i64 b0)).setCell ⟨w.heap.size, 1, none⟩ (.string b1)).setCell ⟨w.heap.size, 2, none⟩ (.slice rq rn rc) = w7 at *
    go_wp2_with fail
    go_roundw
    case rel => exact ⟨j + 1, b0, b1, rq, rn, rc, by go_num, by omega, Lib.hid (by rw [HTK.out]; exact (HH5.out.same fun b hb => HK7.out b (by omega)).wide (Nat.le_refl _) (by omega) (by rw [HZ7.out]; exact Nat.le_refl _)), Lib.hid (by rw [HZ7.out]; omega), ET7, Lib.hid ((HK7.out _ (by omega)).trans ER5.out), HB7⟩
    case measure => simp [intOf]; omega
  · obtain rfl : j = L.length := by omega
    have t0 := ent_cell ET.out 0 _ rfl
    have t1 := ent_cell ET.out 1 _ rfl
    have t2 := ent_cell ET.out 2 _ rfl
    have r0 := ent_cell ER.out 0 _ rfl
    have r1 := ent_cell ER.out 1 _ rfl
    have r2 := ent_cell ER.out 2 _ rfl
    have rf := ent_free ER.out
    go_wp2_with fail
    clear t0 t1 t2 r0 r1 r2 rf
    have HB8 := Lib.hid (below_set3 HB.out (w.heap.size + 1) (by omega) (.int .i64 k) (.string s) (.slice p m c))
    have ER8 := Lib.hid (ent_set3 ER.out (.int .i64 k) (.string s) (.slice p m c))
    have HK8 : Hid (∀ b, b ≠ w.heap.size + 1 → (((wr.setCell ⟨w.heap.size + 1, 0, none⟩ (.int .i64 k)).setCell ⟨w.heap.size + 1, 1, none⟩ (.string s)).setCell ⟨w.heap.size + 1, 2, none⟩ (.slice p m c)).heap[b]? = wr.heap[b]?) :=
     Lib.hid (fun b hb => ((Below.heap_setCell _ ⟨w.heap.size + 1, 2, none⟩ _ b hb).trans (Below.heap_setCell _ ⟨w.heap.size + 1, 1, none⟩ _ b hb)).trans (Below.heap_setCell _ ⟨w.heap.size + 1, 0, none⟩ _ b hb))
    have HS8 : Hid ((((wr.setCell ⟨w.heap.size + 1, 0, none⟩ (.int .i64 k)).setCell ⟨w.heap.size + 1, 1, none⟩ (.string s)).setCell ⟨w.heap.size + 1, 2, none⟩ (.slice p m c)).heap.size = wr.heap.size) := Lib.hid (by simp)
    generalize ((wr.setCell ⟨w.heap.size + 1, 0, none⟩ (.int .i64 k)).setCell ⟨w.heap.size + 1, 1, none⟩ (.string s)).setCell ⟨w.heap.size + 1, 2, none⟩ (.slice p m c) = w8 at HB8 ER8 HK8 HS8 ⊢
    have r0 := ent_cell ER8.out 0 _ rfl
    have r1 := ent_cell ER8.out 1 _ rfl
    have r2 := ent_cell ER8.out 2 _ rfl
    refine bodyPost_ret (v := .agg #[.int .i64 k, .string s, .slice p m c]) (by simp [results, Tryd.results18, go_sem, r0, r1, r2]) rfl ?_
    refine ⟨_, rfl, HB8.out, ?_⟩
    have hT := HT.out
    rw [List.take_length] at hT
    exact (hT.same fun b hb => HK8.out b (by omega)).wide (Nat.le_refl _) (by omega) (by rw [HS8.out]; exact Nat.le_refl _)
end Go.Proofs.YtcblppojnailpaaDoor
namespace Go.Proofs.YtcblppojnailpaaDoor
open Go Go.RowKit
set_option linter.unusedVariables false
set_option linter.unusedSimpArgs false
/-- A pair, whose type hangs by what lies below a block. -/
def PairB (base : Nat) (w : World) (z : Value) (p : Nat × Ux.Ty) : Prop := ∃ k s q m c, z = .agg #[.int .i64 p.1, .int .i64 k, .string s, .slice q m c] ∧ Hang TyP base 0 0 w (.agg #[.int .i64 k, .string s, .slice q m c]) p.2
set_option maxHeartbeats 4000000 in
set_option maxRecDepth 100000 in
theorem applyB_any (lv v : Value) (L : Ux.Pairs) (t : Ux.Ty) (base : Nat) (w : World) (hbase : base ≤ w.heap.size) (hL : RowAt 4 (PairB base w) w lv L) (ht : Hang TyP base 0 0 w v t) (hsz : ∀ k, (Ux.applyL (L.take k) t).sz ≤ 50000000000) :
 Calls Tryd.prog 18 #[lv, v] w (fun e w' => ∃ r, e = .returned r ∧ Below w.heap.size w w' ∧ Hang TyP base w.heap.size w'.heap.size w' r (Ux.applyL L t)) := by
 obtain ⟨q, cp, rfl⟩ := hL.len
 obtain ⟨k0, s0, q0, m0, c0, rfl⟩ := tyP_sh ht.now
 have HL := Lib.hid hL
 have HSZ := Lib.hid hsz
 have HT : Hid (Hang TyP base (w.heap.size + 2) (w.heap.size + 2) w (.agg #[.int .i64 k0, .string s0, .slice q0 m0 c0]) t) := Lib.hid (ht.more _ _)
 have HBS := Lib.hid hbase
 clear hL ht hsz hbase
 go_enter Tryd.func18, Tryd.ntmps18
 have HB := Lib.hid (show Below w.heap.size w ((w.alloc (.cells #[.int .i64 k0, .string s0, .slice q0 m0 c0] 30)).alloc (.cells #[.int .i64 0, .string ⟨#[]⟩, .slice none 0 0] 30)) from ((Below.refl _ _).alloc (Nat.le_refl _) _).alloc (by simp) _)
 have ET := Lib.hid (ent_alloc (ent_new w #[.int .i64 k0, .string s0, .slice q0 m0 c0] 30) (.cells #[.int .i64 0, .string ⟨#[]⟩, .slice none 0 0] 30))
 have ER := Lib.hid (ent_new (w.alloc (.cells #[.int .i64 k0, .string s0, .slice q0 m0 c0] 30)) #[.int .i64 0, .string ⟨#[]⟩, .slice none 0 0] 30)
 rw [show (w.alloc (.cells #[.int .i64 k0, .string s0, .slice q0 m0 c0] 30)).heap.size = w.heap.size + 1 by simp] at ER
 have hs1 : ((w.alloc (.cells #[.int .i64 k0, .string s0, .slice q0 m0 c0] 30)).alloc (.cells #[.int .i64 0, .string ⟨#[]⟩, .slice none 0 0] 30)).heap.size = w.heap.size + 2 := by simp
 go_upto_region 1 with fail
 generalize (w.alloc (.cells #[.int .i64 k0, .string s0, .slice q0 m0 c0] 30)).alloc (.cells #[.int .i64 0, .string ⟨#[]⟩, .slice none 0 0] 30) = w1 at ET ER HB hs1 ⊢
 have HT1 := Lib.hid (HT.out.same (w' := w1) fun c hc => HB.out.block c (by have := HBS.out; omega))
 go_wp2_with fail
 go_loopw [5] (fun i wr => ∃ (j : Nat) (k : Int) (s : ByteArray) (p : Option Addr) (m c : Nat), i = .int .i64 j ∧ j ≤ L.length ∧ Hid (Hang TyP base (w.heap.size + 2) wr.heap.size wr (.agg #[.int .i64 k, .string s, .slice p m c]) (Ux.applyL (L.take j) t)) ∧ Hid (w.heap.size + 2 ≤ wr.heap.size) ∧
  Hid (wr.heap[w.heap.size]? = some (.cells #[.int .i64 k, .string s, .slice p m c] 30 (0, 0))) ∧ Hid (wr.heap[w.heap.size + 1]? = some (.cells #[.int .i64 0, .string ⟨#[]⟩, .slice none 0 0] 30 (0, 0))) ∧ Hid (Below w.heap.size w wr)) (fun i _ => L.length - (intOf i).toNat)
 case atStart => exact ⟨0, k0, s0, q0, m0, c0, rfl, Nat.zero_le _, Lib.hid (by rw [List.take_zero]; exact HT1.out.wide (Nat.le_refl _) (Nat.le_refl _) (by omega)), Lib.hid (by omega), ET, ER, HB⟩
 case round =>
  clear ET ER HB hs1 HT HT1
  obtain ⟨j, k, s, p, m, c, rfl, hj, HT, HS, ET, ER, HB⟩ := hrel
  have hs := HS.out
  by_cases hlt : j < L.length
  · obtain ⟨x, hx1⟩ : ∃ x, L[j]? = some x := ⟨_, List.getElem?_eq_getElem hlt⟩
    have HTK := Lib.hid (applyL_take L t j x hx1)
    rcases HL.out with ⟨h0, _⟩ | ⟨g, of, c', hv, g1, g2, g3⟩
    · rw [h0] at hlt; simp at hlt
    injection hv with hq1 _ hq2
    subst hq1; subst hq2
    obtain ⟨z, ⟨a0, a1, zq, zn, zc, rfl, hty⟩, _, hcell⟩ := g3 j x hx1
    have HU := Lib.hid (hty.same (w' := wr.drew) fun b hb => HB.out.drew.block b (by have := HBS.out; omega))
    have HCL := Lib.hid (fun (w' : World) (h : Below w.heap.size wr w') =>
     have up : ∀ j' z', (Value.agg #[.int .i64 x.1, .int .i64 a0, .string a1, .slice zq zn zc]).cells[j']? = some z' → w'.cell? ⟨g, of + j * 4 + j', none⟩ = some z' := fun j' z' hz' => cell_up (HB.out.trans h) (hcell j' z' hz')
     (show w'.cell? ⟨g, of + j * 4, none⟩ = some (.int .i64 x.1) ∧ w'.cell? ⟨g, of + j * 4 + 1, none⟩ = some (.int .i64 a0) ∧ w'.cell? ⟨g, of + j * 4 + 2, none⟩ = some (.string a1) ∧ w'.cell? ⟨g, of + j * 4 + 3, none⟩ = some (.slice zq zn zc) from ⟨up 0 _ rfl, up 1 _ rfl, up 2 _ rfl, up 3 _ rfl⟩))
    have hk1 : (j : Int) < (L.length : Int) := by omega
    have hk2 : (L.length : Int) ≤ (cp : Int) := by omega
    have hk3 := g2
    clear g1 g2 g3 hcell hx1 hty
    go_wp2_with fail
    refine wp_region_held_drew (S := fun (u' : World) => Below w.heap.size wr u') (by kernel_rfl) ((Below.refl _ _).drew) (fun hHeld => ?_)
    refine wpAnyH_take (i := 1) (v := .slice (some ⟨g, of, none⟩) L.length cp) rfl (by kernel_rfl) (by kernel_rfl) (by kernel_rfl) (fun _ _ _ h => h) (Or.inl ⟨by rfl, fun w' hSw => by go_simp⟩) hHeld ?_
    refine wpAnyH_take (i := 2) (v := .int .i64 j) rfl (by kernel_rfl) (by kernel_rfl) (by kernel_rfl) (fun _ _ _ h => h) (Or.inl ⟨by rfl, fun w' hSw => by go_simp⟩) hHeld ?_
    refine wpAnyH_take (i := 3) (v := .pointer (some ⟨g, of + j * 4, none⟩)) rfl (by kernel_rfl) (by kernel_rfl) (by kernel_rfl) (fun _ _ _ h => h) (Or.inl ⟨by rfl, fun w' hSw => by go_simp⟩) hHeld ?_
    refine wpAnyH_take (i := 4) (v := .pointer (some ⟨g, of + j * 4, none⟩)) rfl (by kernel_rfl) (by kernel_rfl) (by kernel_rfl) (fun _ _ _ h => h) (Or.inl ⟨by rfl, fun w' hSw => by go_simp⟩) hHeld ?_
    refine wpAnyH_take (i := 5) (v := .int .i64 x.1) rfl (by kernel_rfl) (by kernel_rfl) (by kernel_rfl) (fun _ _ _ h => h) (Or.inl ⟨by rfl, fun w' hSw => by obtain ⟨x0, x1, x2, x3⟩ := HCL.out w' hSw; go_simp⟩) hHeld ?_
    refine wpAnyH_take (i := 6) (v := .slice (some ⟨g, of, none⟩) L.length cp) rfl (by kernel_rfl) (by kernel_rfl) (by kernel_rfl) (fun _ _ _ h => h) (Or.inl ⟨by rfl, fun w' hSw => by go_simp⟩) hHeld ?_
    refine wpAnyH_take (i := 7) (v := .int .i64 j) rfl (by kernel_rfl) (by kernel_rfl) (by kernel_rfl) (fun _ _ _ h => h) (Or.inl ⟨by rfl, fun w' hSw => by go_simp⟩) hHeld ?_
    refine wpAnyH_take (i := 8) (v := .pointer (some ⟨g, of + j * 4, none⟩)) rfl (by kernel_rfl) (by kernel_rfl) (by kernel_rfl) (fun _ _ _ h => h) (Or.inl ⟨by rfl, fun w' hSw => by go_simp⟩) hHeld ?_
    refine wpAnyH_take (i := 9) (v := .pointer (some ⟨g, of + j * 4 + 1, none⟩)) rfl (by kernel_rfl) (by kernel_rfl) (by kernel_rfl) (fun _ _ _ h => h) (Or.inl ⟨by rfl, fun w' hSw => by go_simp⟩) hHeld ?_
    refine wpAnyH_take (i := 10) (v := .agg #[.int .i64 a0, .string a1, .slice zq zn zc]) rfl (by kernel_rfl) (by kernel_rfl) (by kernel_rfl) (fun _ _ _ h => h) (Or.inl ⟨by rfl, fun w' hSw => by obtain ⟨x0, x1, x2, x3⟩ := HCL.out w' hSw; go_simp⟩) hHeld ?_
    try simp only [Act.put, List.getElem_toArray, List.getElem_cons_succ, List.getElem_cons_zero, List.setIfInBounds_toArray, List.set_cons_zero, List.set_cons_succ]
    refine wpAnyH_ready (rs := [0]) (by kernel_rfl) (by simp) ?_
    refine AllReadyH.cons rfl (fun K hK => ?_) AllReadyH.nil
    have t0 := ent_cell (w := wr.drew) ET.out 0 _ rfl
    have t1 := ent_cell (w := wr.drew) ET.out 1 _ rfl
    have t2 := ent_cell (w := wr.drew) ET.out 2 _ rfl
    go_simp
    refine hK.out _ _ ((Below.refl _ _).drew) (fun hHeld => ?_)
    clear hK K t0 t1 t2
    refine wpAnyH_ready (rs := [11]) (by kernel_rfl) (by simp) ?_
    refine AllReadyH.cons rfl (fun K hK => ?_) AllReadyH.nil
    go_simp
    refine (put_any _ _ _ x.2 x.1 base wr.drew (by have h1 := HB.out.size; have h2 := HBS.out; show base ≤ wr.heap.size; omega) (show TyP wr.drew _ _ from tyP_below HT.out.now ((Below.refl _ _).drew)) HU.out (HSZ.out j)).mono ?_
    rintro e w5 ⟨r, rfl, hb5, hh5⟩
    replace hb5 := undrew hb5
    obtain ⟨b0, b1, rq, rn, rc, rfl⟩ := tyP_sh hh5.now
    have HB5 := Lib.hid hb5
    have HH5 : Hid (Hang TyP base wr.heap.size w5.heap.size w5 (.agg #[.int .i64 b0, .string b1, .slice rq rn rc]) (Ux.put x.1 x.2 (Ux.applyL (L.take j) t))) := Lib.hid hh5
    have hs5 := hb5.size
    have ET5 := Lib.hid (ent_below ET.out hb5)
    have ER5 := Lib.hid (ent_below ER.out hb5)
    clear hb5 hh5
    refine hK.out _ _ (HB5.out.mono (by omega)) (fun hHeld => ?_)
    clear hK K
    refine wpAnyH_ready (rs := [12]) (by kernel_rfl) (by simp) ?_
    refine AllReadyH.cons rfl (fun K hK => ?_) AllReadyH.nil
    have t0 := ent_cell ET5.out 0 _ rfl
    have t1 := ent_cell ET5.out 1 _ rfl
    have t2 := ent_cell ET5.out 2 _ rfl
    have tf := ent_free ET5.out
    go_simp
    clear t0 t1 t2 tf
    have HB6 := Lib.hid (below_set3 HB5.out wr.heap.size (Nat.le_refl _) (.int .i64 b0) (.string b1) (.slice rq rn rc))
    have HB7 := Lib.hid (below_set3 (HB.out.trans (HB5.out.mono HB.out.size)) w.heap.size (Nat.le_refl _) (.int .i64 b0) (.string b1) (.slice rq rn rc))
    have HS7 := Lib.hid (below_set3 (HB5.out.mono (B' := w.heap.size) (by omega)) w.heap.size (Nat.le_refl _) (.int .i64 b0) (.string b1) (.slice rq rn rc))
    have ET7 := Lib.hid (ent_set3 ET5.out (.int .i64 b0) (.string b1) (.slice rq rn rc))
    have HK7 : Hid (∀ b, b ≠ w.heap.size → (((w5.setCell ⟨w.heap.size, 0, none⟩ (.int .i64 b0)).setCell ⟨w.heap.size, 1, none⟩ (.string b1)).setCell ⟨w.heap.size, 2, none⟩ (.slice rq rn rc)).heap[b]? = w5.heap[b]?) :=
     Lib.hid (fun b hb => ((Below.heap_setCell _ ⟨w.heap.size, 2, none⟩ _ b hb).trans (Below.heap_setCell _ ⟨w.heap.size, 1, none⟩ _ b hb)).trans (Below.heap_setCell _ ⟨w.heap.size, 0, none⟩ _ b hb))
    have HZ7 : Hid ((((w5.setCell ⟨w.heap.size, 0, none⟩ (.int .i64 b0)).setCell ⟨w.heap.size, 1, none⟩ (.string b1)).setCell ⟨w.heap.size, 2, none⟩ (.slice rq rn rc)).heap.size = w5.heap.size) := Lib.hid (by simp)
    clear HB6
    refine hK.out _ _ HS7.out (fun hHeld => ?_)
    clear hK K
    refine wpAnyH_done (by kernel_rfl) ?_ _
    generalize ((w5.setCell ⟨w.heap.size, 0, none⟩ (.int .i64 b0)).setCell ⟨w.heap.size, 1, none⟩ (.string b1)).setCell ⟨w.heap.size, 2, none⟩ (.slice rq rn rc) = w7 at *
    go_wp2_with fail
    go_roundw
    case rel => exact ⟨j + 1, b0, b1, rq, rn, rc, by go_num, by omega, Lib.hid (by rw [HTK.out]; exact (HH5.out.same fun b hb => HK7.out b (by have := HBS.out; omega)).wide (Nat.le_refl _) (by omega) (by rw [HZ7.out]; exact Nat.le_refl _)), Lib.hid (by rw [HZ7.out]; omega), ET7, Lib.hid ((HK7.out _ (by omega)).trans ER5.out), HB7⟩
    case measure => simp [intOf]; omega
  · obtain rfl : j = L.length := by omega
    have t0 := ent_cell ET.out 0 _ rfl
    have t1 := ent_cell ET.out 1 _ rfl
    have t2 := ent_cell ET.out 2 _ rfl
    have r0 := ent_cell ER.out 0 _ rfl
    have r1 := ent_cell ER.out 1 _ rfl
    have r2 := ent_cell ER.out 2 _ rfl
    have rf := ent_free ER.out
    go_wp2_with fail
    clear t0 t1 t2 r0 r1 r2 rf
    have HB8 := Lib.hid (below_set3 HB.out (w.heap.size + 1) (by omega) (.int .i64 k) (.string s) (.slice p m c))
    have ER8 := Lib.hid (ent_set3 ER.out (.int .i64 k) (.string s) (.slice p m c))
    have HK8 : Hid (∀ b, b ≠ w.heap.size + 1 → (((wr.setCell ⟨w.heap.size + 1, 0, none⟩ (.int .i64 k)).setCell ⟨w.heap.size + 1, 1, none⟩ (.string s)).setCell ⟨w.heap.size + 1, 2, none⟩ (.slice p m c)).heap[b]? = wr.heap[b]?) :=
     Lib.hid (fun b hb => ((Below.heap_setCell _ ⟨w.heap.size + 1, 2, none⟩ _ b hb).trans (Below.heap_setCell _ ⟨w.heap.size + 1, 1, none⟩ _ b hb)).trans (Below.heap_setCell _ ⟨w.heap.size + 1, 0, none⟩ _ b hb))
    have HS8 : Hid ((((wr.setCell ⟨w.heap.size + 1, 0, none⟩ (.int .i64 k)).setCell ⟨w.heap.size + 1, 1, none⟩ (.string s)).setCell ⟨w.heap.size + 1, 2, none⟩ (.slice p m c)).heap.size = wr.heap.size) := Lib.hid (by simp)
    generalize ((wr.setCell ⟨w.heap.size + 1, 0, none⟩ (.int .i64 k)).setCell ⟨w.heap.size + 1, 1, none⟩ (.string s)).setCell ⟨w.heap.size + 1, 2, none⟩ (.slice p m c) = w8 at HB8 ER8 HK8 HS8 ⊢
    have r0 := ent_cell ER8.out 0 _ rfl
    have r1 := ent_cell ER8.out 1 _ rfl
    have r2 := ent_cell ER8.out 2 _ rfl
    refine bodyPost_ret (v := .agg #[.int .i64 k, .string s, .slice p m c]) (by simp [results, Tryd.results18, go_sem, r0, r1, r2]) rfl ?_
    refine ⟨_, rfl, HB8.out, ?_⟩
    have hT := HT.out
    rw [List.take_length] at hT
    exact (hT.same fun b hb => HK8.out b (by have := HBS.out; omega)).wide (Nat.le_refl _) (by omega) (by rw [HS8.out]; exact Nat.le_refl _)
end Go.Proofs.YtcblppojnailpaaDoor
namespace Go.Proofs.YtcblppojnailpaaDoor
open Go Go.RowKit
set_option linter.unusedVariables false
set_option linter.unusedSimpArgs false
namespace Ux
/-- What the types that come in are made of. -/
structure SOk (S : Ty → Prop) (V : List Nat) : Prop where
 parts : ∀ nm xs, S (.a nm xs) → ∀ x ∈ xs, S x
 sz : ∀ t, S t → t.sz ≤ 19
 nd : V.Nodup
 len : V.length ≤ 6
theorem SOk.all {S : Ty → Prop} {V : List Nat} (h : SOk S V) {L : Pairs} (hi : Inv V L) (ht : Tri S L) (t : Ty) : (applyL L t).sz ≤ t.sz * 47045881 :=
 ht.sz (V := V) (fun n hn => by obtain ⟨p, hp, rfl⟩ := List.mem_map.1 hn; exact hi.var p hp) h.nd (c := 19) (K := 6) (by decide) h.len h.sz t
theorem SOk.big {S : Ty → Prop} {V : List Nat} (h : SOk S V) {L : Pairs} (hi : Inv V L) (ht : Tri S L) {a : Ty} (ha : OfS S L a) : (applyL L a).sz ≤ 893871739 := by
 obtain ⟨s, hs, e⟩ := ha
 rw [e]
 exact Nat.le_trans (h.all hi ht s) (Nat.mul_le_mul_right 47045881 (h.sz s hs))
theorem SOk.entry {S : Ty → Prop} {V : List Nat} (h : SOk S V) {L : Pairs} (hi : Inv V L) (ht : Tri S L) {p : Nat × Ty} (hp : p ∈ L) : p.2.sz ≤ 47045881 := by
 have h1 := h.all hi ht (.v p.1)
 rw [show applyL L (.v p.1) = subL L p.1 from rfl, subL_in hi.solved p hp, show (Ty.v p.1).sz = 1 by rw [Ty.sz]] at h1
 omega
theorem SOk.few {S : Ty → Prop} {V : List Nat} (h : SOk S V) {L : Pairs} (hi : Inv V L) : L.length ≤ 6 := by
 have h1 := hi.solved.nodup.length_le_of_subset (l₂ := V) fun n hn => by obtain ⟨p, hp, rfl⟩ := List.mem_map.1 hn; exact hi.var p hp
 have h2 : (dom L).length = L.length := by simp [dom]
 have := h.len; omega
theorem refU_inv {V : List Nat} {f : Nat} {L L' : Pairs} {a b : Ty} (hi : Inv V L) (ha : ∀ m ∈ a.vs, m ∈ V) (hb : ∀ m ∈ b.vs, m ∈ V) (h : refU f L a b = some (some L')) : Inv V L' := by
 obtain ⟨g, r, h1, h2⟩ := refU_total V _ _ L a b hi ha hb (Nat.le_refl _) (Nat.le_refl _)
 have e : r = some L' := by
  rcases Nat.le_total f g with hl | hl
  · have := refU_le hl h; rw [this] at h1; injection h1 with h1; exact h1.symm
  · have := refU_le hl h1; rw [h] at this; injection this with this; exact this.symm
 exact (h2 L' e).1
theorem loopU_step {g : Pairs → Ty → Ty → Option (Option Pairs)} {M : Pairs} {x y : Ty} {xs ys : List Ty} {r : Option Pairs} (h : loopU g M (x :: xs) (y :: ys) = some r) : (g M x y = some none ∧ r = none) ∨ ∃ M', g M x y = some (some M') ∧ loopU g M' xs ys = some r := by
 rw [loopU] at h
 cases hg : g M x y with
 | none => rw [hg] at h; cases h
 | some o =>
   rw [hg] at h
   cases o with
   | none => left; injection h with h; exact ⟨rfl, h.symm⟩
   | some M' => exact .inr ⟨M', rfl, h⟩
theorem headU_none {L : Pairs} {n : Nat} {t : Ty} (h : hasT t n = true) : headU L n t = none := by unfold headU; unfold hasT at h; rw [if_pos h]
theorem headU_some {L : Pairs} {n : Nat} {t : Ty} (h : ¬ hasT t n = true) : headU L n t = some (bind L n t) := by unfold headU; unfold hasT at h; rw [if_neg h]
/-- The document's Unify, where the first is a variable then. -/
theorem refU_var {f : Nat} {L : Pairs} {a b : Ty} {r : Option Pairs} (h : refU (f + 1) L a b = some r) {n : Nat} (ha : applyL L a = .v n) : (applyL L b = .v n ∧ r = some L) ∨ (applyL L b ≠ .v n ∧ r = headU L n (applyL L b)) := by
 rw [refU, ha] at h
 cases hb : applyL L b with
 | v m =>
   rw [hb] at h
   simp only at h
   by_cases e : m = n
   · rw [if_pos e] at h; subst e; injection h with h; exact .inl ⟨rfl, h.symm⟩
   · rw [if_neg e] at h; injection h with h
     refine .inr ⟨fun e2 => e (by injection e2), ?_⟩
     rw [headU_some (by rw [hasT_v]; simp [e]), ← h]
 | a nm ys =>
   rw [hb] at h
   injection h with h
   exact .inr ⟨fun e => (by cases e), h.symm⟩
theorem refU_swap {f : Nat} {L : Pairs} {a b : Ty} {r : Option Pairs} (h : refU (f + 1) L a b = some r) {nm : List UInt8} {xs : List Ty} {n : Nat} (ha : applyL L a = .a nm xs) (hb : applyL L b = .v n) : r = headU L n (.a nm xs) := by
 rw [refU, ha, hb] at h
 injection h with h; exact h.symm
theorem refU_both {f : Nat} {L : Pairs} {a b : Ty} {r : Option Pairs} (h : refU (f + 1) L a b = some r) {nm nm' : List UInt8} {xs ys : List Ty} (ha : applyL L a = .a nm xs) (hb : applyL L b = .a nm' ys) : ((nm ≠ nm' ∨ xs.length ≠ ys.length) ∧ r = none) ∨ (nm = nm' ∧ xs.length = ys.length ∧ loopU (refU f) L xs ys = some r) := by
 rw [refU, ha, hb] at h
 simp only at h
 by_cases e : nm ≠ nm' ∨ xs.length ≠ ys.length
 · rw [if_pos e] at h; injection h with h; exact .inl ⟨e, h.symm⟩
 · rw [if_neg e] at h
   exact .inr ⟨Classical.byContradiction fun x => e (.inl x), Classical.byContradiction fun x => e (.inr x), h⟩
end Ux
theorem pairs_up {w u : World} {v : Value} {L : Ux.Pairs} (h : RowAt 4 (PairP w) w v L) (hb : Below w.heap.size w u) : RowAt 4 (PairB w.heap.size u) u v L :=
 h.mono hb fun z p _ hz => by
  obtain ⟨k, s, q, m, c, rfl, ht⟩ := hz
  exact ⟨k, s, q, m, c, rfl, (tyP_hang ht 0 0).same fun b hb' => hb.block b (by omega)⟩
theorem pairs_below {w u : World} {v : Value} {L : Ux.Pairs} (h : RowAt 4 (PairP w) w v L) (hb : Below w.heap.size w u) : RowAt 4 (PairP u) u v L :=
 h.mono hb fun z p _ hz => by
  obtain ⟨k, s, q, m, c, rfl, ht⟩ := hz
  exact ⟨k, s, q, m, c, rfl, tyP_below ht hb⟩
theorem eltPair : Elt 27 71 (.agg #[.int .i64 0, .int .i64 0, .string ⟨#[]⟩, .slice none 0 0]) 4 56 := ⟨Tryd.underlying27, by kernel_rfl, rfl, by decide, by decide⟩
/-- What the document's Unify answers. -/
def RUPost (r : Option Ux.Pairs) (w : World) (e : Ending) (w' : World) : Prop :=
 ∃ lv', e = .returned (.tuple #[lv', .bool r.isSome]) ∧ Below w.heap.size w w' ∧ ∀ L', r = some L' → RowAt 4 (PairP w') w' lv' L'
def RUC (S : Ux.Ty → Prop) (V : List Nat) (f : Nat) : Prop := ∀ (L : Ux.Pairs) (a b : Ux.Ty) (r : Option Ux.Pairs) (lv va vB : Value) (w : World), Ux.refU f L a b = some r → Ux.Inv V L → Ux.Tri S L → Ux.OfS S L a → Ux.OfS S L b → (∀ m ∈ a.vs, m ∈ V) → (∀ m ∈ b.vs, m ∈ V) → RowAt 4 (PairP w) w lv L → TyP w va a → TyP w vB b →
 Calls Tryd.prog 14 #[lv, va, vB] w (RUPost r w)
end Go.Proofs.YtcblppojnailpaaDoor
namespace Go.Proofs.YtcblppojnailpaaDoor
open Go Go.RowKit
set_option linter.unusedVariables false
set_option linter.unusedSimpArgs false
namespace Ux
def S19 (t : Ty) : Prop := t.sz ≤ 19
theorem sOk19 : SOk S19 (List.range 6) where
 parts := fun nm xs h x hx => by
  have h1 := sum_ge Ty.sz (List.mem_map.2 ⟨x, hx, rfl⟩ : id x ∈ xs.map id)
  unfold S19 at h ⊢
  rw [sz_a] at h
  rw [List.map_id] at h1
  have : x.sz ≤ (xs.map Ty.sz).sum := h1
  omega
 sz := fun t h => h
 nd := List.nodup_range
 len := by simp
/-- What stands after some pairs. -/
structure PSt (E : List (Ty × Ty)) (f : Map) (L : Pairs) : Prop where
 both : Both f L
 all : ∀ σ, Sol f σ ↔ AllOne E σ
 inv : Inv (List.range 6) L
 tri : Tri S19 L
 small : ∀ p ∈ E, Small 19 6 p.1 ∧ Small 19 6 p.2
theorem PSt.nil : PSt [] (fun _ => none) [] where
 both := Both.nil
 all := fun σ => ⟨fun _ p hp => (by cases hp), fun _ n t h => (by cases h)⟩
 inv := ⟨Both.nil.solved, fun p hp => (by cases hp), fun p hp => (by cases hp)⟩
 tri := Tri.nil _
 small := fun p hp => by cases hp
theorem Small.v6 {t : Ty} (h : Small 19 6 t) : ∀ m ∈ t.vs, m ∈ List.range 6 := fun m hm => List.mem_range.2 (h.2.2 m hm)
theorem PSt.step {E : List (Ty × Ty)} {f : Map} {L : Pairs} (h : PSt E f L) {a b : Ty} (ha : Small 19 6 a) (hb : Small 19 6 b) :
 ∃ k r, refU k L a b = some r ∧ (∀ f', Made f f' a b → ∃ L', r = some L' ∧ PSt (E ++ [(a, b)]) f' L') ∧ (Never f a b → r = none) := by
 obtain ⟨k, r, h1, _⟩ := refU_total (List.range 6) _ _ L a b h.inv ha.v6 hb.v6 (Nat.le_refl _) (Nat.le_refl _)
 refine ⟨k, r, h1, fun f' hm => ?_, (h.both.step (f' := f) h1).2⟩
 obtain ⟨L', rfl, hb'⟩ := (h.both.step h1).1 hm
 refine ⟨L', rfl, hb', fun σ => ?_, refU_inv h.inv ha.v6 hb.v6 h1, ?_, fun p hp => ?_⟩
 · rw [hm.2 σ, h.all σ]
   constructor
   · rintro ⟨h3, h4⟩ p hp
     rcases List.mem_append.1 hp with hp | hp
     · exact h3 p hp
     · rw [List.mem_singleton.1 hp]; exact h4
   · exact fun h3 => ⟨fun p hp => h3 p (List.mem_append.2 (.inl hp)), h3 (a, b) (by simp)⟩
 · have := refU_tri sOk19.parts k L a b h.inv.solved h.tri ⟨a, ha.2.1, rfl⟩ ⟨b, hb.2.1, rfl⟩
   rw [h1] at this
   exact this.2.1
 · rcases List.mem_append.1 hp with hp | hp
   · exact h.small p hp
   · rw [List.mem_singleton.1 hp]; exact ⟨ha, hb⟩
/-- The six variables in one. -/
def allT : Ty := .a [97, 108, 108] ((List.range 6).map Ty.v)
theorem allT_small : (Plain allT ∧ ∀ m ∈ allT.vs, m < 6) ∧ allT.sz * 19 ^ 6 ≤ 10000000000 := by
 refine ⟨⟨plain_a ⟨by decide, by decide⟩ fun u hu => ?_, fun m hm => ?_⟩, ?_⟩
 · obtain ⟨n, _, rfl⟩ := List.mem_map.1 hu; exact plain_v n
 · unfold allT at hm
   rw [vs_a] at hm
   obtain ⟨y, hy, hm⟩ := List.mem_flatMap.1 hm
   obtain ⟨n, hn, rfl⟩ := List.mem_map.1 hy
   rw [vs_v] at hm
   simp at hm hn
   omega
 · have : allT.sz = 7 := by unfold allT; rw [sz_a]; simp [Ty.sz, List.range, List.range.loop]
   rw [this]; decide
theorem small_all {t : Ty} (h : Small 19 6 t) : (Plain t ∧ ∀ m ∈ t.vs, m < 6) ∧ t.sz * 19 ^ 6 ≤ 10000000000 :=
 ⟨⟨h.1, h.2.2⟩, Nat.le_trans (Nat.mul_le_mul_right _ h.2.1) (by decide)⟩
theorem PSt.okT {E : List (Ty × Ty)} {f : Map} {L : Pairs} (h : PSt E f L) {N : Sub} (hN : Norm f N) {t : Ty} (ht : (Plain t ∧ ∀ m ∈ t.vs, m < 6) ∧ t.sz * 19 ^ 6 ≤ 10000000000) : OkT (t.app N) :=
 okT_all h.both.fine hN h.all (by decide) (by decide) h.small ht.1 ht.2
theorem PSt.dom {E : List (Ty × Ty)} {f : Map} {L : Pairs} (h : PSt E f L) : ∀ n, f n ≠ none → n < 1000000 := by
 obtain ⟨N, hN⟩ := h.both.fine.norm
 exact dom_all h.both.fine hN h.all (S := 19) (K := 6) (by decide) h.small
theorem PSt.take {E : List (Ty × Ty)} {f : Map} {L : Pairs} (h : PSt E f L) {t : Ty} (ht : t.sz ≤ 19) (k : Nat) : (applyL (L.take k) t).sz ≤ 50000000000 := by
 have h1 := app_take L t k
 have h2 := sOk19.all h.inv h.tri t
 have h3 := Nat.mul_le_mul_right 47045881 ht
 omega
theorem PSt.okL {E : List (Ty × Ty)} {f : Map} {L : Pairs} (h : PSt E f L) {t : Ty} (ht : Plain t ∧ ∀ m ∈ t.vs, m < 6) (hs : t.sz ≤ 19) : OkT (applyL L t) := by
 obtain ⟨N, hN⟩ := h.both.fine.norm
 have ho := h.okT hN (t := t) ⟨ht, Nat.le_trans (Nat.mul_le_mul_right _ hs) (by decide)⟩
 refine ⟨?_, fun n hn => ?_, by have := h.take hs L.length; rw [List.take_length] at this; have h2 := sOk19.all h.inv h.tri t; have h3 := Nat.mul_le_mul_right 47045881 hs; omega⟩
 · have e := h.both.most.eq hN.sol t
   have hp := ho.plain
   rw [← e] at hp
   exact plain_of hp
 · have := sub_vs_in h.inv (t := t) (fun m hm => List.mem_range.2 (ht.2 m hm)) n hn
   have := List.mem_range.1 this
   omega
end Ux
theorem RowsR.below {w w' : World} {v : Value} {ll : List (List Ux.Nod)} (h : RowAt 1 (fun z l => RowAt 3 NodV w z l) w v ll) (hb : Below w.heap.size w w') : RowAt 1 (fun z l => RowAt 3 NodV w' z l) w' v ll :=
 RowAt.mono h hb fun z l _ hz => hz.mono hb fun u x _ hu => hu
end Go.Proofs.YtcblppojnailpaaDoor
