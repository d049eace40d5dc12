/-
  OrderRings: rings and lines of integers, in memory.
-/
import Derived.Test.YtjefnmcalmcciaaLoneP
import Derived.Test.YtjefnmcalmcciaaGrN
namespace Go.Proofs.Ytjefnmcalmcciaa
open Go Go.RowKit
set_option linter.unusedVariables false
set_option linter.unusedSimpArgs false

def upto (n : Nat) : List Int := (List.range n).map fun (i : Nat) => (i : Int)
theorem upto_len (n : Nat) : (upto n).length = n := by simp [upto]
theorem upto_succ (n : Nat) : upto (n + 1) = upto n ++ [(n : Int)] := by simp [upto, List.range_succ]
theorem upto_nums (n : Nat) : nums (List.range n) = upto n := rfl
def downI : Nat → List Int
  | 0 => []
  | n + 1 => (n : Int) :: downI n
theorem downI_len (n : Nat) : (downI n).length = n := by induction n with | zero => rfl | succ n ih => simp [downI, ih]
theorem downI_at : ∀ (n : Nat) {j : Nat}, j < n → (downI n)[j]? = some (((n - 1 - j : Nat)) : Int)
  | 0, j, h => absurd h (Nat.not_lt_zero _)
  | n + 1, 0, h => by simp [downI]
  | n + 1, j + 1, h => by
    have := downI_at n (j := j) (by omega)
    simp only [downI, List.getElem?_cons_succ, this]
    congr 2
    omega
def ringI (K : Nat) : List (List Int) := (List.range K).map fun i => [(((i + 1) % K : Nat) : Int)]
def lineI (K : Nat) : List (List Int) := (List.range K).map fun i => if i + 1 < K then [((i + 1 : Nat) : Int)] else []
theorem ringI_len (K : Nat) : (ringI K).length = K := by simp [ringI]
theorem lineI_len (K : Nat) : (lineI K).length = K := by simp [lineI]
theorem ringI_nat (K : Nat) : natG (ringI K) = Gr.ringG K := by
  unfold natG ringI Gr.ringG
  rw [List.map_map]
  exact List.map_congr_left fun i _ => rfl
theorem lineI_nat (K : Nat) : natG (lineI K) = Gr.lineG K := by
  unfold natG lineI Gr.lineG
  rw [List.map_map]
  refine List.map_congr_left fun i _ => ?_
  by_cases h : i + 1 < K
  · simp only [Function.comp, if_pos h]; rfl
  · simp only [Function.comp, if_neg h]; rfl
theorem ringI_at {K j : Nat} (h : j < K) : (ringI K)[j]? = some [(((j + 1) % K : Nat) : Int)] := by simp [ringI, h]
theorem lineI_at {K j : Nat} (h : j < K) : (lineI K)[j]? = some (if j + 1 < K then [((j + 1 : Nat) : Int)] else []) := by simp [lineI, h]
theorem ringI_all {K : Nat} (hK : 0 < K) : allB (ringI K).length (ringI K) = true := by
  rw [ringI_len]
  refine all_yes fun k l hl => row_yes fun j x hx => ?_
  have hk : k < K := by have := Gr.some_lt hl; rwa [ringI_len] at this
  rw [ringI_at hk] at hl
  obtain rfl := Option.some.inj hl
  have hx2 := List.mem_singleton.1 (List.mem_of_getElem? hx)
  subst hx2
  have hm := Nat.mod_lt (k + 1) hK
  generalize (k + 1) % K = r at *
  unfold okB; simp; omega
theorem lineI_all (K : Nat) : allB (lineI K).length (lineI K) = true := by
  rw [lineI_len]
  refine all_yes fun k l hl => row_yes fun j x hx => ?_
  have hk : k < K := by have := Gr.some_lt hl; rwa [lineI_len] at this
  rw [lineI_at hk] at hl
  obtain rfl := Option.some.inj hl
  by_cases h : k + 1 < K
  · rw [if_pos h] at hx
    have hx2 := List.mem_singleton.1 (List.mem_of_getElem? hx)
    subst hx2
    unfold okB; simp; omega
  · rw [if_neg h] at hx; simp at hx
theorem sum_ones {ls : List (List Int)} (h : ∀ l ∈ ls, l.length ≤ 1) : Gr.sumN (ls.map List.length) ≤ ls.length := by
  have := sum_bound (M := 1) h ls.length (Nat.le_refl _)
  rw [List.take_length] at this
  omega

theorem new_at {w : World} (u : Value) (T : TypeId) {g : Nat} (hg : w.heap.size = g) {j : Nat} {x : Value} (h : ([u] : List Value)[j]? = some x) : (w.alloc (.cells #[u] T)).cell? ⟨g, 0 + j, none⟩ = some x := by
  subst hg; rw [Nat.zero_add, ← add0]; exact new_one w u T j x h
theorem own_lit (w : World) (y : Int) {base : Nat} (hb : base ≤ w.heap.size) : (w.alloc (.cells #[.int .i64 y] 3)).ownsRow base 3 1 (.slice (some ⟨w.heap.size, 0, none⟩) 1 1) 1 (zvs [y]) :=
  ⟨by simp [zvs], .inr ⟨w.heap.size, 1, #[.int .i64 y], rfl, hb, ent_new w _ _, Nat.le_refl _, by unfold maxLen; omega, rfl, by simp [zvs]⟩⟩
/-- What stands while the ring is laid. -/
structure RingAt (lo K : Nat) (w : World) (mv av bv : Value) (vs : List Value) (k p q : Nat) : Prop where
  own : w.ownsRow lo 30 1 mv k vs
  row : ∀ j, j < k → ∃ b, vs[j]? = some (.slice (some ⟨b, 0, none⟩) 1 1) ∧ w.heap[b]? = some (.cells #[.int .i64 (((j + 1) % K : Nat) : Int)] 3 (0, 0)) ∧ av.ownBlock ≠ some b
  al : w.ownsRow lo 3 1 av p (zvs (upto p))
  bk : w.ownsRow lo 3 1 bv q (zvs (downI q))
  ne : ∀ b, av.ownBlock = some b → bv.ownBlock ≠ some b
theorem own_type_ne {w : World} {b1 b2 s1 s2 n1 n2 : Nat} {e1 e2 : TypeId} {v1 v2 : Value} {x1 x2 : List Value} (h1 : w.ownsRow b1 e1 s1 v1 n1 x1) (h2 : w.ownsRow b2 e2 s2 v2 n2 x2) (hne : e1 ≠ e2) {b : Nat} (hb : v1.ownBlock = some b) : v2.ownBlock ≠ some b := by
  intro hc
  obtain ⟨c1, hc1⟩ := own_type h1 hb
  obtain ⟨c2, hc2⟩ := own_type h2 hc
  rw [hc1] at hc2
  injection hc2 with hc2
  injection hc2 with _ hc2 _
  exact hne hc2
theorem RingAt.nil (lo K : Nat) (w : World) : RingAt lo K w (.slice none 0 0) (.slice none 0 0) (.slice none 0 0) [] 0 0 0 :=
  ⟨World.ownsRow_nil _ _ _ _, fun j h => absurd h (Nat.not_lt_zero _), World.ownsRow_nil _ _ _ _, World.ownsRow_nil _ _ _ _, fun b h => by cases h⟩
theorem RingAt.push {lo K : Nat} {w w' : World} {mv mv' av bv : Value} {vs : List Value} {k p q : Nat} {o : Obj} (h : RingAt lo K w mv av bv vs k p q) {y : Int} (hy : y = (((k + 1) % K : Nat) : Int))
    (ho : w'.ownsRow lo 30 1 mv' (k + 1) (vs ++ [.slice (some ⟨w.heap.size, 0, none⟩) 1 1])) (hgr : ((w.alloc (.cells #[.int .i64 y] 3)).alloc o).grownBy w' mv.ownBlock) :
    RingAt lo K w' mv' av bv (vs ++ [.slice (some ⟨w.heap.size, 0, none⟩) 1 1]) (k + 1) p q := by
  subst hy
  have hvl : vs.length = k := by have := h.own.1; omega
  have keep : ∀ {b : Nat} {cs : Array Value}, w.heap[b]? = some (.cells cs 3 (0, 0)) → w'.heap[b]? = some (.cells cs 3 (0, 0)) := by
    intro b cs hb
    rw [← hb, ← Below.heap_alloc w (.cells #[.int .i64 (((k + 1) % K : Nat) : Int)] 3) b (ent_lt hb), ← Below.heap_alloc (w.alloc (.cells #[.int .i64 (((k + 1) % K : Nat) : Int)] 3)) o b (by have := ent_lt hb; simp; omega)]
    refine hgr.block b (by have := ent_lt hb; simp; omega) fun e => ?_
    obtain ⟨c2, hc2⟩ := own_type h.own e.symm
    rw [hb] at hc2
    injection hc2 with hc2
    injection hc2 with _ hc2 _
    exact absurd hc2 (by decide)
  have keepOwn : ∀ {x : Value} {n : Nat} {xs : List Value}, w.ownsRow lo 3 1 x n xs → w'.ownsRow lo 3 1 x n xs := by
    intro x n xs hx
    refine own_same hx fun b hb => ?_
    obtain ⟨cs, hc⟩ := own_type hx hb
    rw [keep hc, hc]
  refine ⟨ho, fun j hj => ?_, keepOwn h.al, keepOwn h.bk, h.ne⟩
  by_cases e : j = k
  · subst e
    refine ⟨w.heap.size, by rw [← hvl]; simp, ?_, fun hc => by have := (h.al.lt _ hc).2; omega⟩
    have h1 := ent_alloc (ent_new w #[.int .i64 (((j + 1) % K : Nat) : Int)] 3) o
    rw [hgr.block w.heap.size (by simp; omega) (fun hc => by have := (h.own.lt _ hc.symm).2; omega)]
    exact h1
  · obtain ⟨b, h1, h2, h3⟩ := h.row j (by omega)
    exact ⟨b, by rw [List.getElem?_append_left (by omega)]; exact h1, keep h2, h3⟩
theorem RingAt.all {lo K : Nat} {w w' : World} {mv av av' bv : Value} {vs : List Value} {k p q : Nat} {o : Obj} (h : RingAt lo K w mv av bv vs k p q)
    (ho : w'.ownsRow lo 3 1 av' (p + 1) (zvs (upto (p + 1)))) (hgr : (w.alloc o).grownBy w' av.ownBlock) (hat : ∀ b, av'.ownBlock = some b → av.ownBlock = some b ∨ w.heap.size ≤ b) : RingAt lo K w' mv av' bv vs k (p + 1) q := by
  have keep : ∀ {b : Nat}, b < w.heap.size → av.ownBlock ≠ some b → w'.heap[b]? = w.heap[b]? := fun {b} hb hne =>
    (hgr.block b (by simp; omega) (fun e => hne e.symm)).trans (Below.heap_alloc w o b hb)
  have ne' : ∀ {x : Nat}, x < w.heap.size → av.ownBlock ≠ some x → av'.ownBlock ≠ some x := fun {x} hx hn hc => by
    rcases hat x hc with h1 | h1
    · exact hn h1
    · omega
  refine ⟨own_same h.own fun b hb => keep (h.own.lt b hb).2 (own_type_ne h.own h.al (by decide) hb), fun j hj => ?_, ho, own_same h.bk fun b hb => keep (h.bk.lt b hb).2 (fun hc => h.ne b hc hb), fun b hb hc => ?_⟩
  · obtain ⟨b, h1, h2, h3⟩ := h.row j hj
    exact ⟨b, h1, (keep (ent_lt h2) h3).trans h2, ne' (ent_lt h2) h3⟩
  · exact ne' (h.bk.lt b hc).2 (fun ha => h.ne b ha hc) hb
theorem RingAt.back {lo K : Nat} {w w' : World} {mv av bv bv' : Value} {vs : List Value} {k p q : Nat} (h : RingAt lo K w mv av bv vs k p q)
    (ho : w'.ownsRow lo 3 1 bv' (q + 1) (zvs (downI (q + 1)))) (hb : Below w.heap.size w w') (hat : ∀ b, bv'.ownBlock = some b → w.heap.size ≤ b) : RingAt lo K w' mv av bv' vs k p (q + 1) := by
  refine ⟨own_same h.own fun b hbb => hb.block b (h.own.lt b hbb).2, fun j hj => ?_, own_same h.al fun b hbb => hb.block b (h.al.lt b hbb).2, ho, fun b hb1 hb2 => ?_⟩
  · obtain ⟨b, h1, h2, h3⟩ := h.row j hj
    exact ⟨b, h1, ent_below h2 hb, h3⟩
  · have := (h.al.lt b hb1).2; have := hat b hb2; omega
theorem RingAt.rows {lo K : Nat} {w : World} {mv av bv : Value} {vs : List Value} {p q : Nat} (h : RingAt lo K w mv av bv vs K p q) : RowsAt w mv (ringI K) := by
  refine rows_of_own (base := lo) (vs := vs) (by rw [ringI_len]; exact h.own) fun k l hk => ?_
  have hkK : k < K := by have := Gr.some_lt hk; rwa [ringI_len] at this
  rw [ringI_at hkK] at hk
  obtain rfl := Option.some.inj hk
  obtain ⟨b, h1, h2, _⟩ := h.row k hkK
  exact ⟨_, h1, ints_one h2⟩
/-- Behind the last row's going. -/
theorem RingAt.cut {lo K g c : Nat} {w : World} {av bv : Value} {vs : List Value} {p q : Nat} (h : RingAt lo K w (.slice (some ⟨g, 0, none⟩) K c) av bv vs K p q) {W : World} (hW : Below w.heap.size w W) (hK : 0 < K) : RowsAt (W.setCell ⟨g, K - 1, none⟩ (.slice none 0 0)) (.slice (some ⟨g, 0, none⟩) K c) (lineI K) := by
  have hvl : vs.length = K := by have := h.own.1; omega
  have hown : W.ownsRow lo 30 1 (.slice (some ⟨g, 0, none⟩) K c) K vs := own_same h.own fun b hb => hW.block b (h.own.lt b hb).2
  have h2 := own_setAt hown (K - 1) (.slice none 0 0) (by omega)
  refine rows_of_own (base := lo) (vs := vs.set (K - 1) (.slice none 0 0)) (by rw [lineI_len]; exact h2) fun k l hk => ?_
  have hkK : k < K := by have := Gr.some_lt hk; rwa [lineI_len] at this
  rw [lineI_at hkK] at hk
  obtain rfl := Option.some.inj hk
  by_cases e : k + 1 < K
  · rw [if_pos e]
    obtain ⟨b, h3, h4, _⟩ := h.row k hkK
    have hb : b ≠ g := by
      rintro rfl
      obtain ⟨cs, hc⟩ := own_type h.own (k := b) rfl
      rw [hc] at h4
      injection h4 with h4
      injection h4 with _ h4 _
      exact absurd h4 (by decide)
    refine ⟨_, by rw [List.getElem?_set_ne (by omega)]; exact h3, ?_⟩
    have h5 := ent_other (ent_below h4 hW) g (K - 1) (.slice none 0 0) hb
    rw [show ((k + 1) % K : Nat) = k + 1 from Nat.mod_eq_of_lt e] at h5
    exact ints_one h5
  · rw [if_neg e]
    have hk1 : k = K - 1 := by omega
    subst hk1
    exact ⟨.slice none 0 0, by rw [List.getElem?_set_self (by omega)], .inl ⟨rfl, none, 0, rfl⟩⟩
end Go.Proofs.Ytjefnmcalmcciaa
