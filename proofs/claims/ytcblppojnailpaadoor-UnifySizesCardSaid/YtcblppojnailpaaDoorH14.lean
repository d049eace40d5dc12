/-
  Several texts in one: ULTyp, UDom, ULawP, ULawW, USzB, ULike, UTwo, UPairP, UBig.
-/
import Derived.Test.YtcblppojnailpaaDoorH12
import Derived.Test.YtcblppojnailpaaDoorH07
import Derived.Test.YtcblppojnailpaaDoorH02
import Derived.Lib.ItoaLen
import Derived.Test.YtcblppojnailpaaDoorH11
import Derived.Test.YtcblppojnailpaaDoorH04
import Derived.Test.YtcblppojnailpaaDoorH13
namespace Go.Proofs.YtcblppojnailpaaDoor
open Go Go.RowKit
set_option linter.unusedVariables false
set_option linter.unusedSimpArgs false
/-- A node in memory. -/
def NodV (u : Value) (x : Ux.Nod) : Prop := u = .agg #[.int .i8 x.var, .int .u8 (x.name : Int), .int .u8 (x.args : Int)] ∧ -128 ≤ x.var ∧ x.var ≤ 127 ∧ x.name ≤ 255 ∧ x.args ≤ 255
def namesC : Array Value := #[.string ⟨#[73, 110, 116]⟩, .string ⟨#[76, 105, 115, 116]⟩, .string ⟨#[45, 62]⟩, .string ⟨#[80, 97, 105, 114]⟩]
theorem names_at (k : Nat) : namesC[k % 4]? = some (.string ⟨(Ux.nameOf k).toArray⟩) := by
 have h : k % 4 < 4 := Nat.mod_lt _ (by decide)
 unfold Ux.nameOf
 generalize k % 4 = j at h ⊢
 match j, h with
 | 0, _ => rfl
 | 1, _ => rfl
 | 2, _ => rfl
 | 3, _ => rfl
theorem zero_new (w w' : World) : New TyP w w' (.agg #[.int .i64 0, .string ⟨#[]⟩, .slice none 0 0]) (.v 0) := fun u _ => tyP_v.2 ⟨_, _, _, _, rfl⟩
theorem rowAt_drop {α : Type} {sz g o n c a : Nat} {rep : Value → α → Prop} {w : World} {xs : List α} (h : RowAt sz rep w (.slice (some ⟨g, o, none⟩) n c) xs) (ha : a ≤ xs.length) :
 RowAt sz rep w (.slice (some ⟨g, o + a * sz, none⟩) (n - a) (c - a)) (xs.drop a) := by
 rcases h with ⟨rfl, q, c', h⟩ | ⟨g', o', c', hv, h1, h2, h3⟩
 · injection h with _ h0 _
   subst h0
   exact .inl ⟨by simp, _, _, by rw [Nat.zero_sub]⟩
 · injection hv with e1 e2 e3
   injection e1 with e1
   injection e1 with e4 e5 _
   subst e2; subst e3; subst e4; subst e5
   refine .inr ⟨g, o + a * sz, c - a, by rw [List.length_drop], by rw [List.length_drop]; omega, by omega, fun i x hx => ?_⟩
   rw [List.getElem?_drop] at hx
   obtain ⟨u, hu, hs, hc⟩ := h3 (a + i) x hx
   exact ⟨u, hu, hs, fun j z hz => by have := hc j z hz; rwa [Nat.add_mul, ← Nat.add_assoc] at this⟩
theorem row_lo {α : Type} {sz lo : Nat} {rep : World → Value → α → Prop} {w : World} {E n : Nat} {v : Value} {vs : List Value} {xs : List α} (h : w.ownsRow lo E sz v n (cellsOf vs)) (hn : n = xs.length)
 (hr : Reps (Kept rep lo w v.ownBlock) vs xs) (hs : ∀ v ∈ vs, v.cells.size = sz) (u : World) (hu : ∀ b, lo ≤ b → b < w.heap.size → u.heap[b]? = w.heap[b]?) : RowAt sz (rep u) u v xs := by
 subst hn
 rcases h.2 with ⟨rfl, hn⟩ | ⟨g, cap, cur, rfl, hb, hg, hc1, hc2, hc3, hc4⟩
 · exact .inl ⟨List.eq_nil_of_length_eq_zero hn, none, 0, rfl⟩
 · refine .inr ⟨g, 0, cap, rfl, hc1, by unfold maxLen at hc2; omega, fun i x hx => ?_⟩
   obtain ⟨y, hy, l1, hi, h0, h1, _, h3⟩ := hr.at hx
   refine ⟨y, h3 u fun b hb1 hb2 => hu b (by omega) (by omega), hs y (List.mem_of_getElem? hy), fun j z hz => ?_⟩
   have hcell := World.ownsRow.cells h (g := g) rfl (i * sz + j) z (cellsOf_at sz hs hy hz)
   have e : (⟨g, 0, none⟩ : Addr).add (i * sz + j) = ⟨g, 0 + i * sz + j, none⟩ := by unfold Addr.add; split <;> simp_all
   rw [e] at hcell
   have hlt : g < w.heap.size := (Array.getElem?_eq_some_iff.1 hg).1
   rw [World.cell?_of_block (w := w) (hu g hb hlt)]; exact hcell
set_option maxHeartbeats 4000000 in
set_option maxRecDepth 100000 in
theorem lawTyp_any : ∀ (f : Nat) (l : List Ux.Nod) (v : Value) (w : World), f ≤ 13 → RowAt 3 NodV w v l → l.length ≤ 1000000 →
 Calls Tryd.prog 11 #[v, .int .i64 (13 - (f : Int))] w fun e w' => ∃ tv, e = .returned (.tuple #[tv, .int .i64 ((Ux.typN f l).2 : Int)]) ∧ New TyP w w' tv (Ux.typN f l).1 ∧ Below w.heap.size w w' := by
 intro f
 induction f with
 | zero =>
   intro l v w hf hl hlen
   obtain ⟨q, c, rfl⟩ := hl.len
   have HL := Lib.hid hl
   clear hl
   have HR : Hid (Ux.typN 0 l = (.v 0, 0)) := Lib.hid rfl
   rw [HR.out]
   go_enter Tryd.func11, Tryd.ntmps11
   have EX := Lib.hid (ent_new w #[.int .i64 0, .string ⟨#[]⟩, .slice none 0 0] 30)
   have HB := Lib.hid (show Below w.heap.size w (w.alloc (.cells #[.int .i64 0, .string ⟨#[]⟩, .slice none 0 0] 30)) from (Below.refl _ _).alloc (Nat.le_refl _) _)
   have d0 : (13 : Int) - ((0 : Nat) : Int) = 13 := rfl
   rw [d0]
   go_upto_region 1 with fail
   generalize w.alloc (.cells #[.int .i64 0, .string ⟨#[]⟩, .slice none 0 0] 30) = wb at EX HB ⊢
   obtain ⟨N, hN⟩ : ∃ N, N = l.length := ⟨_, rfl⟩
   rw [← hN]
   clear hN hlen
   have efree := ent_free EX.out
   have ec0 := ent_cell EX.out 0 _ rfl
   have ec1 := ent_cell EX.out 1 _ rfl
   have ec2 := ent_cell EX.out 2 _ rfl
   have E5 := ent_set3 EX.out (.int .i64 0) (.string ⟨#[]⟩) (.slice none 0 0)
   have r0 := ent_cell E5 0 _ rfl
   have r1 := ent_cell E5 1 _ rfl
   have r2 := ent_cell E5 2 _ rfl
   have hb := below_set3 HB.out w.heap.size (Nat.le_refl _) (.int .i64 0) (.string ⟨#[]⟩) (.slice none 0 0)
   by_cases hz : N = 0
   · subst hz
     go_wp2_with fail
     refine bodyPost_ret (v := .tuple #[.agg #[.int .i64 0, .string ⟨#[]⟩, .slice none 0 0], .int .i64 0]) (by simp [results, Tryd.results11, go_sem, r0, r1, r2]) rfl ?_
     exact ⟨_, rfl, zero_new _ _, hb⟩
   · have l1 : ((N : Int) == 0) = false := by simp; omega
     go_wp2_with fail
     refine bodyPost_ret (v := .tuple #[.agg #[.int .i64 0, .string ⟨#[]⟩, .slice none 0 0], .int .i64 0]) (by simp [results, Tryd.results11, go_sem, r0, r1, r2]) rfl ?_
     exact ⟨_, rfl, zero_new _ _, hb⟩
 | succ f ih =>
   intro l v w hf hl hlen
   obtain ⟨i0, hi, hz0, hz1, hz2⟩ := infoParts infoTy
   have I := Lib.hid hi; have I0 := Lib.hid hz0; have I1 := Lib.hid hz1; have I2 := Lib.hid hz2
   clear hi hz0 hz1 hz2
   have IH := Lib.hid ih
   obtain ⟨q, c, rfl⟩ := hl.len
   have HL := Lib.hid hl
   clear hl ih
   obtain ⟨R, hR⟩ : ∃ R, R = Ux.typN (f + 1) l := ⟨_, rfl⟩
   rw [← hR]
   have HR := Lib.hid hR
   clear hR
   go_enter Tryd.func11, Tryd.ntmps11
   have EX := Lib.hid (ent_new w #[.int .i64 0, .string ⟨#[]⟩, .slice none 0 0] 30)
   have HB := Lib.hid (show Below w.heap.size w (w.alloc (.cells #[.int .i64 0, .string ⟨#[]⟩, .slice none 0 0] 30)) from (Below.refl _ _).alloc (Nat.le_refl _) _)
   have hsz : (w.alloc (.cells #[.int .i64 0, .string ⟨#[]⟩, .slice none 0 0] 30)).heap.size = w.heap.size + 1 := by simp
   go_upto_region 1 with fail
   generalize w.alloc (.cells #[.int .i64 0, .string ⟨#[]⟩, .slice none 0 0] 30) = wb at EX HB hsz ⊢
   have efree := ent_free EX.out
   have ec0 := ent_cell EX.out 0 _ rfl
   have ec1 := ent_cell EX.out 1 _ rfl
   have ec2 := ent_cell EX.out 2 _ rfl
   by_cases he : l = []
   · subst he
     have hE : R = (.v 0, 0) := by rw [HR.out, Ux.typN_nil]
     have l0 : ([] : List Ux.Nod).length = 0 := rfl
     rw [l0]
     have E5 := ent_set3 EX.out (.int .i64 0) (.string ⟨#[]⟩) (.slice none 0 0)
     have hb := below_set3 HB.out w.heap.size (Nat.le_refl _) (.int .i64 0) (.string ⟨#[]⟩) (.slice none 0 0)
     have r0 := ent_cell E5 0 _ rfl
     have r1 := ent_cell E5 1 _ rfl
     have r2 := ent_cell E5 2 _ rfl
     go_wp2_with fail
     refine bodyPost_ret (v := .tuple #[.agg #[.int .i64 0, .string ⟨#[]⟩, .slice none 0 0], .int .i64 0]) (by simp [results, Tryd.results11, go_sem, r0, r1, r2]) rfl ?_
     exact ⟨_, by rw [hE]; rfl, by rw [hE]; exact zero_new _ _, hb⟩
   have hpos := List.length_pos_iff.2 he
   obtain ⟨N, hN⟩ : ∃ N, N = l.length := ⟨_, rfl⟩
   rw [← hN] at hpos hlen ⊢
   have l1 : ((N : Int) == 0) = false := by simp; omega
   obtain ⟨D, hD⟩ : ∃ D : Int, D = 13 - ((f + 1 : Nat) : Int) := ⟨_, rfl⟩
   rw [← hD]
   have d1 : decide ((12 : Int) < D) = false := by simp; omega
   obtain ⟨n, r, rfl⟩ : ∃ n r, l = n :: r := List.exists_cons_of_ne_nil he
   rcases HL.out with ⟨h, _⟩ | ⟨g, o, c', hv, h1, h2, h3⟩
   · exact absurd h he
   injection hv with hq hn' hc
   subst hq; subst hc
   have h2' : (c : Int) ≤ 9223372036854775807 := h2
   obtain ⟨u, ⟨rfl, hok⟩, hus, huc⟩ := h3 0 n rfl
   have k1 : (0 : Int) < (N : Int) := by omega
   have k2 : (N : Int) ≤ (c : Int) := by omega
   have x0 := huc 0 (.int .i8 n.var) rfl
   have x1 := huc 1 (.int .u8 (n.name : Int)) rfl
   have x2 := huc 2 (.int .u8 (n.args : Int)) rfl
   rw [Nat.zero_mul, Nat.add_zero] at x0
   rw [Nat.zero_mul, Nat.add_zero] at x1
   rw [Nat.zero_mul, Nat.add_zero] at x2
   have HX := Lib.hid (fun (w' : World) (h : Below w.heap.size w w') => (⟨cell_up h x0, cell_up h x1, cell_up h x2⟩ : w'.cell? ⟨g, o, none⟩ = some (.int .i8 n.var) ∧ w'.cell? ⟨g, o + 1, none⟩ = some (.int .u8 (n.name : Int)) ∧ w'.cell? ⟨g, o + 2, none⟩ = some (.int .u8 (n.args : Int))))
   have HD := Lib.hid hD
   have HN := Lib.hid hN
   have HOK := Lib.hid hok
   clear h3 huc hus hD hN hok x0 x1 x2
   obtain ⟨x0, x1, x2⟩ := HX.out wb HB.out
   by_cases hvar : 0 ≤ n.var
   · have hE : R = (.v (n.var.toNat % 6), 1) := by rw [HR.out, Ux.typN_var _ _ _ hvar]
     have E5 := ent_set3 EX.out (.int .i64 (n.var % 6)) (.string ⟨#[]⟩) (.slice none 0 0)
     have hb := below_set3 HB.out w.heap.size (Nat.le_refl _) (.int .i64 (n.var % 6)) (.string ⟨#[]⟩) (.slice none 0 0)
     have r0 := ent_cell E5 0 _ rfl
     have r1 := ent_cell E5 1 _ rfl
     have r2 := ent_cell E5 2 _ rfl
     go_wp2_with fail
     refine bodyPost_ret (v := .tuple #[.agg #[.int .i64 (n.var % 6), .string ⟨#[]⟩, .slice none 0 0], .int .i64 1]) (by simp [results, Tryd.results11, go_sem, r0, r1, r2]) rfl ?_
     exact ⟨_, rfl, (fun u _ => tyP_v.2 ⟨_, _, _, _, by rw [show n.var % 6 = ((n.var.toNat % 6 : Nat) : Int) by omega]⟩), hb⟩
   · have hneg : n.var < 0 := by omega
     have hE := HR.out
     rw [Ux.typN_a _ _ _ hvar] at hE
     have HE := Lib.hid hE
     clear hE hvar
     obtain ⟨K, hK⟩ : ∃ K, K = n.name % 4 := ⟨_, rfl⟩
     have hK4 : K < 4 := by omega
     have hrem : (n.name : Int) % 4 = (K : Int) := by omega
     have hnm := names_at n.name
     rw [← hK] at hnm
     obtain ⟨NM, hNM⟩ : ∃ NM, NM = Ux.nameOf n.name := ⟨_, rfl⟩
     rw [← hNM] at hnm
     have HNM := Lib.hid hNM
     clear hK hNM
     go_upto_region 5 with fail
     have hcK : (wb.alloc (.cells #[.string ⟨#[73, 110, 116]⟩, .string ⟨#[76, 105, 115, 116]⟩, .string ⟨#[45, 62]⟩, .string ⟨#[80, 97, 105, 114]⟩] 9)).cell? ⟨wb.heap.size, K, none⟩ = some (.string ⟨NM.toArray⟩) := ent_cell (ent_new wb namesC 9) K _ hnm
     rw [hsz] at hcK
     have hbn := HB.out.alloc HB.out.size (.cells #[.string ⟨#[73, 110, 116]⟩, .string ⟨#[76, 105, 115, 116]⟩, .string ⟨#[45, 62]⟩, .string ⟨#[80, 97, 105, 114]⟩] 9)
     obtain ⟨x0n, x1n, x2n⟩ := HX.out _ hbn
     have hszn : (wb.alloc (.cells #[.string ⟨#[73, 110, 116]⟩, .string ⟨#[76, 105, 115, 116]⟩, .string ⟨#[45, 62]⟩, .string ⟨#[80, 97, 105, 114]⟩] 9)).heap.size = w.heap.size + 2 := by simp [hsz]
     have HBY := Lib.hid (hbn.alloc hbn.size (.cells #[.int .i64 0, .string ⟨#[]⟩, .slice none 0 0] 30))
     have HEY := ent_new (wb.alloc (.cells #[.string ⟨#[73, 110, 116]⟩, .string ⟨#[76, 105, 115, 116]⟩, .string ⟨#[45, 62]⟩, .string ⟨#[80, 97, 105, 114]⟩] 9)) #[.int .i64 0, .string ⟨#[]⟩, .slice none 0 0] 30
     rw [hszn] at HEY
     have y0 := ent_cell HEY 0 _ rfl
     have y1 := ent_cell HEY 1 _ rfl
     have y2 := ent_cell HEY 2 _ rfl
     have yf := ent_free HEY
     have HEX := Lib.hid (ent_alloc (ent_alloc EX.out (.cells #[.string ⟨#[73, 110, 116]⟩, .string ⟨#[76, 105, 115, 116]⟩, .string ⟨#[45, 62]⟩, .string ⟨#[80, 97, 105, 114]⟩] 9)) (.cells #[.int .i64 0, .string ⟨#[]⟩, .slice none 0 0] 30))
     have HSY : Hid (((wb.alloc (.cells #[.string ⟨#[73, 110, 116]⟩, .string ⟨#[76, 105, 115, 116]⟩, .string ⟨#[45, 62]⟩, .string ⟨#[80, 97, 105, 114]⟩] 9)).alloc (.cells #[.int .i64 0, .string ⟨#[]⟩, .slice none 0 0] 30)).heap.size = w.heap.size + 3) := Lib.hid (by simp [hsz])
     go_upto_region 7 with fail
     clear HBY HEY y0 y1 y2 yf HEX HSY hcK x0n x1n x2n x0 x1 x2 ec0 ec1 ec2 efree
     have HB' := Lib.hid (hbn.alloc hbn.size (.cells #[.int .i64 (-1), .string ⟨NM.toArray⟩, .slice none 0 0] 30))
     have EY := Lib.hid (ent_new (wb.alloc (.cells #[.string ⟨#[73, 110, 116]⟩, .string ⟨#[76, 105, 115, 116]⟩, .string ⟨#[45, 62]⟩, .string ⟨#[80, 97, 105, 114]⟩] 9)) #[.int .i64 (-1), .string ⟨NM.toArray⟩, .slice none 0 0] 30)
     rw [hszn] at EY
     have EX' := Lib.hid (ent_alloc (ent_alloc EX.out (.cells #[.string ⟨#[73, 110, 116]⟩, .string ⟨#[76, 105, 115, 116]⟩, .string ⟨#[45, 62]⟩, .string ⟨#[80, 97, 105, 114]⟩] 9)) (.cells #[.int .i64 (-1), .string ⟨NM.toArray⟩, .slice none 0 0] 30))
     clear hbn hszn HB EX hsz
     have HB := HB'; have EX := EX'
     clear HB' EX'
     generalize (wb.alloc (.cells #[.string ⟨#[73, 110, 116]⟩, .string ⟨#[76, 105, 115, 116]⟩, .string ⟨#[45, 62]⟩, .string ⟨#[80, 97, 105, 114]⟩] 9)).alloc (.cells #[.int .i64 (-1), .string ⟨NM.toArray⟩, .slice none 0 0] 30) = wf at HB EX EY ⊢
     obtain ⟨tb, htb⟩ : ∃ tb, tb = w.heap.size + 2 := ⟨_, rfl⟩
     rw [← htb] at EY ⊢
     have htb' : w.heap.size + 2 ≤ tb := by omega
     have HTB := Lib.hid htb
     clear htb
     obtain ⟨x0, x1, x2⟩ := HX.out wf HB.out
     obtain ⟨M, hM⟩ : ∃ M, M = n.args % 3 := ⟨_, rfl⟩
     have HM4 := Lib.hid (show M < 3 by omega)
     have HMi : Hid (((n.args : Nat) : Int) % 3 = (M : Int)) := Lib.hid (by omega)
     have HM := Lib.hid hM
     clear hM
     go_wp2_with fail
     rw [HMi.out]
     clear HMi x0 x1 x2 hrem hnm
     go_loopw [7, 45] (fun av i wr => ∃ (k at' : Nat) (p : Option Addr) (d : Nat) (vs : List Value), i = .int .i64 k ∧ k ≤ M ∧ av = .int .i64 at' ∧ Hid (at' = (Ux.kidsN (Ux.typN f) (n :: r) k).2) ∧ Hid (wr.heap[w.heap.size]? = some (.cells #[.int .i64 0, .string ⟨#[]⟩, .slice none 0 0] 30 (0, 0))) ∧ Hid (wr.heap[tb]? = some (.cells #[.int .i64 (-1), .string ⟨NM.toArray⟩, .slice p k d] 30 (0, 0))) ∧
      Hid (wr.ownsRow (tb + 1) 30 3 (.slice p k d) k (cellsOf vs)) ∧ Hid (Reps (Kept TyP (tb + 1) wr (Value.slice p k d).ownBlock) vs (Ux.kidsN (Ux.typN f) (n :: r) k).1) ∧ Hid (∀ v ∈ vs, v.cells.size = 3) ∧ Hid (Below w.heap.size w wr)) (fun _ i _ => M - (intOf i).toNat)
     case atStart => exact ⟨0, 1, none, 0, [], rfl, Nat.zero_le _, rfl, Lib.hid rfl, EX, EY, Lib.hid (own_none _ _ _ _ (by have := ent_lt EY.out; omega)), Lib.hid trivial, Lib.hid (by simp), HB⟩
     case round =>
      clear EX EY HB
      obtain ⟨k, a, p, d, vs, rfl, hk, rfl, HA, EX, EY, HO, HV, HC, HB⟩ := hrel
      have hle := Ux.kidsN_le (Ux.typN_le f) (n :: r) (by simp) k
      rw [← HA.out, ← HN.out] at hle
      have hDr : 0 ≤ D ∧ D ≤ 13 := by have := HD.out; omega
      by_cases hlt : k < M
      · have m1 : ((a : Int) ≤ (N : Int)) := by omega
        have m3 : min (a : Int) (N : Int) = (a : Int) := by omega
        have HL2 : Hid (∀ q, (q = ⟨g, o + a * 3, none⟩ ∨ c = a) → RowAt 3 NodV wr (.slice (some q) (N - a) (c - a)) ((n :: r).drop a)) := Lib.hid (by
         rintro q (rfl | hq)
         · have := HL.out; rw [← HN.out] at this
           exact (rowAt_drop this (by have := HN.out; omega)).mono HB.out (fun u x _ hu => hu)
         · have : N = a := by have := HN.out; omega
           exact .inl ⟨List.drop_of_length_le (by have := HN.out; omega), _, _, by rw [this, Nat.sub_self]⟩)
        have HL3 := Lib.hid (show ((n :: r).drop a).length ≤ 1000000 by rw [List.length_drop]; have := HN.out; omega)
        have HD1 := Lib.hid (show D + 1 = 13 - ((f : Nat) : Int) by have := HD.out; omega)
        by_cases hac : c = a
        · have HAC := Lib.hid hac
          have hac2 : a = c := hac.symm
          have hac3 : (a : Int) = (c : Int) := by omega
          have m3c : min (c : Int) (N : Int) = (c : Int) := by omega
          clear hac
          go_wp2_with fail
          rw [HD1.out]
          refine (IH.out ((n :: r).drop a) _ wr (by omega) (by have h := HL2.out ⟨g, o, none⟩ (.inr HAC.out); have e1 : c - a = 0 := (by omega); rw [e1] at h; first | exact h | (rw [hac2] at h; rw [hac2]; exact h)) HL3.out).mono ?_
          rintro e w2 ⟨tv, rfl, hnew, hb2⟩
          obtain ⟨ti, ts, q1, n1, c1, rfl⟩ := tyP_sh hnew.now
          have hct := Ux.typN_le f ((n :: r).drop a)
          rw [List.length_drop] at hct
          obtain ⟨ct, hctd⟩ : ∃ ct, ct = (Ux.typN f ((n :: r).drop a)).2 := ⟨_, rfl⟩
          rw [← hctd] at hct ⊢
          have HCT := Lib.hid hctd
          have HCB := Lib.hid (show a + ct ≤ N by have := HN.out; omega)
          have hty := ent_lt EY.out
          have HKN : Hid (Kept TyP (tb + 1) w2 (Value.slice p k d).ownBlock (.agg #[.int .i64 ti, .string ts, .slice q1 n1 c1]) (Ux.typN f ((n :: r).drop a)).1) := Lib.hid (hnew.kept hty (fun g hg => (HO.out.lt g hg).2))
          have HV2 : Hid (Reps (Kept TyP (tb + 1) w2 (Value.slice p k d).ownBlock) vs (Ux.kidsN (Ux.typN f) (n :: r) k).1) := Lib.hid (HV.out.mono fun v x h => h.below hb2)
          have EX2 := Lib.hid (ent_below EX.out hb2)
          have EY2 := Lib.hid (ent_below EY.out hb2)
          have HO2 := Lib.hid (own_kept HO.out hb2)
          have HB2 := Lib.hid (HB.out.trans (hb2.mono HB.out.size))
          clear EX EY HO HV HB hb2 hnew hctd hty
          go_upto_region 10 with fail
          have hba : Below w2.heap.size w2 (w2.alloc (.cells #[.int .i64 ti, .string ts, .slice q1 n1 c1] 30)) := (Below.refl _ _).alloc (Nat.le_refl _) _
          have ZX := Lib.hid (ent_new w2 #[.int .i64 ti, .string ts, .slice q1 n1 c1] 30)
          have EX := Lib.hid (ent_below EX2.out hba)
          have EY := Lib.hid (ent_below EY2.out hba)
          have HO := Lib.hid (own_kept HO2.out hba)
          have HB := Lib.hid (HB2.out.trans (hba.mono HB2.out.size))
          have HKA := Lib.hid (HKN.out.below hba)
          have HV : Hid (Reps (Kept TyP (tb + 1) (w2.alloc (.cells #[.int .i64 ti, .string ts, .slice q1 n1 c1] 30)) (Value.slice p k d).ownBlock) vs (Ux.kidsN (Ux.typN f) (n :: r) k).1) := Lib.hid (HV2.out.mono fun v x h => h.below hba)
          clear hba HKN HV2 EX2 EY2 HO2 HB2
          generalize w2.heap.size = xb at ZX ⊢
          generalize w2.alloc (.cells #[.int .i64 ti, .string ts, .slice q1 n1 c1] 30) = w3 at ZX EX EY HO HB HKA HV ⊢
          have y2 := ent_cell EY.out 2 (.slice p k d) rfl
          have z0 := ent_cell ZX.out 0 _ rfl
          have z1 := ent_cell ZX.out 1 _ rfl
          have z2 := ent_cell ZX.out 2 _ rfl
          have hM4 := HM4.out
          go_wp2_with (at_builtin; refine wpList_append_loc _ rfl (.tmp 60) (.tmp 62) 28 rfl (tb + 1) 30 i0 _ 3 48 Tryd.underlying28 I.out I0.out I1.out I2.out rfl (by decide) _ k _ rfl (HO.out.alloc _) ⟨w3.heap.size, 0, none⟩ 1 1 [.int .i64 ti, .string ts, .slice q1 n1 c1] rfl (by decide) rfl ?c1 ?c2 ?c3 ?c4 ?c5 ?_)
          case c1 => exact fun j u h => three_cells w3 _ _ _ _ j u h
          case c2 => simp [Value.oneCell']
          case c3 => unfold maxLen; omega
          case c4 => omega
          case c5 => have := ent_lt EY.out; simp; omega
          intro v' w' h1 h2 h3
          have hty := ent_lt EY.out
          have hby : Below w3.heap.size w3 (w3.alloc (.cells #[.int .i64 ti, .string ts, .slice q1 n1 c1] 30)) := (Below.refl _ _).alloc (Nat.le_refl _) _
          have hbw : Below w.heap.size w w' := (HB.out.trans (hby.mono HB.out.size)).grown h2 (by have := HB.out.size; simp; omega) (fun j hj => by have := (HO.out.lt j hj).1; omega)
          have hey : w'.heap[tb]? = some (.cells #[.int .i64 (-1), .string ⟨NM.toArray⟩, .slice p k d] 30 (0, 0)) :=
           (h2.block tb (by simp; omega) (fun e => by have := (HO.out.lt _ e.symm).1; omega)).trans (ent_below EY.out hby)
          have hex : w'.heap[w.heap.size]? = some (.cells #[.int .i64 0, .string ⟨#[]⟩, .slice none 0 0] 30 (0, 0)) :=
           (h2.block w.heap.size (by simp; omega) (fun e => by have := (HO.out.lt _ e.symm).1; omega)).trans (ent_below EX.out hby)
          have hkall : ∀ {v : Value} {x : Ux.Ty}, Kept TyP (tb + 1) w3 (Value.slice p k d).ownBlock v x → Kept TyP (tb + 1) w' v'.ownBlock v x := fun h =>
           (h.below hby).step h2.size (fun b hb hne => h2.block b hb (fun e => hne e.symm)) (h3.imp id fun h g hg => by have := h g hg; simp at this ⊢; omega)
          obtain ⟨p7, d7, rfl⟩ := own_slice h1
          have hne : (Value.slice p7 (k + 1) d7).ownBlock ≠ some tb := fun e => by have := (h1.lt _ e).1; omega
          have hkset : ∀ {v : Value} {x : Ux.Ty}, Kept TyP (tb + 1) w' (Value.slice p7 (k + 1) d7).ownBlock v x → Kept TyP (tb + 1) (w'.setCell ⟨tb, 2, none⟩ (.slice p7 (k + 1) d7)) (Value.slice p7 (k + 1) d7).ownBlock v x := fun h =>
           h.since (by simp [World.setCell]) (fun b hb _ _ => Below.heap_setCell w' ⟨tb, 2, none⟩ (.slice p7 (k + 1) d7) b (by dsimp only; omega)) (.inl rfl)
          have hkk : (Ux.kidsN (Ux.typN f) (n :: r) (k + 1)).1 = (Ux.kidsN (Ux.typN f) (n :: r) k).1 ++ [(Ux.typN f ((n :: r).drop a)).1] := by rw [Ux.kidsN, ← HA.out]
          have HVn := Lib.hid (Reps.snoc (hkset (hkall HKA.out)) (HV.out.mono fun v x h => hkset (hkall h)))
          rw [← hkk] at HVn
          clear hkk
          have HEX := Lib.hid (ent_other hex tb 2 (.slice p7 (k + 1) d7) (by omega))
          have HEY := Lib.hid (show (w'.setCell ⟨tb, 2, none⟩ (.slice p7 (k + 1) d7)).heap[tb]? = some (.cells #[.int .i64 (-1), .string ⟨NM.toArray⟩, .slice p7 (k + 1) d7] 30 (0, 0)) from ent_put3 _ hey 2 _ rfl)
          have HO2 : Hid ((w'.setCell ⟨tb, 2, none⟩ (.slice p7 (k + 1) d7)).ownsRow (tb + 1) 30 3 (.slice p7 (k + 1) d7) (k + 1) (cellsOf (vs ++ [.agg #[.int .i64 ti, .string ts, .slice q1 n1 c1]]))) := Lib.hid (by
           rw [cells_three]
           exact own_same h1 fun b hb => Below.heap_setCell w' ⟨tb, 2, none⟩ (.slice p7 (k + 1) d7) b (fun e => hne (by rw [hb, e])))
          have HBn := Lib.hid (hbw.setCell (p := ⟨tb, 2, none⟩) (by dsimp only; omega) (.slice p7 (k + 1) d7))
          have HCn : Hid (∀ v ∈ vs ++ [.agg #[.int .i64 ti, .string ts, .slice q1 n1 c1]], v.cells.size = 3) := Lib.hid (by
           intro v hv
           rcases List.mem_append.1 hv with h | h
           · exact HC.out v h
           · rw [List.mem_singleton.1 h]; rfl)
          have y2b := ent_cell hey 2 (.slice p k d) rfl
          have yfb := ent_free hey 2
          have hac3 := HCB.out
          clear h1 h2 h3 hbw hex hey hne y2 z0 z1 z2 hby hkall hkset ZX HKA HV EX EY HO HB
          go_wp2_with fail
          clear y2b yfb
          exact ⟨⟨k + 1, a + ct, p7, d7, vs ++ [.agg #[.int .i64 ti, .string ts, .slice q1 n1 c1]], by go_num, by omega, by go_num, Lib.hid (by rw [Ux.kidsN, ← HA.out, ← HCT.out]), HEX, HEY, HO2, HVn, HCn, HBn⟩, by simp [intOf]; omega⟩
        · have hac2 : ¬ (c : Int) = (a : Int) := by omega
          go_wp2_with fail
          rw [HD1.out]
          refine (IH.out _ _ wr (by omega) (HL2.out _ (.inl rfl)) HL3.out).mono ?_
          rintro e w2 ⟨tv, rfl, hnew, hb2⟩
          obtain ⟨ti, ts, q1, n1, c1, rfl⟩ := tyP_sh hnew.now
          have hct := Ux.typN_le f ((n :: r).drop a)
          rw [List.length_drop] at hct
          obtain ⟨ct, hctd⟩ : ∃ ct, ct = (Ux.typN f ((n :: r).drop a)).2 := ⟨_, rfl⟩
          rw [← hctd] at hct ⊢
          have HCT := Lib.hid hctd
          have HCB := Lib.hid (show a + ct ≤ N by have := HN.out; omega)
          have hty := ent_lt EY.out
          have HKN : Hid (Kept TyP (tb + 1) w2 (Value.slice p k d).ownBlock (.agg #[.int .i64 ti, .string ts, .slice q1 n1 c1]) (Ux.typN f ((n :: r).drop a)).1) := Lib.hid (hnew.kept hty (fun g hg => (HO.out.lt g hg).2))
          have HV2 : Hid (Reps (Kept TyP (tb + 1) w2 (Value.slice p k d).ownBlock) vs (Ux.kidsN (Ux.typN f) (n :: r) k).1) := Lib.hid (HV.out.mono fun v x h => h.below hb2)
          have EX2 := Lib.hid (ent_below EX.out hb2)
          have EY2 := Lib.hid (ent_below EY.out hb2)
          have HO2 := Lib.hid (own_kept HO.out hb2)
          have HB2 := Lib.hid (HB.out.trans (hb2.mono HB.out.size))
          clear EX EY HO HV HB hb2 hnew hctd hty
          go_upto_region 10 with fail
          have hba : Below w2.heap.size w2 (w2.alloc (.cells #[.int .i64 ti, .string ts, .slice q1 n1 c1] 30)) := (Below.refl _ _).alloc (Nat.le_refl _) _
          have ZX := Lib.hid (ent_new w2 #[.int .i64 ti, .string ts, .slice q1 n1 c1] 30)
          have EX := Lib.hid (ent_below EX2.out hba)
          have EY := Lib.hid (ent_below EY2.out hba)
          have HO := Lib.hid (own_kept HO2.out hba)
          have HB := Lib.hid (HB2.out.trans (hba.mono HB2.out.size))
          have HKA := Lib.hid (HKN.out.below hba)
          have HV : Hid (Reps (Kept TyP (tb + 1) (w2.alloc (.cells #[.int .i64 ti, .string ts, .slice q1 n1 c1] 30)) (Value.slice p k d).ownBlock) vs (Ux.kidsN (Ux.typN f) (n :: r) k).1) := Lib.hid (HV2.out.mono fun v x h => h.below hba)
          clear hba HKN HV2 EX2 EY2 HO2 HB2
          generalize w2.heap.size = xb at ZX ⊢
          generalize w2.alloc (.cells #[.int .i64 ti, .string ts, .slice q1 n1 c1] 30) = w3 at ZX EX EY HO HB HKA HV ⊢
          have y2 := ent_cell EY.out 2 (.slice p k d) rfl
          have z0 := ent_cell ZX.out 0 _ rfl
          have z1 := ent_cell ZX.out 1 _ rfl
          have z2 := ent_cell ZX.out 2 _ rfl
          have hM4 := HM4.out
          go_wp2_with (at_builtin; refine wpList_append_loc _ rfl (.tmp 60) (.tmp 62) 28 rfl (tb + 1) 30 i0 _ 3 48 Tryd.underlying28 I.out I0.out I1.out I2.out rfl (by decide) _ k _ rfl (HO.out.alloc _) ⟨w3.heap.size, 0, none⟩ 1 1 [.int .i64 ti, .string ts, .slice q1 n1 c1] rfl (by decide) rfl ?c1 ?c2 ?c3 ?c4 ?c5 ?_)
          case c1 => exact fun j u h => three_cells w3 _ _ _ _ j u h
          case c2 => simp [Value.oneCell']
          case c3 => unfold maxLen; omega
          case c4 => omega
          case c5 => have := ent_lt EY.out; simp; omega
          intro v' w' h1 h2 h3
          have hty := ent_lt EY.out
          have hby : Below w3.heap.size w3 (w3.alloc (.cells #[.int .i64 ti, .string ts, .slice q1 n1 c1] 30)) := (Below.refl _ _).alloc (Nat.le_refl _) _
          have hbw : Below w.heap.size w w' := (HB.out.trans (hby.mono HB.out.size)).grown h2 (by have := HB.out.size; simp; omega) (fun j hj => by have := (HO.out.lt j hj).1; omega)
          have hey : w'.heap[tb]? = some (.cells #[.int .i64 (-1), .string ⟨NM.toArray⟩, .slice p k d] 30 (0, 0)) :=
           (h2.block tb (by simp; omega) (fun e => by have := (HO.out.lt _ e.symm).1; omega)).trans (ent_below EY.out hby)
          have hex : w'.heap[w.heap.size]? = some (.cells #[.int .i64 0, .string ⟨#[]⟩, .slice none 0 0] 30 (0, 0)) :=
           (h2.block w.heap.size (by simp; omega) (fun e => by have := (HO.out.lt _ e.symm).1; omega)).trans (ent_below EX.out hby)
          have hkall : ∀ {v : Value} {x : Ux.Ty}, Kept TyP (tb + 1) w3 (Value.slice p k d).ownBlock v x → Kept TyP (tb + 1) w' v'.ownBlock v x := fun h =>
           (h.below hby).step h2.size (fun b hb hne => h2.block b hb (fun e => hne e.symm)) (h3.imp id fun h g hg => by have := h g hg; simp at this ⊢; omega)
          obtain ⟨p7, d7, rfl⟩ := own_slice h1
          have hne : (Value.slice p7 (k + 1) d7).ownBlock ≠ some tb := fun e => by have := (h1.lt _ e).1; omega
          have hkset : ∀ {v : Value} {x : Ux.Ty}, Kept TyP (tb + 1) w' (Value.slice p7 (k + 1) d7).ownBlock v x → Kept TyP (tb + 1) (w'.setCell ⟨tb, 2, none⟩ (.slice p7 (k + 1) d7)) (Value.slice p7 (k + 1) d7).ownBlock v x := fun h =>
           h.since (by simp [World.setCell]) (fun b hb _ _ => Below.heap_setCell w' ⟨tb, 2, none⟩ (.slice p7 (k + 1) d7) b (by dsimp only; omega)) (.inl rfl)
          have hkk : (Ux.kidsN (Ux.typN f) (n :: r) (k + 1)).1 = (Ux.kidsN (Ux.typN f) (n :: r) k).1 ++ [(Ux.typN f ((n :: r).drop a)).1] := by rw [Ux.kidsN, ← HA.out]
          have HVn := Lib.hid (Reps.snoc (hkset (hkall HKA.out)) (HV.out.mono fun v x h => hkset (hkall h)))
          rw [← hkk] at HVn
          clear hkk
          have HEX := Lib.hid (ent_other hex tb 2 (.slice p7 (k + 1) d7) (by omega))
          have HEY := Lib.hid (show (w'.setCell ⟨tb, 2, none⟩ (.slice p7 (k + 1) d7)).heap[tb]? = some (.cells #[.int .i64 (-1), .string ⟨NM.toArray⟩, .slice p7 (k + 1) d7] 30 (0, 0)) from ent_put3 _ hey 2 _ rfl)
          have HO2 : Hid ((w'.setCell ⟨tb, 2, none⟩ (.slice p7 (k + 1) d7)).ownsRow (tb + 1) 30 3 (.slice p7 (k + 1) d7) (k + 1) (cellsOf (vs ++ [.agg #[.int .i64 ti, .string ts, .slice q1 n1 c1]]))) := Lib.hid (by
           rw [cells_three]
           exact own_same h1 fun b hb => Below.heap_setCell w' ⟨tb, 2, none⟩ (.slice p7 (k + 1) d7) b (fun e => hne (by rw [hb, e])))
          have HBn := Lib.hid (hbw.setCell (p := ⟨tb, 2, none⟩) (by dsimp only; omega) (.slice p7 (k + 1) d7))
          have HCn : Hid (∀ v ∈ vs ++ [.agg #[.int .i64 ti, .string ts, .slice q1 n1 c1]], v.cells.size = 3) := Lib.hid (by
           intro v hv
           rcases List.mem_append.1 hv with h | h
           · exact HC.out v h
           · rw [List.mem_singleton.1 h]; rfl)
          have y2b := ent_cell hey 2 (.slice p k d) rfl
          have yfb := ent_free hey 2
          have hac3 := HCB.out
          clear h1 h2 h3 hbw hex hey hne y2 z0 z1 z2 hby hkall hkset ZX HKA HV EX EY HO HB
          go_wp2_with fail
          clear y2b yfb
          exact ⟨⟨k + 1, a + ct, p7, d7, vs ++ [.agg #[.int .i64 ti, .string ts, .slice q1 n1 c1]], by go_num, by omega, by go_num, Lib.hid (by rw [Ux.kidsN, ← HA.out, ← HCT.out]), HEX, HEY, HO2, HVn, HCn, HBn⟩, by simp [intOf]; omega⟩
      · obtain rfl : k = M := by omega
        have htot : R = (.a NM (Ux.kidsN (Ux.typN f) (n :: r) k).1, a) := by
         rw [HE.out, ← HM.out, ← HNM.out, ← HA.out]
        have m3 : min (a : Int) (N : Int) = (a : Int) := by omega
        have hty := ent_lt EY.out
        have hlw : w.heap.size < tb + 1 := by omega
        have y0 := ent_cell EY.out 0 _ rfl
        have y1 := ent_cell EY.out 1 _ rfl
        have y2 := ent_cell EY.out 2 (.slice p k d) rfl
        have ec0 := ent_cell EX.out 0 _ rfl
        have ec1 := ent_cell EX.out 1 _ rfl
        have ec2 := ent_cell EX.out 2 _ rfl
        have efree := ent_free EX.out
        go_wp2_with fail
        have E5 := ent_set3 EX.out (.int .i64 (-1)) (.string ⟨NM.toArray⟩) (.slice p k d)
        have r0 := ent_cell E5 0 _ rfl
        have r1 := ent_cell E5 1 _ rfl
        have r2 := ent_cell E5 2 (.slice p k d) rfl
        have hb := below_set3 HB.out w.heap.size (Nat.le_refl _) (.int .i64 (-1)) (.string ⟨NM.toArray⟩) (.slice p k d)
        refine bodyPost_ret (v := .tuple #[.agg #[.int .i64 (-1), .string ⟨NM.toArray⟩, .slice p k d], .int .i64 a]) (by simp [results, Tryd.results11, go_sem, r0, r1, r2]) rfl ?_
        refine ⟨_, by rw [htot], ?_, hb⟩
        rw [htot]
        intro u hu
        have hk : ∀ b, tb + 1 ≤ b → b < wr.heap.size → u.heap[b]? = wr.heap[b]? := fun b hb1 hb2 => by
         have e1 := hu b (by omega) (by simpa [World.setCell] using hb2)
         refine e1.trans ?_
         simp only [Below.heap_setCell _ ⟨w.heap.size, _, none⟩ _ b (show b ≠ w.heap.size by omega)]
        exact tyP_a.2 ⟨-1, _, by decide, rfl, row_lo HO.out (Ux.kidsN_len _ _ _).symm HV.out HC.out u hk, own_free HO.out fun b hb => hk b (HO.out.lt b hb).1 (HO.out.lt b hb).2⟩
end Go.Proofs.YtcblppojnailpaaDoor
namespace Go.Proofs.YtcblppojnailpaaDoor
namespace Ux
set_option linter.unusedVariables false
set_option linter.unusedSimpArgs false
theorem dom_of {f : Map} (hf : Fine f) {N : Sub} (hN : Norm f N) {P : Sub → Prop} (hP : ∀ σ, Sol f σ ↔ P σ) {V : Nat → Prop} (hV : ∀ σ τ : Sub, (∀ n, V n → σ n = τ n) → P σ → P τ) (n : Nat) (h : f n ≠ none) : V n := by
 refine Classical.byContradiction fun hn => ?_
 obtain ⟨t, ht⟩ : ∃ t, f n = some t := by
  cases e : f n with
  | none => exact absurd e h
  | some t => exact ⟨t, rfl⟩
 have hno : n ∉ t.vs := fun hm => no_self hf n (.one ht hm)
 have key : ∀ X : Ty, X = t.app N := fun X => by
  have hs : Sol f (fun m => if m = n then X else N m) := (hP _).2 (hV N _ (fun m hm => by
   show N m = if m = n then X else N m
   rw [if_neg (fun (e : m = n) => hn (by rw [← e]; exact hm))]) ((hP N).1 hN.sol))
  have e1 := hs n t ht
  have e2 : (if n = n then X else N n) = t.app (fun m => if m = n then X else N m) := e1
  rw [if_pos rfl] at e2
  rw [e2]
  exact app_congr t fun m hm => by rw [if_neg (fun (e : m = n) => hno (by rw [← e]; exact hm))]
 have h1 := key (.v 0)
 have h2 := key (.a [] [])
 rw [← h1] at h2
 cases h2
theorem dom_small {f : Map} {M : Nat} (hd : ∀ n, f n ≠ none → n < M) : ∃ S, ∀ n t, f n = some t → t.sz ≤ S := by
 have key : ∀ k, ∃ S, ∀ n t, n < k → f n = some t → t.sz ≤ S := by
  intro k
  induction k with
  | zero => exact ⟨0, fun n t h => by omega⟩
  | succ k ih =>
    obtain ⟨S, hS⟩ := ih
    cases hk : f k with
    | none => exact ⟨S, fun n t h ht => by
       rcases Nat.lt_or_ge n k with h1 | h1
       · exact hS n t h1 ht
       · have : n = k := by omega
         subst this; rw [hk] at ht; cases ht⟩
    | some u => exact ⟨max S u.sz, fun n t h ht => by
       rcases Nat.lt_or_ge n k with h1 | h1
       · have := hS n t h1 ht; omega
       · have : n = k := by omega
         subst this; rw [hk] at ht; injection ht with ht; subst ht; omega⟩
 obtain ⟨S, hS⟩ := key M
 exact ⟨S, fun n t ht => hS n t (hd n (by rw [ht]; simp)) ht⟩
/-- Whether two types are made one rests on their variables alone. -/
theorem one_rests {a b : Ty} {V : Nat → Prop} (ha : ∀ n ∈ a.vs, V n) (hb : ∀ n ∈ b.vs, V n) (σ τ : Sub) (h : ∀ n, V n → σ n = τ n) (e : a.app σ = b.app σ) : a.app τ = b.app τ := by
 rw [← app_congr a fun n hn => h n (ha n hn), ← app_congr b fun n hn => h n (hb n hn)]; exact e
/-- The variables of what is told first: those of the two types. -/
theorem first_dom {f' : Map} {a b : Ty} (h : Made (fun _ => none) f' a b) {V : Nat → Prop} (ha : ∀ n ∈ a.vs, V n) (hb : ∀ n ∈ b.vs, V n) : ∀ n, f' n ≠ none → V n := by
 obtain ⟨N, hN⟩ := h.1.norm
 exact dom_of h.1 hN (P := fun σ => Sol (fun _ => none) σ ∧ a.app σ = b.app σ) h.2 (fun σ τ hst hs => ⟨(fun n t ht => by cases ht), one_rests ha hb σ τ hst hs.2⟩)
end Ux
end Go.Proofs.YtcblppojnailpaaDoor
namespace Go.Proofs.YtcblppojnailpaaDoor
namespace Ux
set_option linter.unusedVariables false
set_option linter.unusedSimpArgs false
mutual
def Ty.nms : Ty → List (List UInt8)
 | .v _ => []
 | .a nm xs => nm :: Ty.nmss xs
def Ty.nmss : List Ty → List (List UInt8)
 | [] => []
 | x :: r => Ty.nms x ++ Ty.nmss r
end
theorem nmss_flat : ∀ l : List Ty, Ty.nmss l = l.flatMap Ty.nms
 | [] => by rw [Ty.nmss]; rfl
 | x :: r => by rw [Ty.nmss, nmss_flat r]; rfl
theorem nms_a (nm : List UInt8) (xs : List Ty) : (Ty.a nm xs).nms = nm :: xs.flatMap Ty.nms := by rw [Ty.nms, nmss_flat]
theorem nms_v (n : Nat) : (Ty.v n).nms = [] := by rw [Ty.nms]
/-- All names are short, and not empty. -/
def Plain (t : Ty) : Prop := ∀ nm ∈ t.nms, nm ≠ [] ∧ nm.length ≤ 10
theorem plain_v (n : Nat) : Plain (.v n) := fun nm h => by rw [nms_v] at h; cases h
theorem plain_a {nm : List UInt8} {xs : List Ty} (h1 : nm ≠ [] ∧ nm.length ≤ 10) (h2 : ∀ x ∈ xs, Plain x) : Plain (.a nm xs) := fun m hm => by
 rw [nms_a] at hm
 rcases List.mem_cons.1 hm with rfl | hm
 · exact h1
 · obtain ⟨x, hx, hm⟩ := List.mem_flatMap.1 hm
   exact h2 x hx m hm
theorem plain_in {nm : List UInt8} {xs : List Ty} (h : Plain (.a nm xs)) : (nm ≠ [] ∧ nm.length ≤ 10) ∧ ∀ x ∈ xs, Plain x :=
 ⟨h nm (by rw [nms_a]; simp), fun x hx m hm => h m (by rw [nms_a]; exact List.mem_cons_of_mem _ (List.mem_flatMap.2 ⟨x, hx, hm⟩))⟩
theorem plain_app {σ : Sub} : ∀ {t : Ty}, Plain t → (∀ n ∈ t.vs, Plain (σ n)) → Plain (t.app σ) := by
 intro t
 induction t using Ty.ind with
 | hv n => intro _ h; rw [app_v]; exact h n (by rw [vs_v]; simp)
 | ha nm xs ih =>
   intro h1 h2
   rw [app_a]
   refine plain_a (plain_in h1).1 fun y hy => ?_
   obtain ⟨x, hx, rfl⟩ := List.mem_map.1 hy
   exact ih x hx ((plain_in h1).2 x hx) fun n hn => h2 n (by rw [vs_a]; exact List.mem_flatMap.2 ⟨x, hx, hn⟩)
theorem app_inj {σ τ : Sub} : ∀ {t : Ty}, t.app σ = t.app τ → ∀ n ∈ t.vs, σ n = τ n := by
 intro t
 induction t using Ty.ind with
 | hv n => intro h m hm; rw [vs_v] at hm; simp at hm; subst hm; rwa [app_v, app_v] at h
 | ha nm xs ih =>
   intro h n hn
   rw [app_a, app_a] at h
   injection h with _ h
   rw [vs_a] at hn
   obtain ⟨x, hx, hn⟩ := List.mem_flatMap.1 hn
   have : ∀ l : List Ty, l.map (Ty.app σ) = l.map (Ty.app τ) → ∀ x ∈ l, x.app σ = x.app τ := by
    intro l
    induction l with
    | nil => intro _ x hx; cases hx
    | cons y r ihr =>
      intro h x hx
      simp only [List.map_cons, List.cons.injEq] at h
      rcases List.mem_cons.1 hx with rfl | hx
      · exact h.1
      · exact ihr h.2 x hx
   exact ih x hx (this xs h x hx) n hn
/-- The variables of what is made: those that matter. -/
theorem norm_vs {f : Map} (hf : Fine f) {N : Sub} (hN : Norm f N) {P : Sub → Prop} (hP : ∀ σ, Sol f σ ↔ P σ) {V : Nat → Prop} (hV : ∀ σ τ : Sub, (∀ n, V n → σ n = τ n) → P σ → P τ) {n : Nat} (hn : V n) : ∀ m ∈ (N n).vs, V m := by
 intro m hm
 refine Classical.byContradiction fun hno => ?_
 have key : ∀ X : Ty, X = N m := fun X => by
  have hs : Sol f (fun k => if k = m then X else N k) := (hP _).2 (hV N _ (fun k hk => by
   show N k = if k = m then X else N k
   rw [if_neg (fun (e : k = m) => hno (by rw [← e]; exact hk))]) ((hP N).1 hN.sol))
  have e1 := hN.most hf hs n
  have e2 := hN.most hf hN.sol n
  have e3 : (if n = m then X else N n) = (N n).app (fun k => if k = m then X else N k) := e1
  rw [if_neg (fun (e : n = m) => hno (by rw [← e]; exact hn))] at e3
  have e4 := app_inj (e3.symm.trans e2) m hm
  have e5 : (if m = m then X else N m) = N m := e4
  rwa [if_pos rfl] at e5
 have h1 := key (.v 0)
 have h2 := key (.a [] [])
 rw [← h1] at h2
 cases h2
theorem text_len : ∀ {t : Ty}, Plain t → (∀ n ∈ t.vs, n ≤ 9000000000000000000) → (textT t).length + 1 ≤ 40 * t.sz := by
 intro t
 induction t using Ty.ind with
 | hv n =>
   intro _ h
   have hn := h n (by rw [vs_v]; simp)
   have := Lib.itoa_length_le (n : Int) (by omega) (by omega)
   rw [textT_v]
   have := sz_pos (.v n)
   simp; omega
 | ha nm xs ih =>
   intro h1 h2
   have hnm := (plain_in h1).1.2
   have key : ∀ l : List Ty, (∀ x ∈ l, x ∈ xs) → (textR l).length ≤ 40 * (l.map Ty.sz).sum + 1 := by
    intro l
    induction l with
    | nil => intro _; rw [textR_nil]; simp
    | cons x r ihr =>
      intro hx
      have e1 := ih x (hx x (by simp)) ((plain_in h1).2 x (hx x (by simp))) (fun n hn => h2 n (by rw [vs_a]; exact List.mem_flatMap.2 ⟨x, hx x (by simp), hn⟩))
      have e2 := ihr fun y hy => hx y (by simp [hy])
      have e3 := sz_pos x
      rw [textR_cons]
      simp only [List.length_cons, List.length_append, List.map_cons, List.sum_cons]
      omega
   rw [sz_a]
   cases xs with
   | nil => rw [textT_nil]; simp; omega
   | cons x r =>
     have e := key (x :: r) fun y hy => hy
     rw [textT_cons]
     simp only [List.length_cons, List.length_append] at e ⊢
     omega
theorem text_ne {t : Ty} (h : Plain t) : textT t ≠ [] := by
 cases t with
 | v n => rw [textT_v]; simp
 | a nm xs =>
   cases xs with
   | nil => rw [textT_nil]; exact (plain_in h).1.1
   | cons x r => rw [textT_cons]; simp
theorem names_plain (k : Nat) : nameOf k ≠ [] ∧ (nameOf k).length ≤ 10 := by
 unfold nameOf
 split
 · decide
 · split
   · decide
   · split <;> decide
theorem typN_plain : ∀ (f : Nat) (l : List Nod), Plain (typN f l).1 := by
 intro f
 induction f with
 | zero => intro l; exact plain_v 0
 | succ f ih =>
   intro l
   cases l with
   | nil => rw [typN_nil]; exact plain_v 0
   | cons n r =>
     by_cases h : 0 ≤ n.var
     · rw [typN_var _ _ _ h]; exact plain_v _
     · rw [typN_a _ _ _ h]
       refine plain_a (names_plain _) fun x hx => ?_
       obtain ⟨m, rfl⟩ := kidsN_mem _ _ x hx
       exact ih m
end Ux
end Go.Proofs.YtcblppojnailpaaDoor
namespace Go.Proofs.YtcblppojnailpaaDoor
open Go Go.RowKit
set_option linter.unusedVariables false
set_option linter.unusedSimpArgs false
/-- A type stays while but a map's block changes. -/
theorem tyP_chg {w w' : World} {sb : Nat} (hm : ∃ es k, w.heap[sb]? = some (.map es k)) (hc : Chg (· = sb) w w') {v : Value} {t : Ux.Ty} (h : TyP w v t) : TyP w' v t := by
 obtain ⟨U, h1, _, h3⟩ := tyP_Q t v h
 refine tyQ_P t v (tyQ_keep h1 fun x hx => ?_)
 obtain ⟨cs, T, e⟩ := h3 x hx
 refine hc.block _ (ent_lt e) fun e2 => ?_
 obtain ⟨es, k, e3⟩ := hm
 rw [e2, e3] at e; cases e
theorem SubAt.p {Q : LKey → Prop} {w : World} {b : Nat} {f : Ux.Map} (h : SubAt Q w b f) : SubP w b f := by
 obtain ⟨L, h1, h2⟩ := h
 exact ⟨L, h1, fun n => ⟨(h2 n).1, fun t ht => by obtain ⟨v, a, c⟩ := (h2 n).2 t ht; exact ⟨v, a, tyQ_P t v c⟩⟩⟩
theorem SubP.map {w : World} {b : Nat} {f : Ux.Map} (h : SubP w b f) : ∃ es k, w.heap[b]? = some (.map es k) := by obtain ⟨L, h1, _⟩ := h; exact h1.obj
theorem sub_new (Q : LKey → Prop) (w : World) : SubAt Q (w.alloc (.map #[] 0)) w.heap.size (fun _ => none) :=
 ⟨[], MapK.made w, fun n => ⟨fun _ => rfl, fun t ht => by cases ht⟩⟩
theorem sub_none {Q Q' : LKey → Prop} {w : World} {b : Nat} (h : SubAt Q w b (fun _ => none)) : SubAt Q' w b (fun _ => none) := by
 obtain ⟨L, h1, h2⟩ := h
 exact ⟨L, h1, fun n => ⟨(h2 n).1, fun t ht => by cases ht⟩⟩
theorem fine_none : Ux.Fine (fun _ => none) := Ux.Both.nil.fine
/-- What the first Unify answers. -/
def Uni1 (sb : Nat) (ta tb : Ux.Ty) (w : World) (e : Ending) (w' : World) : Prop :=
 Chg (· = sb) w w' ∧ ((e = .returned (.int .i64 0) ∧ ∃ f', Ux.Made (fun _ => none) f' ta tb ∧ SubP w' sb f' ∧ ∃ U' : List LKey, SubAt (· ∈ U') w' sb f' ∧ llen U' ≤ 2 * (ta.sz + tb.sz) ∧ ∀ x ∈ U', x.1 < w'.heap.size ∧ x.1 ≠ sb) ∨ (e = .returned (.int .i64 5) ∧ Ux.Never (fun _ => none) ta tb ∧ SubAt (fun _ => False) w' sb (fun _ => none)))
theorem unify1_any (sb : Nat) (ta tb : Ux.Ty) (va vB : Value) (w : World) (hs : SubAt (fun _ => False) w sb (fun _ => none)) (hta : TyP w va ta) (htb : TyP w vB tb) (hfew : ta.sz + tb.sz ≤ 40000) :
 Calls Tryd.prog 13 #[.map (some sb), va, vB] w (Uni1 sb ta tb w) := by
 obtain ⟨Ua, a1, a2, a3⟩ := tyP_Q ta va hta
 obtain ⟨Ub, b1, b2, b3⟩ := tyP_Q tb vB htb
 have hm := hs.p.map
 refine (sUnify_any (fun _ => none) fine_none sb (Ua ++ Ub) ta tb va vB w (sub_none hs) (fun x hx => ?_) (fun n h => absurd rfl h) (tyQ_more a1 fun x hx => ⟨List.mem_append.2 (.inl hx), rfl⟩) (tyQ_more b1 fun x hx => ⟨List.mem_append.2 (.inr hx), rfl⟩) (by rw [llen_app]; omega)).mono ?_
 · have hcs : ∃ cs T, w.heap[x.1]? = some (.cells cs T (0, 0)) := (List.mem_append.1 hx).elim (a3 x) (b3 x)
   obtain ⟨cs, T, e⟩ := hcs
   refine ⟨ent_lt e, fun e2 => ?_⟩
   obtain ⟨es, k, e3⟩ := hm
   rw [e2, e3] at e; cases e
 · rintro e w' ⟨hc, ⟨rfl, f', U', h1, h2, h3, h4, h5⟩ | ⟨rfl, h2, h3⟩⟩
   · exact ⟨hc, .inl ⟨rfl, f', ⟨h1, h2⟩, h3.p, U', h3, by rw [llen_app] at h4; omega, h5⟩⟩
   · exact ⟨hc, .inr ⟨rfl, fun σ hσ e => h2 σ ⟨hσ, e⟩, sub_none h3⟩⟩
/-- Types as the laws have them. -/
structure OkT (t : Ux.Ty) : Prop where
 plain : Ux.Plain t
 vs : ∀ n ∈ t.vs, n < 1000000
 sz : t.sz ≤ 10000000000
theorem OkT.low {t : Ux.Ty} (h : OkT t) : Low t := fun n hn => by have := h.vs n hn; omega
theorem OkT.len {t : Ux.Ty} (h : OkT t) : (Ux.textT t).length ≤ 800000000000 := by
 have := Ux.text_len h.plain (fun n hn => by have := h.vs n hn; omega)
 have := h.sz; omega
theorem okT_canon {t : Ux.Ty} (h : OkT t) : OkT (Ux.canon t) := by
 refine ⟨Ux.plain_app h.plain fun n _ => Ux.plain_v _, fun n hn => ?_, by have e : (Ux.canon t).sz = t.sz := Ux.sz_ren _ t; rw [e]; exact h.sz⟩
 obtain ⟨m, hm, hn⟩ := (Ux.vs_app _ n t).1 hn
 rw [Ux.vs_v] at hn
 simp at hn
 subst hn
 have h1 := (Ux.varsT_mem t m).2 hm
 have h2 : (Ux.varsT t).idxOf m < (Ux.varsT t).length := List.idxOf_lt_length_iff.2 h1
 have h3 : (Ux.varsT t).length ≤ 1000000 := nodup_lt (Ux.varsT_nodup t) fun x hx => h.vs x ((Ux.varsT_mem t x).1 hx)
 omega
theorem rtext_ok {t : Ux.Ty} (h : OkT t) (v : Value) (w : World) (ht : TyP w v t) (htab : Lib.TabIs Tryd.prog w "internal/strconv.uint64pow10" .u64 Lib.pow10Tab) :
 Calls Tryd.prog 12 #[v] w fun e w' => e = .returned (.string ⟨(Ux.textT t).toArray⟩) ∧ Below w.heap.size w w' := refText_any t v w ht h.low h.len htab
theorem text_ok {t : Ux.Ty} (h : OkT t) (v : Value) (w : World) (ht : TyP w v t) (htab : Lib.TabIs Tryd.prog w "internal/strconv.uint64pow10" .u64 Lib.pow10Tab) :
 Calls Tryd.prog 22 #[v] w fun e w' => e = .returned (.string ⟨(Ux.textT t).toArray⟩) ∧ Below w.heap.size w w' := text_any t v w ht h.low h.len (Ux.text_ne h.plain) (by have := h.sz; omega) htab
/-- What Apply makes behind the first Unify. -/
theorem apply_ok {f : Ux.Map} (hf : Ux.Fine f) {N : Ux.Sub} (hN : Ux.Norm f N) {sb : Nat} {t : Ux.Ty} {v : Value} {w : World} (hs : SubP w sb f) (ht : TyP w v t) (hd : ∀ n, f n ≠ none → n < 1000000) (ho : OkT (t.app N)) :
 Calls Tryd.prog 16 #[.map (some sb), v] w (fun e w' => ∃ r, e = .returned r ∧ Below w.heap.size w w' ∧ TyP w' r (t.app N)) :=
 sApply_any f hf N hN sb t v w hs ht hd (Ux.dom_small hd) (by have := ho.sz; omega)
theorem typN_ok (f : Nat) {l : List Ux.Nod} (h : l.length ≤ 1000) : OkT (Ux.typN f l).1 :=
 ⟨Ux.typN_plain f l, fun n hn => by have := Ux.typN_vs f l n hn; omega, by have h1 := Ux.typN_sz f l; have h2 := Ux.typN_le f l; omega⟩
theorem made_dom {f : Ux.Map} {a b : Ux.Ty} (h : Ux.Made (fun _ => none) f a b) (ha : ∀ n ∈ a.vs, n < 1000000) (hb : ∀ n ∈ b.vs, n < 1000000) : ∀ n, f n ≠ none → n < 1000000 := Ux.first_dom h (V := fun n => n < 1000000) ha hb
end Go.Proofs.YtcblppojnailpaaDoor
namespace Go.Proofs.YtcblppojnailpaaDoor
namespace Ux
set_option linter.unusedVariables false
set_option linter.unusedSimpArgs false
open Classical in
mutual
/-- A variable wherever T stood. -/
noncomputable def Ty.rpl (T : Ty) : Ty → Ty
 | .v n => if Ty.v n = T then .v 0 else .v n
 | .a nm xs => if Ty.a nm xs = T then .v 0 else .a nm (Ty.rpls T xs)
noncomputable def Ty.rpls (T : Ty) : List Ty → List Ty
 | [] => []
 | x :: r => Ty.rpl T x :: Ty.rpls T r
end
theorem rpls_map (T : Ty) : ∀ l : List Ty, Ty.rpls T l = l.map (Ty.rpl T)
 | [] => by rw [Ty.rpls]; rfl
 | x :: r => by rw [Ty.rpls, rpls_map T r]; rfl
theorem rpl_self (T : Ty) : Ty.rpl T T = .v 0 := by
 cases T with
 | v n => rw [Ty.rpl, if_pos rfl]
 | a nm xs => rw [Ty.rpl, if_pos rfl]
theorem rpl_a {T : Ty} {nm : List UInt8} {xs : List Ty} (h : Ty.a nm xs ≠ T) : Ty.rpl T (.a nm xs) = .a nm (xs.map (Ty.rpl T)) := by rw [Ty.rpl, if_neg h, rpls_map]
theorem rpl_app {P : Ty → Prop} (hP : ∀ nm xs, P (.a nm xs) → ∀ x ∈ xs, P x) {N : Sub} {T : Ty} (hT : ∀ nm xs, P (.a nm xs) → (Ty.a nm xs).app N ≠ T) : ∀ t : Ty, P t → Ty.rpl T (t.app N) = t.app fun m => Ty.rpl T (N m) := by
 intro t
 induction t using Ty.ind with
 | hv n => intro _; rw [app_v, app_v]
 | ha nm xs ih =>
   intro h
   have h1 := hT nm xs h
   rw [app_a] at h1 ⊢
   rw [rpl_a h1, app_a, List.map_map]
   congr 1
   exact List.map_congr_left fun x hx => ih x hx (hP nm xs h x hx)
/-- What makes all of E one. -/
def AllOne (E : List (Ty × Ty)) (σ : Sub) : Prop := ∀ p ∈ E, p.1.app σ = p.2.app σ
theorem range_of {E : List (Ty × Ty)} {N : Sub} (hs : AllOne E N) (hm : ∀ σ, AllOne E σ → ∀ n, σ n = (N n).app σ) {P : Ty → Prop} (hP : ∀ nm xs, P (.a nm xs) → ∀ x ∈ xs, P x) (hE : ∀ p ∈ E, P p.1 ∧ P p.2) {n : Nat} {nm : List UInt8} {xs : List Ty} (hn : N n = .a nm xs) : ∃ nm' ys, P (.a nm' ys) ∧ (Ty.a nm' ys).app N = N n := by
 refine Classical.byContradiction fun hno => ?_
 have hT : ∀ nm' ys, P (.a nm' ys) → (Ty.a nm' ys).app N ≠ N n := fun nm' ys h e => hno ⟨nm', ys, h, e⟩
 have hσ : AllOne E fun m => Ty.rpl (N n) (N m) := fun p hp => by
  rw [← rpl_app hP hT _ (hE p hp).1, ← rpl_app hP hT _ (hE p hp).2, hs p hp]
 have h := hm _ hσ n
 simp only [rpl_self] at h
 rw [hn, app_a] at h
 cases h
theorem rgsum_mul {xs : List Ty} {g : Ty → Nat} {c : Nat} (h : ∀ x ∈ xs, g x ≤ x.sz * c) : (xs.map g).sum ≤ (xs.map Ty.sz).sum * c := by
 induction xs with
 | nil => simp
 | cons x r ih =>
   simp only [List.map_cons, List.sum_cons]
   have h1 := h x (by simp)
   have h2 := ih fun y hy => h y (by simp [hy])
   rw [Nat.add_mul]; omega
theorem rgapp_sz {σ : Sub} {c : Nat} (hc : 1 ≤ c) : ∀ t : Ty, (∀ n ∈ t.vs, (σ n).sz ≤ c) → (t.app σ).sz ≤ t.sz * c := by
 intro t
 induction t using Ty.ind with
 | hv n => intro h; rw [app_v, show (Ty.v n).sz = 1 by rw [Ty.sz]]; have := h n (by rw [vs_v]; simp); omega
 | ha nm xs ih =>
   intro h
   rw [app_a, sz_a, sz_a, List.map_map, Nat.add_mul]
   have h1 := rgsum_mul (xs := xs) (g := Ty.sz ∘ Ty.app σ) (c := c) fun x hx => ih x hx fun n hn => h n (by rw [vs_a]; exact List.mem_flatMap.2 ⟨x, hx, hn⟩)
   omega
theorem rgsz_in {σ : Sub} : ∀ t : Ty, ∀ n ∈ t.vs, (σ n).sz ≤ (t.app σ).sz := by
 intro t
 induction t using Ty.ind with
 | hv m => intro n hn; rw [vs_v] at hn; simp at hn; subst hn; rw [app_v]; exact Nat.le_refl _
 | ha nm xs ih =>
   intro n hn
   rw [vs_a] at hn
   obtain ⟨x, hx, hn⟩ := List.mem_flatMap.1 hn
   have h1 := ih x hx n hn
   rw [app_a, sz_a, List.map_map]
   have h2 := sum_ge (Ty.sz ∘ Ty.app σ) hx
   simp only [Function.comp] at h2
   show _ ≤ 1 + (xs.map (Ty.sz ∘ Ty.app σ)).sum
   omega
theorem rgfilter_lt {p q : Nat → Bool} : ∀ {l : List Nat} {n : Nat}, (∀ m, p m = true → q m = true) → n ∈ l → q n = true → p n = false → (l.filter p).length < (l.filter q).length
 | [], n, _, h, _, _ => by cases h
 | x :: r, n, hpq, h, hq, hp => by
   have hle : (r.filter p).length ≤ (r.filter q).length := by
    clear h
    induction r with
    | nil => simp
    | cons y r ih =>
      rw [List.filter_cons, List.filter_cons]
      by_cases h1 : p y = true
      · rw [if_pos h1, if_pos (hpq y h1)]; simpa using ih
      · rw [if_neg h1]; split
        · simp; omega
        · exact ih
   rw [List.filter_cons, List.filter_cons]
   rcases List.mem_cons.1 h with rfl | h
   · rw [if_neg (by rw [hp]; simp), if_pos hq]; simp; omega
   · have ih := rgfilter_lt hpq h hq hp
     by_cases h1 : p x = true
     · rw [if_pos h1, if_pos (hpq x h1)]; simpa using ih
     · rw [if_neg h1]; split
       · simp; omega
       · exact ih
theorem range_le {E : List (Ty × Ty)} {N : Sub} (hs : AllOne E N) (hm : ∀ σ, AllOne E σ → ∀ n, σ n = (N n).app σ) {S K : Nat} (hS : 1 ≤ S) (hE : ∀ p ∈ E, (p.1.sz ≤ S ∧ ∀ m ∈ p.1.vs, m < K) ∧ (p.2.sz ≤ S ∧ ∀ m ∈ p.2.vs, m < K)) (n : Nat) (hn : n < K) : (N n).sz ≤ S ^ K := by
 have key : ∀ k n, n < K → (N n).sz ≤ k → (N n).sz ≤ S ^ ((List.range K).filter fun m => decide ((N m).sz ≤ (N n).sz)).length := by
  intro k
  induction k with
  | zero => intro n _ h; have := sz_pos (N n); omega
  | succ k ih =>
    intro n hn hk
    cases hc : N n with
    | v m => rw [show (Ty.v m).sz = 1 by rw [Ty.sz]]; exact Nat.pow_pos hS
    | a nm xs =>
      rw [← hc]
      obtain ⟨nm', ys, ⟨hp1, hp2⟩, h2⟩ := range_of hs hm (P := fun t => t.sz ≤ S ∧ ∀ m ∈ t.vs, m < K) (fun nm xs h x hx => ⟨by have h1 := h.1; rw [sz_a] at h1; have := sum_ge Ty.sz hx; omega, fun m hm => h.2 m (by rw [vs_a]; exact List.mem_flatMap.2 ⟨x, hx, hm⟩)⟩) hE hc
      have hlt : ∀ m ∈ (Ty.a nm' ys).vs, (N m).sz < (N n).sz := fun m hm => by
       rw [← h2, app_a, sz_a]
       rw [vs_a] at hm
       obtain ⟨y, hy, hm⟩ := List.mem_flatMap.1 hm
       have h3 := rgsz_in (σ := N) y m hm
       have h4 := sum_ge Ty.sz (List.mem_map.2 ⟨y, hy, rfl⟩ : y.app N ∈ ys.map (Ty.app N))
       omega
      obtain ⟨c, hcnt⟩ : ∃ c, c = ((List.range K).filter fun m => decide ((N m).sz ≤ (N n).sz)).length := ⟨_, rfl⟩
      have hpos : 1 ≤ c := by
       rw [hcnt]
       exact List.length_pos_of_mem (List.mem_filter.2 ⟨List.mem_range.2 hn, by simp⟩)
      have hle : ∀ m ∈ (Ty.a nm' ys).vs, (N m).sz ≤ S ^ (c - 1) := fun m hm => by
       have h5 := ih m (hp2 m hm) (by have := hlt m hm; omega)
       refine Nat.le_trans h5 (Nat.pow_le_pow_right hS ?_)
       have h6 := rgfilter_lt (p := fun q => decide ((N q).sz ≤ (N m).sz)) (q := fun q => decide ((N q).sz ≤ (N n).sz)) (l := List.range K) (n := n) (fun q hq => by have := hlt m hm; simp at hq ⊢; omega) (List.mem_range.2 hn) (by simp) (by have := hlt m hm; simp; omega)
       rw [hcnt]; omega
      rw [← hcnt]
      have h7 := rgapp_sz (Nat.pow_pos hS : 1 ≤ S ^ (c - 1)) (Ty.a nm' ys) hle
      rw [h2] at h7
      refine Nat.le_trans h7 ?_
      refine Nat.le_trans (Nat.mul_le_mul_right _ hp1) ?_
      rw [show S ^ c = S ^ (c - 1 + 1) by congr 1; omega, Nat.pow_succ, Nat.mul_comm]
      exact Nat.le_refl _
 refine Nat.le_trans (key _ n hn (Nat.le_refl _)) (Nat.pow_le_pow_right hS ?_)
 refine Nat.le_trans (List.length_filter_le _ _) ?_
 simp
end Ux
end Go.Proofs.YtcblppojnailpaaDoor
namespace Go.Proofs.YtcblppojnailpaaDoor
open Go Go.RowKit
set_option linter.unusedVariables false
set_option linter.unusedSimpArgs false
set_option maxHeartbeats 4000000 in
set_option maxRecDepth 100000 in
theorem like_same {t : Ux.Ty} (ho : OkT t) (va vB : Value) (w : World) (ha : TyP w va t) (hb : TyP w vB t) (htab : Lib.TabIs Tryd.prog w "internal/strconv.uint64pow10" .u64 Lib.pow10Tab) :
 Calls Tryd.prog 15 #[va, vB] w (fun e w' => e = .returned (.bool true) ∧ Below w.heap.size w w') := by
 obtain ⟨a0, a1, aq, am, ac, rfl⟩ := tyP_sh ha
 obtain ⟨b0, b1, bq, bm, bc, rfl⟩ := tyP_sh hb
 have HA := Lib.hid ha; have HV := Lib.hid hb; have HOK := Lib.hid ho
 have HTB := Lib.hid (fun (w' : World) (hb : Below w.heap.size w w') => (Lib.tabBelow_of_tabIs htab) w' hb)
 obtain ⟨TX, hTX⟩ : ∃ TX, TX = Ux.textT t := ⟨_, rfl⟩
 have HTX := Lib.hid hTX
 clear ha hb ho htab hTX
 go_enter Tryd.func15, Tryd.ntmps15
 have EA := Lib.hid (ent_alloc (ent_new w #[.int .i64 a0, .string a1, .slice aq am ac] 30) (.cells #[.int .i64 b0, .string b1, .slice bq bm bc] 30))
 have EB := Lib.hid (ent_new (w.alloc (.cells #[.int .i64 a0, .string a1, .slice aq am ac] 30)) #[.int .i64 b0, .string b1, .slice bq bm bc] 30)
 rw [show (w.alloc (.cells #[.int .i64 a0, .string a1, .slice aq am ac] 30)).heap.size = w.heap.size + 1 by simp] at EB
 have HB := Lib.hid (show Below w.heap.size w ((w.alloc (.cells #[.int .i64 a0, .string a1, .slice aq am ac] 30)).alloc (.cells #[.int .i64 b0, .string b1, .slice bq bm bc] 30)) from ((Below.refl _ _).alloc (Nat.le_refl _) _).alloc (by simp) _)
 go_upto_region 1 with fail
 generalize (w.alloc (.cells #[.int .i64 a0, .string a1, .slice aq am ac] 30)).alloc (.cells #[.int .i64 b0, .string b1, .slice bq bm bc] 30) = w1 at EA EB HB ⊢
 replace EA : Hid (w1.drew.heap[w.heap.size]? = some (.cells #[.int .i64 a0, .string a1, .slice aq am ac] 30 (0, 0))) := Lib.hid EA.out
 replace EB : Hid (w1.drew.heap[w.heap.size + 1]? = some (.cells #[.int .i64 b0, .string b1, .slice bq bm bc] 30 (0, 0))) := Lib.hid EB.out
 replace HB : Hid (Below w.heap.size w w1.drew) := Lib.hid HB.out.drew
 have HTA := Lib.hid (tyP_below HA.out HB.out)
 have HTV := Lib.hid (tyP_below HV.out HB.out)
 refine wp_region_held_drew (S := fun (u : World) => u.heap[w.heap.size]? = some (.cells #[.int .i64 a0, .string a1, .slice aq am ac] 30 (0, 0)) ∧ u.heap[w.heap.size + 1]? = some (.cells #[.int .i64 b0, .string b1, .slice bq bm bc] 30 (0, 0))) (by kernel_rfl) (⟨EA.out, EB.out⟩) (fun hHeld => ?_)
 generalize w1.drew = wd at EA EB HB HTA HTV hHeld ⊢
 refine wpAnyH_take (i := 0) (v := .agg #[.int .i64 a0, .string a1, .slice aq am ac]) rfl (by kernel_rfl) (by kernel_rfl) (by kernel_rfl) (fun _ _ _ h => h) (Or.inl ⟨by rfl, fun w' hSw => by have h0 := ent_cell hSw.1 0 _ rfl; have h1 := ent_cell hSw.1 1 _ rfl; have h2 := ent_cell hSw.1 2 _ rfl; go_simp⟩) hHeld ?_
 refine wpAnyH_take (i := 2) (v := .agg #[.int .i64 b0, .string b1, .slice bq bm bc]) rfl (by kernel_rfl) (by kernel_rfl) (by kernel_rfl) (fun _ _ _ h => h) (Or.inl ⟨by rfl, fun w' hSw => by have h0 := ent_cell hSw.2 0 _ rfl; have h1 := ent_cell hSw.2 1 _ rfl; have h2 := ent_cell hSw.2 2 _ rfl; go_simp⟩) hHeld ?_
 try simp only [Act.put, List.getElem_toArray, List.getElem_cons_succ, List.getElem_cons_zero, List.setIfInBounds_toArray, List.set_cons_zero, List.set_cons_succ]
 refine wpAnyH_ready (rs := [1]) (by kernel_rfl) (by simp) ?_
 refine AllReadyH.cons rfl (fun K hK => ?_) AllReadyH.nil
 go_simp
 refine (rtext_ok HOK.out _ wd HTA.out (HTB.out wd HB.out)).mono ?_
 rintro e w2 ⟨rfl, hb2⟩
 rw [← HTX.out]
 have EA2 := Lib.hid (ent_below EA.out hb2); have EB2 := Lib.hid (ent_below EB.out hb2)
 have HTV2 := Lib.hid (tyP_below HTV.out hb2)
 have HB2 := Lib.hid (HB.out.trans (hb2.mono HB.out.size))
 clear hb2
 refine hK.out _ _ ⟨EA2.out, EB2.out⟩ (fun hHeld => ?_)
 clear hK K
 refine wpAnyH_ready (rs := [3]) (by kernel_rfl) (by simp) ?_
 refine AllReadyH.cons rfl (fun K hK => ?_) AllReadyH.nil
 go_simp
 refine (rtext_ok HOK.out _ w2 HTV2.out (HTB.out w2 HB2.out)).mono ?_
 rintro e w3 ⟨rfl, hb3⟩
 rw [← HTX.out]
 have EA3 := Lib.hid (ent_below EA2.out hb3); have EB3 := Lib.hid (ent_below EB2.out hb3)
 have HB3 := Lib.hid (HB2.out.trans (hb3.mono HB2.out.size))
 clear hb3
 refine hK.out _ _ ⟨EA3.out, EB3.out⟩ (fun hHeld => ?_)
 clear hK K
 refine wpAnyH_take (i := 4) (v := .bool true) rfl (by kernel_rfl) (by kernel_rfl) (by kernel_rfl) (fun _ _ _ h => h) (Or.inl ⟨by rfl, fun w' hSw => by go_simp⟩) hHeld ?_
 simp only [Act.put, List.getElem_toArray, List.getElem_cons_succ, List.getElem_cons_zero, List.setIfInBounds_toArray, List.set_cons_zero, List.set_cons_succ]
 refine wpAnyH_take (i := 5) (v := .bool true) rfl (by kernel_rfl) (by kernel_rfl) (by kernel_rfl) (fun _ _ _ h => h) (Or.inl ⟨by rfl, fun w' hSw => by go_simp⟩) hHeld ?_
 simp only [Act.put, List.getElem_toArray, List.getElem_cons_succ, List.getElem_cons_zero, List.setIfInBounds_toArray, List.set_cons_zero, List.set_cons_succ]
 refine wpAnyH_done (by kernel_rfl) ?_ _
 go_wp2_with fail
 go_ret
 exact ⟨rfl, HB3.out⟩
end Go.Proofs.YtcblppojnailpaaDoor
namespace Go.Proofs.YtcblppojnailpaaDoor
open Go Go.RowKit
set_option linter.unusedVariables false
set_option linter.unusedSimpArgs false
namespace Ux
theorem allOne_rests {E : List (Ty × Ty)} {V : Nat → Prop} (hE : ∀ p ∈ E, (∀ m ∈ p.1.vs, V m) ∧ ∀ m ∈ p.2.vs, V m) (σ τ : Sub) (h : ∀ n, V n → σ n = τ n) (e : AllOne E σ) : AllOne E τ := fun p hp =>
 one_rests (hE p hp).1 (hE p hp).2 σ τ h (e p hp)
theorem range_plain {E : List (Ty × Ty)} {N : Sub} (hs : AllOne E N) (hm : ∀ σ, AllOne E σ → ∀ n, σ n = (N n).app σ) (hE : ∀ p ∈ E, Plain p.1 ∧ Plain p.2) : ∀ n, Plain (N n) := by
 have key : ∀ k n, (N n).sz ≤ k → Plain (N n) := by
  intro k
  induction k with
  | zero => intro n h; have := sz_pos (N n); omega
  | succ k ih =>
    intro n hk
    cases hc : N n with
    | v m => exact plain_v m
    | a nm xs =>
      obtain ⟨nm', ys, hp, h2⟩ := range_of hs hm (P := Plain) (fun nm xs h => (plain_in h).2) hE hc
      rw [← hc, ← h2]
      refine plain_app hp fun m hmm => ih m ?_
      rw [vs_a] at hmm
      obtain ⟨y, hy, hmm⟩ := List.mem_flatMap.1 hmm
      have h3 := rgsz_in (σ := N) y m hmm
      have h4 := sum_ge Ty.sz (List.mem_map.2 ⟨y, hy, rfl⟩ : y.app N ∈ ys.map (Ty.app N))
      have h5 : 1 + ((ys.map (Ty.app N)).map Ty.sz).sum = (N n).sz := by rw [← h2, app_a, sz_a]
      omega
 exact fun n => key _ n (Nat.le_refl _)
/-- Small types. -/
def Small (S K : Nat) (t : Ty) : Prop := Plain t ∧ t.sz ≤ S ∧ ∀ m ∈ t.vs, m < K
end Ux
theorem okT_all {f : Ux.Map} (hf : Ux.Fine f) {N : Ux.Sub} (hN : Ux.Norm f N) {E : List (Ux.Ty × Ux.Ty)} (hE : ∀ σ, Ux.Sol f σ ↔ Ux.AllOne E σ) {S K : Nat} (hS : 1 ≤ S) (hK : K ≤ 1000000) (hEs : ∀ p ∈ E, Ux.Small S K p.1 ∧ Ux.Small S K p.2) {t : Ux.Ty} (ht : Ux.Plain t ∧ ∀ m ∈ t.vs, m < K) (hb : t.sz * S ^ K ≤ 10000000000) : OkT (t.app N) := by
 have hs : Ux.AllOne E N := (hE N).1 hN.sol
 have hm : ∀ σ, Ux.AllOne E σ → ∀ n, σ n = (N n).app σ := fun σ hσ => hN.most hf ((hE σ).2 hσ)
 refine ⟨Ux.plain_app ht.1 fun n _ => Ux.range_plain hs hm (fun p hp => ⟨(hEs p hp).1.1, (hEs p hp).2.1⟩) n, fun m hm2 => ?_, ?_⟩
 · obtain ⟨n, hn, hm2⟩ := (Ux.vs_app _ m t).1 hm2
   have := Ux.norm_vs hf hN (P := Ux.AllOne E) hE (V := fun n => n < K) (Ux.allOne_rests fun p hp => ⟨(hEs p hp).1.2.2, (hEs p hp).2.2.2⟩) (ht.2 n hn) m hm2
   omega
 · refine Nat.le_trans (Ux.rgapp_sz (Nat.pow_pos hS : 1 ≤ S ^ K) t fun n hn => Ux.range_le hs hm hS (fun p hp => ⟨(hEs p hp).1.2, (hEs p hp).2.2⟩) n (ht.2 n hn)) hb
theorem dom_all {f : Ux.Map} (hf : Ux.Fine f) {N : Ux.Sub} (hN : Ux.Norm f N) {E : List (Ux.Ty × Ux.Ty)} (hE : ∀ σ, Ux.Sol f σ ↔ Ux.AllOne E σ) {S K : Nat} (hK : K ≤ 1000000) (hEs : ∀ p ∈ E, Ux.Small S K p.1 ∧ Ux.Small S K p.2) (n : Nat) (h : f n ≠ none) : n < 1000000 := by
 have := Ux.dom_of hf hN (P := Ux.AllOne E) hE (V := fun n => n < K) (Ux.allOne_rests fun p hp => ⟨(hEs p hp).1.2.2, (hEs p hp).2.2.2⟩) n h
 omega
/-- A substitution in memory, and how many parts its lists have. -/
def SubC (k : Nat) (w : World) (b : Nat) (f : Ux.Map) : Prop := ∃ U : List LKey, SubAt (· ∈ U) w b f ∧ llen U ≤ k ∧ ∀ x ∈ U, ∃ cs T, w.heap[x.1]? = some (.cells cs T (0, 0))
theorem SubC.p {k : Nat} {w : World} {b : Nat} {f : Ux.Map} (h : SubC k w b f) : SubP w b f := by obtain ⟨U, h1, _⟩ := h; exact h1.p
theorem SubC.below {k : Nat} {w w' : World} {b : Nat} {f : Ux.Map} (h : SubC k w b f) (hb : Below w.heap.size w w') : SubC k w' b f := by
 obtain ⟨U, h1, h2, h3⟩ := h
 refine ⟨U, h1.keep (hb.block _ (SubP.lt h1.p)) fun x hx => ?_, h2, fun x hx => ?_⟩
 · obtain ⟨cs, T, e⟩ := h3 x hx; exact hb.block _ (ent_lt e)
 · obtain ⟨cs, T, e⟩ := h3 x hx; exact ⟨cs, T, ent_below e hb⟩
/-- It stays while another's block changes. -/
theorem SubC.chg {k : Nat} {w w' : World} {b sb : Nat} {f : Ux.Map} (h : SubC k w b f) (hm : ∃ es k, w.heap[sb]? = some (.map es k)) (hc : Chg (· = sb) w w') (hn : b ≠ sb) : SubC k w' b f := by
 obtain ⟨U, h1, h2, h3⟩ := h
 have hk : ∀ x ∈ U, w'.heap[x.1]? = w.heap[x.1]? := fun x hx => by
  obtain ⟨cs, T, e⟩ := h3 x hx
  refine hc.block _ (ent_lt e) fun e2 => ?_
  obtain ⟨es, k, e3⟩ := hm
  rw [e2, e3] at e; cases e
 exact ⟨U, h1.keep (hc.block _ (SubP.lt h1.p) hn) hk, h2, fun x hx => by obtain ⟨cs, T, e⟩ := h3 x hx; exact ⟨cs, T, (hk x hx).trans e⟩⟩
theorem llen_filter (p : LKey → Bool) : ∀ U : List LKey, llen (U.filter p) ≤ llen U
 | [] => Nat.le_refl _
 | x :: r => by
   have ih := llen_filter p r
   rw [List.filter_cons]
   split
   · simp only [llen, List.map_cons, List.sum_cons] at ih ⊢; omega
   · simp only [llen, List.map_cons, List.sum_cons] at ih ⊢; omega
open Classical in
theorem sub_cells {U : List LKey} {w : World} {b : Nat} {f : Ux.Map} (h : SubAt (· ∈ U) w b f) : SubC (llen U) w b f := by
 obtain ⟨L, h1, h2⟩ := h
 refine ⟨U.filter fun x => decide (∃ cs T, w.heap[x.1]? = some (.cells cs T (0, 0))), ⟨L, h1, fun n => ⟨(h2 n).1, fun t ht => ?_⟩⟩, llen_filter _ _, fun x hx => by have := (List.mem_filter.1 hx).2; simpa using this⟩
 obtain ⟨v, a, c⟩ := (h2 n).2 t ht
 obtain ⟨V, v1, _, v3⟩ := tyQ_fin t v c
 exact ⟨v, a, tyQ_more v1 fun x hx => ⟨List.mem_filter.2 ⟨(v3 x hx).1, by simpa using (v3 x hx).2⟩, rfl⟩⟩
theorem SubC.new (w : World) : SubC 0 (w.alloc (.map #[] 0)) w.heap.size (fun _ => none) :=
 ⟨[], sub_none (sub_new (fun _ => False) w), Nat.le_refl _, fun x hx => by cases hx⟩
/-- What Unify comes to. -/
def UniR (k : Nat) (f : Ux.Map) (a b : Ux.Ty) (sb : Nat) (w' : World) (er : Int) : Prop :=
 (er = 0 ∧ ∃ f', Ux.Made f f' a b ∧ SubC k w' sb f') ∨ (er = 5 ∧ Ux.Never f a b ∧ SubC k w' sb f)
theorem UniR.sub {k : Nat} {f : Ux.Map} {a b : Ux.Ty} {sb : Nat} {w w' : World} {er : Int} (h : UniR k f a b sb w er) (hk : ∀ g, SubC k w sb g → SubC k w' sb g) : UniR k f a b sb w' er := by
 rcases h with ⟨e, f', h1, h2⟩ | ⟨e, h1, h2⟩
 · exact .inl ⟨e, f', h1, hk _ h2⟩
 · exact .inr ⟨e, h1, hk _ h2⟩
/-- The block of it is a map. -/
theorem UniR.map {k : Nat} {f : Ux.Map} {a b : Ux.Ty} {sb : Nat} {w : World} {er : Int} (h : UniR k f a b sb w er) : ∃ es k, w.heap[sb]? = some (.map es k) := by
 rcases h with ⟨e, f', h1, h2⟩ | ⟨e, h1, h2⟩
 · exact h2.p.map
 · exact h2.p.map
theorem unify2_any (k k' : Nat) (f : Ux.Map) (hf : Ux.Fine f) (hd : ∀ n, f n ≠ none → n < 1000000) (sb : Nat) (a b : Ux.Ty) (va vB : Value) (w : World) (hs : SubC k w sb f) (ha : TyP w va a) (hb : TyP w vB b) (hk : k + 2 * (a.sz + b.sz) ≤ k') (hfew : k' ≤ 100000) :
 Calls Tryd.prog 13 #[.map (some sb), va, vB] w (fun e w' => ∃ er : Int, e = .returned (.int .i64 er) ∧ Chg (· = sb) w w' ∧ UniR k' f a b sb w' er) := by
 have hm := hs.p.map
 obtain ⟨U, s1, s2, s3⟩ := hs
 obtain ⟨Ua, a1, a2, a3⟩ := tyP_Q a va ha
 obtain ⟨Ub, b1, b2, b3⟩ := tyP_Q b vB hb
 have hq : ∀ x ∈ U ++ (Ua ++ Ub), ∃ cs T, w.heap[x.1]? = some (.cells cs T (0, 0)) := fun x hx => (List.mem_append.1 hx).elim (s3 x) fun hx => (List.mem_append.1 hx).elim (a3 x) (b3 x)
 refine (sUnify_any f hf sb (U ++ (Ua ++ Ub)) a b va vB w ?_ (fun x hx => ?_) hd (tyQ_more a1 fun x hx => ⟨List.mem_append.2 (.inr (List.mem_append.2 (.inl hx))), rfl⟩) (tyQ_more b1 fun x hx => ⟨List.mem_append.2 (.inr (List.mem_append.2 (.inr hx))), rfl⟩) (by rw [llen_app, llen_app]; omega)).mono ?_
 · obtain ⟨L, h1, h2⟩ := s1
   exact ⟨L, h1, fun n => ⟨(h2 n).1, fun t ht => by obtain ⟨v, c, d⟩ := (h2 n).2 t ht; exact ⟨v, c, tyQ_more d fun x hx => ⟨List.mem_append.2 (.inl hx), rfl⟩⟩⟩⟩
 · obtain ⟨cs, T, e⟩ := hq x hx
   refine ⟨ent_lt e, fun e2 => ?_⟩
   obtain ⟨es, k, e3⟩ := hm
   rw [e2, e3] at e; cases e
 · rintro e w' ⟨hc, ⟨rfl, f', U', h1, h2, h3, h4, h5⟩ | ⟨rfl, h2, h3⟩⟩
   · refine ⟨0, rfl, hc, .inl ⟨rfl, f', ⟨h1, h2⟩, ?_⟩⟩
     obtain ⟨V, v1, v2, v3⟩ := sub_cells h3
     exact ⟨V, v1, by rw [llen_app, llen_app] at h4; omega, v3⟩
   · refine ⟨5, rfl, hc, .inr ⟨rfl, fun σ hσ e => h2 σ ⟨hσ, e⟩, ?_⟩⟩
     obtain ⟨V, v1, v2, v3⟩ := sub_cells h3
     exact ⟨V, v1, by rw [llen_app, llen_app] at v2; omega, v3⟩
end Go.Proofs.YtcblppojnailpaaDoor
namespace Go.Proofs.YtcblppojnailpaaDoor
open Go Go.RowKit
set_option linter.unusedVariables false
set_option linter.unusedSimpArgs false
namespace Ux
def S19 (t : Ty) : Prop := t.sz ≤ 19
theorem sOk19 : SOk S19 (List.range 6) where
 parts := fun nm xs h x hx => by
  have h1 := sum_ge Ty.sz (List.mem_map.2 ⟨x, hx, rfl⟩ : id x ∈ xs.map id)
  unfold S19 at h ⊢
  rw [sz_a] at h
  rw [List.map_id] at h1
  have : x.sz ≤ (xs.map Ty.sz).sum := h1
  omega
 sz := fun t h => h
 nd := List.nodup_range
 len := by simp
/-- What stands after some pairs. -/
structure PSt (E : List (Ty × Ty)) (f : Map) (L : Pairs) : Prop where
 both : Both f L
 all : ∀ σ, Sol f σ ↔ AllOne E σ
 inv : Inv (List.range 6) L
 tri : Tri S19 L
 small : ∀ p ∈ E, Small 19 6 p.1 ∧ Small 19 6 p.2
theorem PSt.nil : PSt [] (fun _ => none) [] where
 both := Both.nil
 all := fun σ => ⟨fun _ p hp => (by cases hp), fun _ n t h => (by cases h)⟩
 inv := ⟨Both.nil.solved, fun p hp => (by cases hp), fun p hp => (by cases hp)⟩
 tri := Tri.nil _
 small := fun p hp => by cases hp
theorem Small.v6 {t : Ty} (h : Small 19 6 t) : ∀ m ∈ t.vs, m ∈ List.range 6 := fun m hm => List.mem_range.2 (h.2.2 m hm)
theorem PSt.step {E : List (Ty × Ty)} {f : Map} {L : Pairs} (h : PSt E f L) {a b : Ty} (ha : Small 19 6 a) (hb : Small 19 6 b) :
 ∃ k r, refU k L a b = some r ∧ (∀ f', Made f f' a b → ∃ L', r = some L' ∧ PSt (E ++ [(a, b)]) f' L') ∧ (Never f a b → r = none) := by
 obtain ⟨k, r, h1, _⟩ := refU_total (List.range 6) _ _ L a b h.inv ha.v6 hb.v6 (Nat.le_refl _) (Nat.le_refl _)
 refine ⟨k, r, h1, fun f' hm => ?_, (h.both.step (f' := f) h1).2⟩
 obtain ⟨L', rfl, hb'⟩ := (h.both.step h1).1 hm
 refine ⟨L', rfl, hb', fun σ => ?_, refU_inv h.inv ha.v6 hb.v6 h1, ?_, fun p hp => ?_⟩
 · rw [hm.2 σ, h.all σ]
   constructor
   · rintro ⟨h3, h4⟩ p hp
     rcases List.mem_append.1 hp with hp | hp
     · exact h3 p hp
     · rw [List.mem_singleton.1 hp]; exact h4
   · exact fun h3 => ⟨fun p hp => h3 p (List.mem_append.2 (.inl hp)), h3 (a, b) (by simp)⟩
 · have := refU_tri sOk19.parts k L a b h.inv.solved h.tri ⟨a, ha.2.1, rfl⟩ ⟨b, hb.2.1, rfl⟩
   rw [h1] at this
   exact this.2.1
 · rcases List.mem_append.1 hp with hp | hp
   · exact h.small p hp
   · rw [List.mem_singleton.1 hp]; exact ⟨ha, hb⟩
theorem PSt.dom {E : List (Ty × Ty)} {f : Map} {L : Pairs} (h : PSt E f L) : ∀ n, f n ≠ none → n < 1000000 := by
 obtain ⟨N, hN⟩ := h.both.fine.norm
 exact dom_all h.both.fine hN h.all (S := 19) (K := 6) (by decide) h.small
theorem PSt.take {E : List (Ty × Ty)} {f : Map} {L : Pairs} (h : PSt E f L) {t : Ty} (ht : t.sz ≤ 19) (k : Nat) : (applyL (L.take k) t).sz ≤ 50000000000 := by
 have h1 := app_take L t k
 have h2 := sOk19.all h.inv h.tri t
 have h3 := Nat.mul_le_mul_right 47045881 ht
 omega
end Ux
theorem RowsR.below {w w' : World} {v : Value} {ll : List (List Ux.Nod)} (h : RowAt 1 (fun z l => RowAt 3 NodV w z l) w v ll) (hb : Below w.heap.size w w') : RowAt 1 (fun z l => RowAt 3 NodV w' z l) w' v ll :=
 RowAt.mono h hb fun z l _ hz => hz.mono hb fun u x _ hu => hu
end Go.Proofs.YtcblppojnailpaaDoor
namespace Go.Proofs.YtcblppojnailpaaDoor
namespace Ux
set_option linter.unusedVariables false
set_option linter.unusedSimpArgs false
/-! ## The most that sums can come to -/
def cost (b : Bool) : Nat := if b then 1 else 2
/-- The greatest of f 0 .. f k. -/
def mx (f : Nat → Nat) : Nat → Nat
 | 0 => f 0
 | k + 1 => max (mx f k) (f (k + 1))
theorem mx_ge {f : Nat → Nat} : ∀ {k n : Nat}, n ≤ k → f n ≤ mx f k
 | 0, n, h => by obtain rfl : n = 0 := by omega
                 exact Nat.le_refl _
 | k + 1, n, h => by
   unfold mx
   rcases Nat.lt_or_ge n (k + 1) with h1 | h1
   · exact Nat.le_trans (mx_ge (by omega)) (Nat.le_max_left _ _)
   · obtain rfl : n = k + 1 := by omega
     exact Nat.le_max_right _ _
def topL : List Bool → Nat → Nat → Nat
 | [], _, z => z
 | b :: r, m, z => mx (fun n => topL r (m - cost b * n) (z + n * max 2 z)) (m / cost b)
theorem topL_ge (cb : Nat → Bool) (c : Nat → Nat) : ∀ (W : List Nat) (m z : Nat), (W.map fun v => cost (cb v) * c v).sum ≤ m → W.foldl (fun z v => z + c v * max 2 z) z ≤ topL (W.map cb) m z
 | [], m, z, _ => Nat.le_refl _
 | v :: W, m, z, h => by
   rw [List.map_cons, List.sum_cons] at h
   rw [List.foldl_cons, List.map_cons, topL]
   refine Nat.le_trans (topL_ge cb c W (m - cost (cb v) * c v) (z + c v * max 2 z) (by omega)) ?_
   refine mx_ge (f := fun n => topL (W.map cb) (m - cost (cb v) * n) (z + n * max 2 z)) (n := c v) ?_
   have hc : 0 < cost (cb v) := by unfold cost; split <;> decide
   rw [Nat.le_div_iff_mul_le hc, Nat.mul_comm]
   omega
def allSix (m : Nat) : Bool := (List.range 21).all fun R =>
 ([[true, false, false, false, false, false], [false, true, false, false, false, false], [false, false, true, false, false, false], [false, false, false, true, false, false], [false, false, false, false, true, false], [false, false, false, false, false, true]] : List (List Bool)).all fun l => decide (topL l (20 - R) R ≤ m)
set_option maxRecDepth 1000000 in
theorem allSix_ok : allSix 1002 = true := by decide +kernel
end Ux
end Go.Proofs.YtcblppojnailpaaDoor
