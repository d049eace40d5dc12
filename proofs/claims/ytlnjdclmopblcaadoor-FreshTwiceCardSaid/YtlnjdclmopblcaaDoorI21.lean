import Derived.Test.YtlnjdclmopblcaaDoorI20
import Derived.Deep.DeepCutAuto
set_option linter.unusedVariables false
set_option linter.unusedSimpArgs false
set_option maxHeartbeats 40000000
set_option maxRecDepth 100000
namespace Go.Proofs.YtlnjdclmopblcaaDoor
open Go Go.RowKit
open Go.Lib (hid)
def EU (f : Nat) : Prop := ∀ (x : Px.Expr) (v : Value) (w : World), JB f w v x -> Calls Tryd.prog 20 #[v] w fun e w' => e = .returned (.bool (Fr.J9 f x)) /\ Below w.heap.size w w'
theorem EW (f : Nat) (ih : EU f) : EU (f + 1) := by
 intro x v w hx; cases x with | mk k p nm i ns xs al =>
 obtain ⟨nv, xv, av, rfl, h1, h2, h3⟩ := hx; obtain ⟨q1, c1, rfl⟩ := h1.len; obtain ⟨q2, c2, rfl⟩ := h2.len; obtain ⟨q3, c3, rfl⟩ := h3.len
 have cap : ∀ {α : Type} {sz : Nat} {Js : Value -> α -> Prop} {v : Value} {l : List α}, JO sz Js w v l -> l.length <= 9223372036854775807 := by
  intro α sz Js v l h
  rcases h with ⟨h0, _⟩ | ⟨g, of, c', hv, g1, g2, g3⟩
  . rw [h0]; simp
  . omega
 have ky := hid (cap h1); have HL2 := hid (cap h2); have gB := hid (cap h3)
 have HR2 := hid h2; have HR3 := hid h3
 clear h1 h2 h3 cap
 obtain ⟨H, hH⟩ : ∃ H : Bool, H = (if k = 0 \/ k = 1 \/ k = 8 then decide (xs.length + al.length = 0) else if k = 3 then decide (xs.length = 1 /\ ns.length ≠ 0) else if k = 4 then decide (xs.length = ns.length + 1 /\ 2 <= xs.length)
  else if k = 5 then decide (xs.length = 1 /\ al.length ≠ 0) else if k = 6 then decide (2 <= xs.length) else if k = 7 then decide (xs.length = 1 \/ xs.length = 2) else if k = 2 then decide (al.length = 0) else false) := ⟨_, rfl⟩
 have HH := hid hH; have HP : Hid (Fr.J9 (f + 1) (.mk k p nm i ns xs al) = (H && (xs.all (Fr.J9 f) && al.all fun a => Fr.J9 f a.2))) := hid (by rw [Fr.J9, hH]); clear hH; go_enter Tryd.func20, Tryd.ntmps20; have EA := hid (jb w #[.int .i64 k, .int .i64 p, .string ⟨nm.toArray⟩, .int .i64 i, .slice q1 ns.length c1, .slice q2 xs.length c2, .slice q3 al.length c3] 38); have HB := hid ((jD w.heap.size w).alloc (jB _) (.cells #[.int .i64 k, .int .i64 p, .string ⟨nm.toArray⟩, .int .i64 i, .slice q1 ns.length c1, .slice q2 xs.length c2, .slice q3 al.length c3] 38)); have hsz : w.heap.size + 1 <= (w.alloc (.cells #[.int .i64 k, .int .i64 p, .string ⟨nm.toArray⟩, .int .i64 i, .slice q1 ns.length c1, .slice q2 xs.length c2, .slice q3 al.length c3] 38)).heap.size := by simp
 go_upto_region 1 with fail
 generalize w.alloc (.cells #[.int .i64 k, .int .i64 p, .string ⟨nm.toArray⟩, .int .i64 i, .slice q1 ns.length c1, .slice q2 xs.length c2, .slice q3 al.length c3] 38) = w1 at EA HB hsz ⊢; have a0 := xK EA 0 rfl; have a5 := xK EA 5 rfl
 go_upto_block 0 with fail
 clear a0 a5
 go_cut [3] (fun o wx => o = .int .i64 (xs.length : Int) /\ wx = w1 /\ Hid (H = true))
 case first =>
  have a4 := xK EA 4 rfl; have a6 := xK EA 6 rfl; by_cases hk0 : k = 0
  case pos =>
   have y0 : ((k : Int) == 0) = true := by rw [qd]; omega
   by_cases g0 : xs.length + al.length = 0
   case neg =>
    have t0 : (wrap64 ((xs.length : Int) + (al.length : Int)) != 0) = true := by have := ky.out; have := HL2.out; have := gB.out; simp only [vQ, ne_eq]; unfold wrap64; omega
    have KT := hid (show H = false by rw [HH.out, if_pos (by omega)]; exact jl (by omega)); clear hk0 g0; go_wp2_with fail; go_ret; exact ⟨by rw [HP.out, KT.out, JV]; rfl, HB.out⟩
   have t0 : (wrap64 ((xs.length : Int) + (al.length : Int)) != 0) = false := by have := ky.out; have := HL2.out; have := gB.out; rw [QU]; unfold wrap64; omega
   have ve := hid (show H = true by rw [HH.out, if_pos (by omega)]; exact JL (by omega)); clear hk0 g0; go_wp2_with fail
   go_meet
   exact ⟨rfl, rfl, ve⟩
  by_cases hk1 : k = 1
  case pos =>
   have n0 : ((k : Int) == 0) = false := qF.2 (by omega); have y1 : ((k : Int) == 1) = true := by rw [qd]; omega
   by_cases g0 : xs.length + al.length = 0
   case neg =>
    have t0 : (wrap64 ((xs.length : Int) + (al.length : Int)) != 0) = true := by have := ky.out; have := HL2.out; have := gB.out; simp only [vQ, ne_eq]; unfold wrap64; omega
    have KT := hid (show H = false by rw [HH.out, if_pos (by omega)]; exact jl (by omega)); clear hk0 hk1 g0; go_wp2_with fail; go_ret; exact ⟨by rw [HP.out, KT.out, JV]; rfl, HB.out⟩
   have t0 : (wrap64 ((xs.length : Int) + (al.length : Int)) != 0) = false := by have := ky.out; have := HL2.out; have := gB.out; rw [QU]; unfold wrap64; omega
   have ve := hid (show H = true by rw [HH.out, if_pos (by omega)]; exact JL (by omega)); clear hk0 hk1 g0; go_wp2_with fail
   go_meet
   exact ⟨rfl, rfl, ve⟩
  by_cases WJ : k = 8
  case pos =>
   have n0 : ((k : Int) == 0) = false := qF.2 (by omega); have n1 : ((k : Int) == 1) = false := qF.2 (by omega); have y8 : ((k : Int) == 8) = true := by rw [qd]; omega
   by_cases g0 : xs.length + al.length = 0
   case neg =>
    have t0 : (wrap64 ((xs.length : Int) + (al.length : Int)) != 0) = true := by have := ky.out; have := HL2.out; have := gB.out; simp only [vQ, ne_eq]; unfold wrap64; omega
    have KT := hid (show H = false by rw [HH.out, if_pos (by omega)]; exact jl (by omega)); clear hk0 hk1 WJ g0; go_wp2_with fail; go_ret; exact ⟨by rw [HP.out, KT.out, JV]; rfl, HB.out⟩
   have t0 : (wrap64 ((xs.length : Int) + (al.length : Int)) != 0) = false := by have := ky.out; have := HL2.out; have := gB.out; rw [QU]; unfold wrap64; omega
   have ve := hid (show H = true by rw [HH.out, if_pos (by omega)]; exact JL (by omega)); clear hk0 hk1 WJ g0; go_wp2_with fail
   go_meet
   exact ⟨rfl, rfl, ve⟩
  by_cases hk3 : k = 3
  case pos =>
   have n0 : ((k : Int) == 0) = false := qF.2 (by omega); have n1 : ((k : Int) == 1) = false := qF.2 (by omega); have n8 : ((k : Int) == 8) = false := qF.2 (by omega); have y3 : ((k : Int) == 3) = true := by rw [qd]; omega
   by_cases g0 : xs.length = 1
   case neg =>
    have t0 : ((xs.length : Int) != 1) = true := by have := ky.out; have := HL2.out; have := gB.out; simp only [vQ, ne_eq]; omega
    have KT := hid (show H = false by rw [HH.out, if_neg (by omega), if_pos (by omega)]; exact jl (by omega)); clear hk0 hk1 WJ hk3 g0; go_wp2_with fail; go_ret; exact ⟨by rw [HP.out, KT.out, JV]; rfl, HB.out⟩
   have t0 : ((xs.length : Int) != 1) = false := by have := ky.out; have := HL2.out; have := gB.out; rw [QU]; omega
   by_cases g1 : ns.length ≠ 0
   case neg =>
    have t1 : ((ns.length : Int) == 0) = true := by have := ky.out; have := HL2.out; have := gB.out; rw [qd]; omega
    have KT := hid (show H = false by rw [HH.out, if_neg (by omega), if_pos (by omega)]; exact jl (by omega)); clear hk0 hk1 WJ hk3 g0 g1; go_wp2_with fail; go_ret; exact ⟨by rw [HP.out, KT.out, JV]; rfl, HB.out⟩
   have t1 : ((ns.length : Int) == 0) = false := by have := ky.out; have := HL2.out; have := gB.out; exact qF.2 (by omega)
   have ve := hid (show H = true by rw [HH.out, if_neg (by omega), if_pos (by omega)]; exact JL (by omega)); clear hk0 hk1 WJ hk3 g0 g1; go_wp2_with fail
   go_meet
   exact ⟨rfl, rfl, ve⟩
  by_cases hk4 : k = 4
  case pos =>
   have n0 : ((k : Int) == 0) = false := qF.2 (by omega); have n1 : ((k : Int) == 1) = false := qF.2 (by omega); have n8 : ((k : Int) == 8) = false := qF.2 (by omega); have n3 : ((k : Int) == 3) = false := qF.2 (by omega); have y4 : ((k : Int) == 4) = true := by rw [qd]; omega
   by_cases g0 : xs.length = ns.length + 1
   case neg =>
    have t0 : ((xs.length : Int) != wrap64 ((ns.length : Int) + 1)) = true := by have := ky.out; have := HL2.out; have := gB.out; simp only [vQ, ne_eq]; unfold wrap64; omega
    have KT := hid (show H = false by rw [HH.out, if_neg (by omega), if_neg (by omega), if_pos (by omega)]; exact jl (by omega)); clear hk0 hk1 WJ hk3 hk4 g0; go_wp2_with fail; go_ret; exact ⟨by rw [HP.out, KT.out, JV]; rfl, HB.out⟩
   have t0 : ((xs.length : Int) != wrap64 ((ns.length : Int) + 1)) = false := by have := ky.out; have := HL2.out; have := gB.out; rw [QU]; unfold wrap64; omega
   by_cases g1 : 2 <= xs.length
   case neg =>
    have t1 : (xs.length : Int) < 2 := by omega
    have KT := hid (show H = false by rw [HH.out, if_neg (by omega), if_neg (by omega), if_pos (by omega)]; exact jl (by omega)); clear hk0 hk1 WJ hk3 hk4 g0 g1; go_wp2_with fail; go_ret; exact ⟨by rw [HP.out, KT.out, JV]; rfl, HB.out⟩
   have t1 : ¬ (xs.length : Int) < 2 := by omega
   have ve := hid (show H = true by rw [HH.out, if_neg (by omega), if_neg (by omega), if_pos (by omega)]; exact JL (by omega)); clear hk0 hk1 WJ hk3 hk4 g0 g1; go_wp2_with fail
   go_meet
   exact ⟨rfl, rfl, ve⟩
  by_cases hk5 : k = 5
  case pos =>
   have n0 : ((k : Int) == 0) = false := qF.2 (by omega); have n1 : ((k : Int) == 1) = false := qF.2 (by omega); have n8 : ((k : Int) == 8) = false := qF.2 (by omega); have n3 : ((k : Int) == 3) = false := qF.2 (by omega); have n4 : ((k : Int) == 4) = false := qF.2 (by omega); have y5 : ((k : Int) == 5) = true := by rw [qd]; omega
   by_cases g0 : xs.length = 1
   case neg =>
    have t0 : ((xs.length : Int) != 1) = true := by have := ky.out; have := HL2.out; have := gB.out; simp only [vQ, ne_eq]; omega
    have KT := hid (show H = false by rw [HH.out, if_neg (by omega), if_neg (by omega), if_neg (by omega), if_pos (by omega)]; exact jl (by omega)); clear hk0 hk1 WJ hk3 hk4 hk5 g0; go_wp2_with fail; go_ret; exact ⟨by rw [HP.out, KT.out, JV]; rfl, HB.out⟩
   have t0 : ((xs.length : Int) != 1) = false := by have := ky.out; have := HL2.out; have := gB.out; rw [QU]; omega
   by_cases g1 : al.length ≠ 0
   case neg =>
    have t1 : ((al.length : Int) == 0) = true := by have := ky.out; have := HL2.out; have := gB.out; rw [qd]; omega
    have KT := hid (show H = false by rw [HH.out, if_neg (by omega), if_neg (by omega), if_neg (by omega), if_pos (by omega)]; exact jl (by omega)); clear hk0 hk1 WJ hk3 hk4 hk5 g0 g1; go_wp2_with fail; go_ret; exact ⟨by rw [HP.out, KT.out, JV]; rfl, HB.out⟩
   have t1 : ((al.length : Int) == 0) = false := by have := ky.out; have := HL2.out; have := gB.out; exact qF.2 (by omega)
   have ve := hid (show H = true by rw [HH.out, if_neg (by omega), if_neg (by omega), if_neg (by omega), if_pos (by omega)]; exact JL (by omega)); clear hk0 hk1 WJ hk3 hk4 hk5 g0 g1; go_wp2_with fail
   go_meet
   exact ⟨rfl, rfl, ve⟩
  by_cases mQ : k = 6
  case pos =>
   have n0 : ((k : Int) == 0) = false := qF.2 (by omega); have n1 : ((k : Int) == 1) = false := qF.2 (by omega); have n8 : ((k : Int) == 8) = false := qF.2 (by omega); have n3 : ((k : Int) == 3) = false := qF.2 (by omega); have n4 : ((k : Int) == 4) = false := qF.2 (by omega); have n5 : ((k : Int) == 5) = false := qF.2 (by omega); have y6 : ((k : Int) == 6) = true := by rw [qd]; omega
   by_cases g0 : 2 <= xs.length
   case neg =>
    have t0 : (xs.length : Int) < 2 := by omega
    have KT := hid (show H = false by rw [HH.out, if_neg (by omega), if_neg (by omega), if_neg (by omega), if_neg (by omega), if_pos (by omega)]; exact jl (by omega)); clear hk0 hk1 WJ hk3 hk4 hk5 mQ g0; go_wp2_with fail; go_ret; exact ⟨by rw [HP.out, KT.out, JV]; rfl, HB.out⟩
   have t0 : ¬ (xs.length : Int) < 2 := by omega
   have ve := hid (show H = true by rw [HH.out, if_neg (by omega), if_neg (by omega), if_neg (by omega), if_neg (by omega), if_pos (by omega)]; exact JL (by omega)); clear hk0 hk1 WJ hk3 hk4 hk5 mQ g0; go_wp2_with fail
   go_meet
   exact ⟨rfl, rfl, ve⟩
  by_cases Cv : k = 7
  case pos =>
   have n0 : ((k : Int) == 0) = false := qF.2 (by omega); have n1 : ((k : Int) == 1) = false := qF.2 (by omega); have n8 : ((k : Int) == 8) = false := qF.2 (by omega); have n3 : ((k : Int) == 3) = false := qF.2 (by omega); have n4 : ((k : Int) == 4) = false := qF.2 (by omega); have n5 : ((k : Int) == 5) = false := qF.2 (by omega); have n6 : ((k : Int) == 6) = false := qF.2 (by omega); have y7 : ((k : Int) == 7) = true := by rw [qd]; omega
   by_cases g0 : xs.length = 1
   case pos =>
    have t0 : ((xs.length : Int) != 1) = false := by rw [QU]; omega
    have ve := hid (show H = true by rw [HH.out, if_neg (by omega), if_neg (by omega), if_neg (by omega), if_neg (by omega), if_neg (by omega), if_pos (by omega)]; exact JL (by omega)); clear hk0 hk1 WJ hk3 hk4 hk5 mQ Cv g0; go_wp2_with fail
    go_meet
    exact ⟨rfl, rfl, ve⟩
   have t0 : ((xs.length : Int) != 1) = true := by simp only [vQ, ne_eq]; omega
   by_cases g1 : xs.length = 2
   case pos =>
    have t1 : ((xs.length : Int) != 2) = false := by rw [QU]; omega
    have ve := hid (show H = true by rw [HH.out, if_neg (by omega), if_neg (by omega), if_neg (by omega), if_neg (by omega), if_neg (by omega), if_pos (by omega)]; exact JL (by omega)); clear hk0 hk1 WJ hk3 hk4 hk5 mQ Cv g0 g1; go_wp2_with fail
    go_meet
    exact ⟨rfl, rfl, ve⟩
   have t1 : ((xs.length : Int) != 2) = true := by simp only [vQ, ne_eq]; omega
   have KT := hid (show H = false by rw [HH.out, if_neg (by omega), if_neg (by omega), if_neg (by omega), if_neg (by omega), if_neg (by omega), if_pos (by omega)]; exact jl (by omega)); clear hk0 hk1 WJ hk3 hk4 hk5 mQ Cv g0 g1; go_wp2_with fail; go_ret; exact ⟨by rw [HP.out, KT.out, JV]; rfl, HB.out⟩
  by_cases hk2 : k = 2
  case pos =>
   have n0 : ((k : Int) == 0) = false := qF.2 (by omega); have n1 : ((k : Int) == 1) = false := qF.2 (by omega); have n8 : ((k : Int) == 8) = false := qF.2 (by omega); have n3 : ((k : Int) == 3) = false := qF.2 (by omega); have n4 : ((k : Int) == 4) = false := qF.2 (by omega); have n5 : ((k : Int) == 5) = false := qF.2 (by omega); have n6 : ((k : Int) == 6) = false := qF.2 (by omega); have n7 : ((k : Int) == 7) = false := qF.2 (by omega); have y2 : ((k : Int) == 2) = true := by rw [qd]; omega
   by_cases g0 : al.length = 0
   case neg =>
    have t0 : ((al.length : Int) != 0) = true := by have := ky.out; have := HL2.out; have := gB.out; simp only [vQ, ne_eq]; omega
    have KT := hid (show H = false by rw [HH.out, if_neg (by omega), if_neg (by omega), if_neg (by omega), if_neg (by omega), if_neg (by omega), if_neg (by omega), if_pos (by omega)]; exact jl (by omega)); clear hk0 hk1 WJ hk3 hk4 hk5 mQ Cv hk2 g0; go_wp2_with fail; go_ret; exact ⟨by rw [HP.out, KT.out, JV]; rfl, HB.out⟩
   have t0 : ((al.length : Int) != 0) = false := by have := ky.out; have := HL2.out; have := gB.out; rw [QU]; omega
   have ve := hid (show H = true by rw [HH.out, if_neg (by omega), if_neg (by omega), if_neg (by omega), if_neg (by omega), if_neg (by omega), if_neg (by omega), if_pos (by omega)]; exact JL (by omega)); clear hk0 hk1 WJ hk3 hk4 hk5 mQ Cv hk2 g0; go_wp2_with fail
   go_meet
   exact ⟨rfl, rfl, ve⟩
  have n0 : ((k : Int) == 0) = false := qF.2 (by omega); have n1 : ((k : Int) == 1) = false := qF.2 (by omega); have n8 : ((k : Int) == 8) = false := qF.2 (by omega); have n3 : ((k : Int) == 3) = false := qF.2 (by omega); have n4 : ((k : Int) == 4) = false := qF.2 (by omega); have n5 : ((k : Int) == 5) = false := qF.2 (by omega); have n6 : ((k : Int) == 6) = false := qF.2 (by omega); have n7 : ((k : Int) == 7) = false := qF.2 (by omega); have n2 : ((k : Int) == 2) = false := qF.2 (by omega); have KT := hid (show H = false by rw [HH.out, if_neg (by omega), if_neg (by omega), if_neg (by omega), if_neg (by omega), if_neg (by omega), if_neg (by omega), if_neg (by omega)]); clear hk0 hk1 WJ hk3 hk4 hk5 mQ Cv hk2; go_wp2_with fail; go_ret; exact ⟨by rw [HP.out, KT.out, JV]; rfl, HB.out⟩
 case rest =>
  obtain ⟨rfl, rfl, ve⟩ := hcut; have HQ : Hid (Fr.J9 (f + 1) (.mk k p nm i ns xs al) = (xs.all (Fr.J9 f) && al.all fun a => Fr.J9 f a.2)) := hid (by rw [HP.out, ve.out, qK]); clear HP ve HH; go_wp2_with fail
  go_loopw [4] (fun j wr => ∃ m : Nat, j = .int .i64 m /\ m <= xs.length /\ Hid ((xs.take m).all (Fr.J9 f) = true) /\ Hid (wr.heap[w.heap.size]? = some (.cells #[.int .i64 k, .int .i64 p, .string ⟨nm.toArray⟩, .int .i64 i, .slice q1 ns.length c1, .slice q2 xs.length c2, .slice q3 al.length c3] 38 (0, 0))) /\ Hid (Below w.heap.size w wr)) (fun j _ => xs.length - (intOf j).toNat)
  case atStart => exact ⟨0, rfl, jh _, hid (by simp), EA, HB⟩
  case round =>
   clear EA HB hsz; obtain ⟨m, rfl, hm, HA, EA, HB⟩ := hrel; have hs1 := ji EA; have e5 := xK EA 5 rfl; by_cases hlt : m < xs.length
   case pos =>
    obtain ⟨y, hy⟩ : ∃ y, xs[m]? = some y := ⟨_, jA hlt⟩
    rcases HR2.out with ⟨h0, _⟩ | ⟨g, of, c', hv, g1, g2, g3⟩
    . rw [h0] at hlt; simp at hlt
    injection hv with hq1 _ hq2
    subst hq1; subst hq2
    obtain ⟨u, hu, _, hcell⟩ := g3 m y hy; have hu2 := JY hu HB; obtain ⟨a0, a1, a2, a3, PY, PZ, Pb, Pf, Pg, Ph, Pj, Pk, Pm, rfl⟩ := zw hu; have d0 := jC HB (hcell 0 _ rfl); have d1 := jC HB (hcell 1 _ rfl); have d2 := jC HB (hcell 2 _ rfl); have d3 := jC HB (hcell 3 _ rfl); have d4 := jC HB (hcell 4 _ rfl); have d5 := jC HB (hcell 5 _ rfl); have d6 := jC HB (hcell 6 _ rfl)
    simp only [jZ] at d0; have hk1 : (m : Int) < (xs.length : Int) := by omega
    have hk2 : (xs.length : Int) <= (c2 : Int) := by omega
    have hk3 := g2; have HT := hid (Vt (Fr.J9 f) xs m y hy HA); have YZ := hid (ih y _ wr hu2); clear g1 g2 g3 hcell hu hy hu2; go_wp2_with fail; clear e5 d0 d1 d2 d3 d4 d5 d6; refine YZ.out.mono ?_; rintro e w2 ⟨rfl, hb⟩; have HB2 := bT HB hb; replace EA := bE EA hb; cases hs : Fr.J9 f y with
    | false =>
      have Lr : Hid (Fr.J9 (f + 1) (.mk k p nm i ns xs al) = false) := hid (by rw [HQ.out, HT.out.2 hs, JV]); clear hs hb YZ HB; go_wp2_with fail; go_ret; exact ⟨by rw [Lr.out]; rfl, HB2.out⟩
    | true =>
      have HT2 := hid (HT.out.1 hs); clear hs hb YZ HB HT; go_wp2_with fail
      go_roundw
      case rel => exact ⟨m + 1, by go_num, by omega, HT2, EA, HB2⟩
      case measure => simp [intOf]; omega
   case neg =>
    obtain rfl : m = xs.length := by omega
    have hk4 : ¬ (xs.length : Int) < (xs.length : Int) := by omega
    have NU : Hid (Fr.J9 (f + 1) (.mk k p nm i ns xs al) = al.all fun a => Fr.J9 f a.2) := hid (by
     have h := HA.out; rw [jY] at h
     rw [HQ.out, h, qK])
    clear HQ HA; go_wp2_with fail; clear e5 hk4
    go_loopw [5] (fun j wr => ∃ m : Nat, j = .int .i64 m /\ m <= al.length /\ Hid ((al.take m).all (fun a => Fr.J9 f a.2) = true) /\ Hid (wr.heap[w.heap.size]? = some (.cells #[.int .i64 k, .int .i64 p, .string ⟨nm.toArray⟩, .int .i64 i, .slice q1 ns.length c1, .slice q2 xs.length c2, .slice q3 al.length c3] 38 (0, 0))) /\ Hid (Below w.heap.size w wr)) (fun j _ => al.length - (intOf j).toNat)
    case atStart => exact ⟨0, rfl, jh _, hid (by simp), EA, HB⟩
    case round =>
     clear EA HB hs1; obtain ⟨m, rfl, hm, HA, EA, HB⟩ := hrel; have e6 := xK EA 6 rfl; by_cases hlt : m < al.length
     case pos =>
      obtain ⟨⟨pt, ey⟩, hy⟩ : ∃ y, al[m]? = some y := ⟨_, jA hlt⟩
      rcases HR3.out with ⟨h0, _⟩ | ⟨g, of, c', hv, g1, g2, g3⟩
      . rw [h0] at hlt; simp at hlt
      injection hv with hq1 _ hq2
      subst hq1; subst hq2
      obtain ⟨u, hu, _, hcell⟩ := g3 m _ hy; obtain ⟨a0, a1, a2, a3, a4, b0, b1, b2, b3, b4, b5, b6, rfl, hpt, dL⟩ := hu; have oI := JY dL HB; obtain ⟨x5, x6, x7, x8, x9, Tu, Tv⟩ := (show wr.cell? ⟨g, of + m * 12 + 5, none⟩ = some b0 /\ wr.cell? ⟨g, of + m * 12 + 5 + 1, none⟩ = some b1 /\ wr.cell? ⟨g, of + m * 12 + 5 + 2, none⟩ = some b2 /\ wr.cell? ⟨g, of + m * 12 + 5 + 3, none⟩ = some b3 /\ wr.cell? ⟨g, of + m * 12 + 5 + 4, none⟩ = some b4 /\ wr.cell? ⟨g, of + m * 12 + 5 + 5, none⟩ = some b5 /\ wr.cell? ⟨g, of + m * 12 + 5 + 6, none⟩ = some b6 from ⟨jC HB (hcell 5 _ rfl), jC HB (hcell 6 _ rfl), jC HB (hcell 7 _ rfl), jC HB (hcell 8 _ rfl), jC HB (hcell 9 _ rfl), jC HB (hcell 10 _ rfl), jC HB (hcell 11 _ rfl)⟩); have hk1 : (m : Int) < (al.length : Int) := by omega
      have hk2 : (al.length : Int) <= (c3 : Int) := by omega
      have hk3 := g2; have HT := hid (Vt (fun a : Px.QJ × Px.Expr => Fr.J9 f a.2) al m (pt, ey) hy HA); have YZ := hid (ih ey _ wr oI); clear g1 g2 g3 hcell hpt dL hy oI; go_wp2_with fail; clear e6 x5 x6 x7 x8 x9 Tu Tv; refine YZ.out.mono ?_; rintro e w2 ⟨rfl, hb⟩; have HB2 := bT HB hb; replace EA := bE EA hb; cases hs : Fr.J9 f ey with
      | false =>
        have Lr : Hid (Fr.J9 (f + 1) (.mk k p nm i ns xs al) = false) := hid (by rw [NU.out, HT.out.2 hs]); clear hs hb YZ HB; go_wp2_with fail; go_ret; exact ⟨by rw [Lr.out]; rfl, HB2.out⟩
      | true =>
        have HT2 := hid (HT.out.1 hs); clear hs hb YZ HB HT; go_wp2_with fail
        go_roundw
        case rel => exact ⟨m + 1, by go_num, by omega, HT2, EA, HB2⟩
        case measure => simp [intOf]; omega
     case neg =>
      obtain rfl : m = al.length := by omega
      have hk4 : ¬ (al.length : Int) < (al.length : Int) := by omega
      have Lr : Hid (Fr.J9 (f + 1) (.mk k p nm i ns xs al) = true) := hid (by
       have h := HA.out; rw [jY] at h
       rw [NU.out, h])
      clear NU HA; go_wp2_with fail; go_ret; exact ⟨by rw [Lr.out]; rfl, HB.out⟩
theorem GN : ∀ f, EU f
 | 0 => fun x v w hx => hx.elim
 | f + 1 => EW f (GN f)
theorem vN (x : Px.Prog) (v : Value) (w : World) (hx : Fr.zt 50 w v x) (hc : Fr.Vs x = true) (hw : ∀ d ∈ x.defs, Sx.ew 50 d.body <= 40000000) (hl : x.defs.length <= 100000) (hp : ∀ d ∈ x.defs, d.params.length <= 400000) :
 Calls Tryd.prog 7 #[v] w fun e w' => e = .returned (.bool true) /\ Below w.heap.size w w' := by
 obtain ⟨dv, fv, rfl, hr1, hr2⟩ := hx; obtain ⟨q1, c1, rfl⟩ := hr1.len; obtain ⟨q2, c2, rfl⟩ := hr2.len; unfold Fr.Vs at hc; rw [Ji] at hc; obtain ⟨hc1, hc2⟩ := hc; obtain ⟨NM, hNM⟩ : ∃ NM, NM = x.defs.map (·.name) := ⟨_, rfl⟩
 rw [<- hNM] at hc1 hc2; have HR2 := hid hr2; have AJ := hid hc1; have OW := hid hc2; have HW := hid hw; have HL := hid hl; have HP := hid hp; have VE := hid hNM
 clear hr1 hr2 hc1 hc2 hw hl hp hNM; have EX := hid (jb w #[.slice q1 x.jF.length c1, .slice q2 x.defs.length c2] 26); have HB := hid ((jD w.heap.size w).alloc (jB _) (.cells #[.slice q1 x.jF.length c1, .slice q2 x.defs.length c2] 26)); have hsz : w.heap.size + 1 <= (w.alloc (.cells #[.slice q1 x.jF.length c1, .slice q2 x.defs.length c2] 26)).heap.size := by simp
 go_enter Tryd.func7, Tryd.ntmps7; go_wp2_with fail; generalize w.alloc (.cells #[.slice q1 x.jF.length c1, .slice q2 x.defs.length c2] 26) = w1 at EX HB hsz ⊢
 go_loopw [3, 4] (fun o j wr => ∃ (m : Nat) (l : List Nm), j = .int .i64 m /\ m <= x.defs.length /\ Hid (l = (x.defs.take m).map (·.name)) /\ Hid (QW wr (w.heap.size + 1) o l) /\ Hid (wr.heap[w.heap.size]? = some (.cells #[.slice q1 x.jF.length c1, .slice q2 x.defs.length c2] 26 (0, 0))) /\ Hid (Below w.heap.size w wr)) (fun _ j _ => x.defs.length - (intOf j).toNat)
 case atStart => exact ⟨0, [], rfl, jh _, hid (by simp), hid (jo _ _ _ _), EX, HB⟩
 case round =>
  clear EX HB hsz; obtain ⟨m, l, rfl, hm, Yd, HO, EX, HB⟩ := hrel; have hs1 := ji EX; have e1 := xK EX 1 rfl; obtain ⟨va, uI, rfl⟩ := jH HO; by_cases hlt : m < x.defs.length
  . obtain ⟨d, hd⟩ : ∃ d, x.defs[m]? = some d := ⟨_, jA hlt⟩
    obtain ⟨g, of, c, r, cr, hv, b1, b2, _, b3, b4⟩ := U8 HR2 HB hd
    injection hv with e2 _ e3
    subst e2; subst e3
    have hk1 : (m : Int) < (x.defs.length : Int) := by omega
    have hk2 : (x.defs.length : Int) <= (c2 : Int) := by omega
    have hk3 := b2; have HT : Hid (l ++ [d.name] = (x.defs.take (m + 1)).map (·.name)) := hid (by rw [Yd.out, JC, hd]; simp); have jG9 := hid (jb wr #[.string ⟨d.name.toArray⟩] 9); have QO := hid (show Below wr.heap.size wr (wr.alloc (.cells #[.string ⟨d.name.toArray⟩] 9)) from (jD _ _).alloc (jB _) _); have Z8 := hid (jc HO QO); have jGA := hid (HB.out.trans (QO.out.mono HB.out.size)); have Yn := hid (show l.length <= 100000 by rw [Yd.out, Jv, Jh]; have := HL.out; omega); clear b1 b4 hd b2; go_wp2_with (at_builtin; refine Qe rfl (.tmp 16) (.tmp 23) rfl (w.heap.size + 1) _ _ rfl Z8 _ rfl [d.name] (QY jG9 rfl rfl) (by have := Yn.out; simp; omega) (by have := QO.out.size; omega) ?_); intro v3 w3 happ; obtain ⟨p3, q3', rfl⟩ := jH happ.1; obtain ⟨hb3, ho3⟩ := ZV happ Z8 jGA (by have := QO.out.size; omega) (by omega); have Ro := hid (happ.at Z8.out (jM EX QO) (by omega)); have HB3 := hid hb3; have yQ := hid ho3
    obtain ⟨l3, hl3⟩ : ∃ l3, l3 = l ++ [d.name] := ⟨_, rfl⟩
    rw [<- hl3] at yQ HT ⊢; clear hl3 happ hb3 ho3 e1 b3; go_wp2
    go_roundw
    case rel => exact ⟨m + 1, l3, by go_num, by omega, HT, yQ, Ro, HB3⟩
    case measure => simp [intOf]; omega
  . obtain rfl : m = x.defs.length := by omega
    have hk4 : ¬ (x.defs.length : Int) < (x.defs.length : Int) := by omega
    have eP : Hid (l = NM) := hid (by have := Yd.out; rw [jY] at this; rw [this, VE.out]); have Yn := hid (show l.length <= 100000 by rw [eP.out, VE.out, Jv]; exact HL.out); have uC := hid (show Qr l = false by rw [eP.out]; have := AJ.out; simpa using this); go_wp2_with fail; clear e1 hk4 Yd; refine (Y1 _ l wr (Qc HO) (by have := Yn.out; omega)).mono ?_; rintro e w2 ⟨rfl, hb2⟩; rw [uC.out]; have zV := hid (jc HO hb2); have Kn := bE EX hb2; have HB2 := bT HB hb2; have hs2 := ji Kn; clear hb2 HO EX HB hs1; go_wp2_with fail; have hs3 := HB2.out.size
    go_loopw [5] (fun j wr => ∃ m : Nat, j = .int .i64 m /\ m <= x.defs.length /\ Hid (QW wr (w.heap.size + 1) (.slice va l.length uI) l) /\ Hid (wr.heap[w.heap.size]? = some (.cells #[.slice q1 x.jF.length c1, .slice q2 x.defs.length c2] 26 (0, 0))) /\ Hid (Below w.heap.size w wr)) (fun j _ => x.defs.length - (intOf j).toNat)
    case atStart => exact ⟨0, rfl, jh _, zV, Kn, HB2⟩
    case round =>
     clear zV Kn HB2 hs2 hs3; obtain ⟨m, rfl, hm, HO, EX, HB⟩ := hrel; have hs1 := ji EX; have e1 := xK EX 1 rfl; by_cases hlt : m < x.defs.length
     . obtain ⟨d, hd⟩ : ∃ d, x.defs[m]? = some d := ⟨_, jA hlt⟩
       have Tp := jI hd
       rcases HR2.out with ⟨h0, _⟩ | ⟨g, of, c', hv, g1, g2, g3⟩
       . rw [h0] at hlt; simp at hlt
       injection hv with hq1 _ hq2
       subst hq1; subst hq2
       obtain ⟨u, hu, _, hcell⟩ := g3 m d hd; obtain ⟨r0, s0, r1, r2, r3, r4, r5, s5, t5, r6, s6, t6, r7, s7, t7, rfl, Ea, Eb⟩ := zm hu; have d0 := jC HB (hcell 0 _ rfl); have d1 := jC HB (hcell 1 _ rfl); have d2 := jC HB (hcell 2 _ rfl); have d3 := jC HB (hcell 3 _ rfl); have d4 := jC HB (hcell 4 _ rfl); have d5 := jC HB (hcell 5 _ rfl); have d6 := jC HB (hcell 6 _ rfl); have d7 := jC HB (hcell 7 _ rfl); have d8 := jC HB (hcell 8 _ rfl); have d9 := jC HB (hcell 9 _ rfl)
       simp only [jZ] at d0; have hk1 : (m : Int) < (x.defs.length : Int) := by omega
       have hk2 : (x.defs.length : Int) <= (c2 : Int) := by omega
       have hk3 := g2; have Ec := hid Ea; have Rq := hid Eb
       have hall := Ju.1 OW.out d Tp; simp only [Ji, Bool.not_eq_true'] at hall; obtain ⟨hf, htp, jCS⟩ := hall; have HF := hid (Ju.1 hf); have jGB := hid htp; have jGC := hid jCS
       have OX := hid (HW.out d Tp); have nT := hid (HP.out d Tp)
       clear g1 g2 g3 hcell hu hd Tp Ea Eb hf htp jCS; obtain ⟨w2, hw2⟩ : ∃ w2, w2 = wr.alloc (.cells #[.int .i64 d.pos, .string ⟨d.name.toArray⟩, .slice r0 d.params.length s0, .int .i64 r1, .int .i64 r2, .string r3, .int .i64 r4, .slice r5 s5 t5, .slice r6 s6 t6, .slice r7 s7 t7] 40) := ⟨_, rfl⟩
       have hb2 : Below wr.heap.size wr w2 := by rw [hw2]; exact (jD _ _).alloc (jB _) _
       have hvb : w2.heap[wr.heap.size]? = some (.cells #[.int .i64 d.pos, .string ⟨d.name.toArray⟩, .slice r0 d.params.length s0, .int .i64 r1, .int .i64 r2, .string r3, .int .i64 r4, .slice r5 s5 t5, .slice r6 s6 t6, .slice r7 s7 t7] 40 (0, 0)) := by rw [hw2]; exact jb wr _ _
       have oJ := hid hvb; have HB2 := bT HB hb2; have zV := hid (jc HO hb2); have Kn := bE EX hb2; go_wp2_with fail; rw [<- hw2]; clear d0 d1 d2 d3 d4 d5 d6 d7 d8 d9 e1 hb2 hvb hw2; refine (Bt 50 d.body _ w2 (JY Rq HB2) OX).mono ?_; rintro e w3 ⟨fv, rfl, hb3, hnew⟩; obtain ⟨fq, fc, rfl⟩ := hnew.now.len; obtain ⟨FR, jCT⟩ : ∃ FR, FR = Sx.gU 50 d.body := ⟨_, rfl⟩
       rw [<- jCT] at hnew HF ⊢; have jAB := hid hnew.now; have Tz := bE oJ hb3; have HB3 := bT HB2 hb3; have yQ := hid (jc zV hb3); have Ro := bE Kn hb3; have su := hid (JM Ec HB3); have oK := hid (Qc yQ); clear hnew hb3 jCT oJ HB2 zV Kn HO EX HB; go_wp2_with fail
       go_loopw [8] (fun j wr2 => ∃ k : Nat, j = .int .i64 k /\ k <= FR.length /\ Hid (Below w3.heap.size w3 wr2)) (fun j _ => FR.length - (intOf j).toNat)
       case atStart => exact ⟨0, rfl, jh _, hid (jD _ _)⟩
       case round =>
        obtain ⟨k, rfl, hk, uT⟩ := hrel; by_cases hlt2 : k < FR.length
        . obtain ⟨sx, hsx⟩ : ∃ sx, FR[k]? = some sx := ⟨_, jA hlt2⟩
          have hfr := HF.out sx (jI hsx)
          rcases jAB.out with ⟨h0, _⟩ | ⟨g, of, c', hv, g1, g2, g3⟩
          . rw [h0] at hlt2; simp at hlt2
          injection hv with hq1 _ hq2
          subst hq1; subst hq2
          obtain ⟨u, hu, _, hcell⟩ := g3 k sx hsx; have hu' : u = .string ⟨sx.toArray⟩ := hu; subst hu'; have h0 := jC uT (hcell 0 _ rfl); simp only [qX, jZ] at h0; have y2 := jK (jM Tz uT) 2 _ rfl; have hk1 : (k : Int) < (FR.length : Int) := by omega
          have hk2 : (FR.length : Int) <= (fc : Int) := by omega
          have hk4 := g2; have fA := fun (w' : World) (hb : Below wr.heap.size wr w') => Qf _ d.params sx w' (JM su (uT.out.trans (hb.mono uT.out.size)))
          have PU := fun (w' : World) (hb : Below wr.heap.size wr w') => Qf _ l sx w' (JM oK (uT.out.trans (hb.mono uT.out.size)))
          have jAC := hid hfr; clear g1 g2 g3 hcell hu hsx hfr; go_wp2_with fail; cases h1 : Qi d.params sx with
          | true =>
            rw [h1] at fA; clear PU
            go_quiet ((go_at_call 19; exact Calls.quiet_of_same (fA _ (below_drewN (jD _ _) _))))
            clear fA h0 y2 h1; go_wp2_with fail
            go_roundw
            case rel => exact ⟨k + 1, by go_num, by omega, hid (uT.out.trans (below_drewN (jD _ _) _))⟩
            case measure => simp [intOf]; omega
          | false =>
            have h2 : Qi l sx = true := by
             have := jAC.out; rw [h1, Bool.false_or, <- eP.out] at this; exact this
            rw [h1] at fA; rw [h2] at PU
            go_quiet ((go_at_call 19; first | with_reducible exact Calls.quiet_of_same (fA _ (below_drewN (jD _ _) _)) | with_reducible exact Calls.quiet_of_same (PU _ (below_drewN (jD _ _) _))))
            clear fA PU h0 y2 h1 h2; go_wp2_with fail
            go_roundw
            case rel => exact ⟨k + 1, by go_num, by omega, hid (uT.out.trans (below_drewN (jD _ _) _))⟩
            case measure => simp [intOf]; omega
        . obtain rfl : k = FR.length := by omega
          have hk4 : ¬ (FR.length : Int) < (FR.length : Int) := by omega
          have y2 := jK (jM Tz uT) 2 _ rfl; go_wp2_with fail; clear y2 hk4; refine (Y1 _ d.params wr (JM su uT) nT).mono ?_; rintro e w5 ⟨rfl, hb5⟩; rw [jGB.out]; have zy := bT uT hb5; clear hb5 uT; have ev := jM Tz zy; have y3 := xK ev 3 rfl; have y4 := xK ev 4 rfl; have y5 := xK ev 5 rfl; have y6 := xK ev 6 rfl; have y7 := xK ev 7 rfl; have y8 := xK ev 8 rfl; have y9 := xK ev 9 rfl; clear ev; go_wp2_with fail; clear y3 y4 y5 y6 y7 y8 y9; have hsz5 := HB3.out.size; refine (GN 50 d.body _ w5 (JY Rq (HB3.out.trans (zy.out.mono hsz5)))).mono ?_; rintro e w6 ⟨rfl, hb6⟩; rw [jGC.out]; have OY := zy.out.trans (hb6.mono zy.out.size); have uD := hid (jc yQ OY); have Az := bE Ro OY; have vD := hid (HB3.out.trans (OY.mono hsz5)); clear hb6 OY; go_wp2_with fail
          go_roundw
          case rel => exact ⟨m + 1, by go_num, by omega, uD, Az, vD⟩
          case measure => simp [intOf]; omega
     . obtain rfl : m = x.defs.length := by omega
       have hk4 : ¬ (x.defs.length : Int) < (x.defs.length : Int) := by omega
       go_wp2_with fail; go_ret; exact ⟨rfl, HB.out⟩
theorem ZE (b : Bool) (p : Nat) : (one b p).length <= 1 := by unfold one; split <;> simp
theorem ZO {α : Type} (g : α -> List Nat) (h : α -> Nat) : ∀ (l : List α), (∀ x ∈ l, (g x).length <= h x) -> (l.flatMap g).length <= (l.map h).sum
 | [], _ => by simp
 | a :: r, hx => by
   rw [qP, jE, je, jy]; have h1 := hx a (by simp); have h2 := ZO g h r (fun x hm => hx x (by simp [hm])); omega
theorem YT {α : Type} (g : α -> List Nat) (l : List α) (k : Nat) (x : α) (h : l[k]? = some x) : (l.take (k + 1)).flatMap g = (l.take k).flatMap g ++ g x := by
 rw [JC, h]; simp
theorem Y2 (ds : List Px.Data) (vars : List Nm) : ∀ (f : Nat) (t : Px.zR), (Zl ds vars f t).length <= Sx.KS f t
 | 0, _ => by simp [Zl]
 | f + 1, .mk p nm xs => by
   rw [Zl, Sx.KS, jE]; have h1 := ZE (Zu ds vars nm xs.length) p; have h2 := ZO (Zl ds vars f) (Sx.KS f) xs (fun x _ => Y2 ds vars f x); omega
theorem cB {nm : Nm} (h : uQ nm = true) : ((97 : Int) <= ((Lx.Jj nm 0).toNat : Int)) /\ (((Lx.Jj nm 0).toNat : Int) <= 122) := by
 unfold uQ at h; simp only [Ji, Qv] at h; omega
theorem cK {nm : Nm} (h : Uu nm = true) : ((65 : Int) <= ((Lx.Jj nm 0).toNat : Int)) /\ (((Lx.Jj nm 0).toNat : Int) <= 90) := by
 unfold Uu at h; simp only [Ji, Qv] at h; omega
theorem Bv {f : Nat} {w : World} {v : Value} {xs : List Px.zR} (h : JO 3 (Q0 f w) w v xs) : xs.length <= (xs.map (Sx.KS f)).sum := by
 refine Sx.ZT _ _ (fun x hx => ?_)
 rcases h with ⟨h0, _⟩ | ⟨_, _, _, _, _, _, h3⟩
 . subst h0; cases hx
 . obtain ⟨k, hk⟩ := ZQ.1 hx; obtain ⟨_, hu, _⟩ := h3 k x hk; cases f with
   | zero => exact hu.elim
   | succ f => cases x with | mk a b c => rw [Sx.KS]; omega
def cO (p : Px.Prog) (vars : List Nm) (f : Nat) : Prop := ∀ (t : Px.zR) (pv tv sv : Value) (w : World), ZZ 50 w pv p -> (p.jF.map Sx.dw).sum <= 400000 -> Q0 f w tv t -> Yk w sv vars -> UF f t -> Sx.KS f t <= 400000 ->
 Calls Tryd.prog 48 #[pv, tv, sv] w (GJ w (Zl p.jF vars f t))
theorem pU (p : Px.Prog) (vars : List Nm) (f : Nat) (ih : cO p vars f) : cO p vars (f + 1) := by
 intro t pv tv sv w hp hpw ht hs hg hw; cases t with | mk pos nm xs =>
 obtain ⟨q1, c1, q2, c2, rfl⟩ := Zk hp; obtain ⟨av, rfl, hx⟩ := ht; obtain ⟨qt, ct, rfl⟩ := hx.len; obtain ⟨qs, cs, rfl⟩ := hs.len; rw [UF] at hg; obtain ⟨hg1, hg2, hg3⟩ := hg; have HP := hid hp; have GQ := hid hpw; have HX := hid hx; have HS := hid hs; have oH := hid hg1; have R8 := hid hg3
 have HW : Hid (1 + nm.length + (xs.map (Sx.KS f)).sum <= 400000) := hid (by rw [Sx.KS] at hw; exact hw); have hnl : 0 < nm.length := Yo.2 hg2; have hxl : xs.length <= 400000 := by have := Bv hx; have := HW.out; omega
 clear hp hpw hx hs hg1 hg2 hg3 hw; go_enter Tryd.func48, Tryd.ntmps48; have EP := hid (JA (jb w #[.slice q1 p.jF.length c1, .slice q2 p.defs.length c2] 26) (.cells #[.int .i64 pos, .string ⟨nm.toArray⟩, .slice qt xs.length ct] 111)); have ET := hid (jb (w.alloc (.cells #[.slice q1 p.jF.length c1, .slice q2 p.defs.length c2] 26)) #[.int .i64 pos, .string ⟨nm.toArray⟩, .slice qt xs.length ct] 111); have HB := hid (show Below w.heap.size w ((w.alloc (.cells #[.slice q1 p.jF.length c1, .slice q2 p.defs.length c2] 26)).alloc (.cells #[.int .i64 pos, .string ⟨nm.toArray⟩, .slice qt xs.length ct] 111)) from ((jD _ _).alloc (jB _) _).alloc (by simp) _); have hsz : ((w.alloc (.cells #[.slice q1 p.jF.length c1, .slice q2 p.defs.length c2] 26)).alloc (.cells #[.int .i64 pos, .string ⟨nm.toArray⟩, .slice qt xs.length ct] 111)).heap.size = w.heap.size + 2 := by simp
 rw [show (w.alloc (.cells #[.slice q1 p.jF.length c1, .slice q2 p.defs.length c2] 26)).heap.size = w.heap.size + 1 by simp] at ET; go_upto_region 1 with fail
 generalize (w.alloc (.cells #[.slice q1 p.jF.length c1, .slice q2 p.defs.length c2] 26)).alloc (.cells #[.int .i64 pos, .string ⟨nm.toArray⟩, .slice qt xs.length ct] 111) = w1 at EP ET HB hsz ⊢; go_upto_region 2 with fail
 go_cut [8] (fun c wx => c = .int .u8 ((Lx.Jj nm 0).toNat : Int) /\ wx = w1)
 case first =>
  have y1 := xK ET 1 rfl; have e := Jw nm 0 (jk nm 0 hnl); go_wp2_with fail
  go_meet
  exact ⟨by first | rfl | (simp [go_sem]; done) | (rw [<- e]; rfl), rfl⟩
 case rest =>
 obtain ⟨rfl, rfl⟩ := hcut; obtain ⟨w2, hw2⟩ : ∃ x, x = wc := ⟨wc, rfl⟩
 subst hw2; go_upto_region 3 with fail
 go_cut [43] (fun o wx => o = .bool (Zu p.jF vars nm xs.length) /\ Hid (Below (w.heap.size + 2) w2 wx))
 case first =>
  have pV := fun (h : uQ nm = true) => cB h
  have pW := fun (h : Uu nm = true) => cK h
  have pX := fun (h : nm = TM) => (show ((Lx.Jj nm 0).toNat : Int) = 45 by rw [h]; decide)
  generalize ((Lx.Jj nm 0).toNat : Int) = ch at *
  rcases oH.out with hl | hu | ⟨ha, hb⟩
  . have hch := pV hl; have hup := fF hl; cases hh : Qi vars nm with
    | false =>
      have HV := hid (show Zu p.jF vars nm xs.length = true by rw [Zu, hl, hh]; rfl); have uU := hid (show Calls Tryd.prog 19 #[.slice qs vars.length cs, .string ⟨nm.toArray⟩] w2.drew (fun e w' => e = .returned (.bool false) /\ w' = w2.drew) from by rw [<- hh]; exact Qf _ vars nm _ (JM HS (HB.out.drew))); clear hl hup hh pV pW pX; refine jU (S := fun (u : World) => Below (w.heap.size + 2) w2 u) (by kernel_rfl) ((jD _ _).drew) (fun hHeld => ?_); refine wS 0 (.int .u8 ch) rfl hHeld ?_; refine wT 1 (.bool true) rfl (Or.inl ⟨by rfl, fun w' hSw => by first | (go_simp; done) | (go_simp; omega)⟩) hHeld ?_; refine wS 2 (.bool true) rfl hHeld ?_; refine wU 3 (.int .u8 ch) rfl hHeld ?_; simp only [aP]; refine wT 4 (.bool true) rfl (Or.inl ⟨by go_simp, fun w' hSw => by first | (go_simp; done) | (go_simp; omega)⟩) hHeld ?_; simp only [aP]; refine wS 5 (.bool true) rfl hHeld ?_; refine wS 6 (.bool true) rfl hHeld ?_; refine wU 7 (.slice qs vars.length cs) rfl hHeld ?_; simp only [aP]; refine wU 8 (.pointer (some ⟨w.heap.size + 1, 1, none⟩)) rfl hHeld ?_; simp only [aP]; refine wT 9 (.string ⟨nm.toArray⟩) rfl (Or.inl ⟨by go_simp, fun w' hSw => by have h := jK ((hSw.block _ (by omega)).trans ET.out) 1 _ rfl; go_simp⟩) hHeld ?_; simp only [aP]
      try simp only [aP]
      refine wR 10 rfl (fun K hK => ?_); go_simp; refine uU.out.mono ?_; rintro e w9 ⟨rfl, rfl⟩; refine hK.out _ _ ((jD _ _).drew) (fun hHeld => ?_); clear hK K; refine wU 11 (.bool true) rfl hHeld ?_; simp only [aP]; refine wS 12 (.bool true) rfl hHeld ?_; simp only [aP]; refine wS 13 (.bool true) rfl hHeld ?_; simp only [aP]; refine wT 14 (undef) rfl (Or.inr ⟨(by first | (go_simp; done) | (go_simp; simp; done) | (go_simp; intro h; cases h)), rfl⟩) hHeld ?_; simp only [aP]; refine wT 15 (undef) rfl (Or.inr ⟨(by first | (go_simp; done) | (go_simp; simp; done) | (go_simp; intro h; cases h)), rfl⟩) hHeld ?_; simp only [aP]; refine wT 16 (undef) rfl (Or.inr ⟨(by first | (go_simp; done) | (go_simp; simp; done) | (go_simp; intro h; cases h)), rfl⟩) hHeld ?_; simp only [aP]; refine wT 17 (undef) rfl (Or.inr ⟨(by first | (go_simp; done) | (go_simp; simp; done) | (go_simp; intro h; cases h)), rfl⟩) hHeld ?_; simp only [aP]; refine wT 18 (undef) rfl (Or.inr ⟨(by first | (go_simp; done) | (go_simp; simp; done) | (go_simp; intro h; cases h)), rfl⟩) hHeld ?_; simp only [aP]; refine wT 19 (undef) rfl (Or.inr ⟨(by first | (go_simp; done) | (go_simp; simp; done) | (go_simp; intro h; cases h)), rfl⟩) hHeld ?_; simp only [aP]; refine wT 20 (undef) rfl (Or.inr ⟨(by first | (go_simp; done) | (go_simp; simp; done) | (go_simp; intro h; cases h)), rfl⟩) hHeld ?_; simp only [aP]; refine wT 21 (undef) rfl (Or.inr ⟨(by first | (go_simp; done) | (go_simp; simp; done) | (go_simp; intro h; cases h)), rfl⟩) hHeld ?_; simp only [aP]; refine wT 22 (undef) rfl (Or.inr ⟨(by first | (go_simp; done) | (go_simp; simp; done) | (go_simp; intro h; cases h)), rfl⟩) hHeld ?_; simp only [aP]; refine wT 23 (undef) rfl (Or.inr ⟨(by first | (go_simp; done) | (go_simp; simp; done) | (go_simp; intro h; cases h)), rfl⟩) hHeld ?_; simp only [aP]; refine wT 24 (undef) rfl (Or.inr ⟨(by first | (go_simp; done) | (go_simp; simp; done) | (go_simp; intro h; cases h)), rfl⟩) hHeld ?_; simp only [aP]; refine wT 25 (undef) rfl (Or.inr ⟨(by first | (go_simp; done) | (go_simp; simp; done) | (go_simp; intro h; cases h)), rfl⟩) hHeld ?_; simp only [aP]; refine wT 26 (undef) rfl (Or.inr ⟨(by first | (go_simp; done) | (go_simp; simp; done) | (go_simp; intro h; cases h)), rfl⟩) hHeld ?_; simp only [aP]; refine wT 27 (undef) rfl (Or.inr ⟨(by first | (go_simp; done) | (go_simp; simp; done) | (go_simp; intro h; cases h)), rfl⟩) hHeld ?_; simp only [aP]; refine wT 28 (undef) rfl (Or.inr ⟨(by first | (go_simp; done) | (go_simp; simp; done) | (go_simp; intro h; cases h)), rfl⟩) hHeld ?_; simp only [aP]; refine wT 29 (undef) rfl (Or.inr ⟨(by first | (go_simp; done) | (go_simp; simp; done) | (go_simp; intro h; cases h)), rfl⟩) hHeld ?_; simp only [aP]; refine wS 30 (.bool true) rfl hHeld ?_; simp only [aP]; refine wD ?_; go_wp2_with fail
      go_meet
      exact ⟨by rw [HV.out], hid ((jD _ _).drew)⟩
    | true =>
      have HV := hid (show Zu p.jF vars nm xs.length = false by rw [Zu, hl, hh, hup]; rfl); have uU := hid (show Calls Tryd.prog 19 #[.slice qs vars.length cs, .string ⟨nm.toArray⟩] w2.drew (fun e w' => e = .returned (.bool true) /\ w' = w2.drew) from by rw [<- hh]; exact Qf _ vars nm _ (JM HS (HB.out.drew))); clear hl hup hh pV pW pX; refine jU (S := fun (u : World) => Below (w.heap.size + 2) w2 u) (by kernel_rfl) ((jD _ _).drew) (fun hHeld => ?_); refine wS 0 (.int .u8 ch) rfl hHeld ?_; refine wT 1 (.bool true) rfl (Or.inl ⟨by rfl, fun w' hSw => by first | (go_simp; done) | (go_simp; omega)⟩) hHeld ?_; refine wS 2 (.bool true) rfl hHeld ?_; refine wU 3 (.int .u8 ch) rfl hHeld ?_; simp only [aP]; refine wT 4 (.bool true) rfl (Or.inl ⟨by go_simp, fun w' hSw => by first | (go_simp; done) | (go_simp; omega)⟩) hHeld ?_; simp only [aP]; refine wS 5 (.bool true) rfl hHeld ?_; refine wS 6 (.bool true) rfl hHeld ?_; refine wU 7 (.slice qs vars.length cs) rfl hHeld ?_; simp only [aP]; refine wU 8 (.pointer (some ⟨w.heap.size + 1, 1, none⟩)) rfl hHeld ?_; simp only [aP]; refine wT 9 (.string ⟨nm.toArray⟩) rfl (Or.inl ⟨by go_simp, fun w' hSw => by have h := jK ((hSw.block _ (by omega)).trans ET.out) 1 _ rfl; go_simp⟩) hHeld ?_; simp only [aP]
      try simp only [aP]
      refine wR 10 rfl (fun K hK => ?_); go_simp; refine uU.out.mono ?_; rintro e w9 ⟨rfl, rfl⟩; refine hK.out _ _ ((jD _ _).drew) (fun hHeld => ?_); clear hK K; refine wU 11 (.bool false) rfl hHeld ?_; simp only [aP]; refine wS 12 (.bool false) rfl hHeld ?_; simp only [aP]; refine wS 13 (.bool false) rfl hHeld ?_; simp only [aP]; refine wU 14 (.int .u8 ch) rfl hHeld ?_; simp only [aP]; refine wT 15 (.bool true) rfl (Or.inl ⟨by go_simp, fun w' hSw => by first | (go_simp; done) | (go_simp; omega)⟩) hHeld ?_; simp only [aP]; refine wU 16 (.bool true) rfl hHeld ?_; simp only [aP]; refine wU 17 (.int .u8 ch) rfl hHeld ?_; simp only [aP]; refine wT 18 (.bool false) rfl (Or.inl ⟨by go_simp, fun w' hSw => by first | (go_simp; done) | (go_simp; omega)⟩) hHeld ?_; simp only [aP]; refine wU 19 (.bool false) rfl hHeld ?_; simp only [aP]; refine wU 20 (.bool false) rfl hHeld ?_; simp only [aP]; refine wT 21 (undef) rfl (Or.inr ⟨(by first | (go_simp; done) | (go_simp; simp; done) | (go_simp; intro h; cases h)), rfl⟩) hHeld ?_; simp only [aP]; refine wT 22 (undef) rfl (Or.inr ⟨(by first | (go_simp; done) | (go_simp; simp; done) | (go_simp; intro h; cases h)), rfl⟩) hHeld ?_; simp only [aP]; refine wT 23 (undef) rfl (Or.inr ⟨(by first | (go_simp; done) | (go_simp; simp; done) | (go_simp; intro h; cases h)), rfl⟩) hHeld ?_; simp only [aP]; refine wT 24 (undef) rfl (Or.inr ⟨(by first | (go_simp; done) | (go_simp; simp; done) | (go_simp; intro h; cases h)), rfl⟩) hHeld ?_; simp only [aP]; refine wT 25 (undef) rfl (Or.inr ⟨(by first | (go_simp; done) | (go_simp; simp; done) | (go_simp; intro h; cases h)), rfl⟩) hHeld ?_; simp only [aP]; refine wT 26 (undef) rfl (Or.inr ⟨(by first | (go_simp; done) | (go_simp; simp; done) | (go_simp; intro h; cases h)), rfl⟩) hHeld ?_; simp only [aP]; refine wT 27 (undef) rfl (Or.inr ⟨(by first | (go_simp; done) | (go_simp; simp; done) | (go_simp; intro h; cases h)), rfl⟩) hHeld ?_; simp only [aP]; refine wT 28 (undef) rfl (Or.inr ⟨(by first | (go_simp; done) | (go_simp; simp; done) | (go_simp; intro h; cases h)), rfl⟩) hHeld ?_; simp only [aP]; refine wU 29 (.bool false) rfl hHeld ?_; simp only [aP]; refine wS 30 (.bool false) rfl hHeld ?_; simp only [aP]; refine wD ?_; go_wp2_with fail
      go_meet
      exact ⟨by rw [HV.out], hid ((jD _ _).drew)⟩
  . have hch := pW hu
    have hlo : uQ nm = false := by
     cases hl : uQ nm with
     | false => rfl
     | true => rw [fF hl] at hu; cases hu
    obtain ⟨r, hr⟩ : ∃ r, vJ p.jF nm = r := ⟨_, rfl⟩
    have HV := hid (show Zu p.jF vars nm xs.length = decide (r ≠ (xs.length : Int)) by rw [Zu, hlo, hu, hr]; simp); have Ec := hid (eu 50 p _ nm w2.drew (qz HP (HB.out.drew)) GQ); rw [hr] at Ec; clear hu hlo hr pV pW pX; by_cases hq : r = (xs.length : Int)
    . have jAD := hid (show Zu p.jF vars nm xs.length = false by rw [HV.out]; simp [hq]); clear HV; refine jU (S := fun (u : World) => Below (w.heap.size + 2) w2 u) (by kernel_rfl) ((jD _ _).drew) (fun hHeld => ?_); refine wS 0 (.int .u8 ch) rfl hHeld ?_; refine wT 1 (.bool false) rfl (Or.inl ⟨by rfl, fun w' hSw => by first | (go_simp; done) | (go_simp; omega)⟩) hHeld ?_; refine wS 2 (.bool false) rfl hHeld ?_; refine wT 3 (undef) rfl (Or.inr ⟨(by first | (go_simp; done) | (go_simp; simp; done) | (go_simp; intro h; cases h)), rfl⟩) hHeld ?_; simp only [aP]; refine wT 4 (undef) rfl (Or.inr ⟨(by first | (go_simp; done) | (go_simp; simp; done) | (go_simp; intro h; cases h)), rfl⟩) hHeld ?_; simp only [aP]; refine wS 5 (.bool false) rfl hHeld ?_; refine wS 6 (.bool false) rfl hHeld ?_; refine wT 7 (undef) rfl (Or.inr ⟨(by first | (go_simp; done) | (go_simp; simp; done) | (go_simp; intro h; cases h)), rfl⟩) hHeld ?_; simp only [aP]; refine wT 8 (undef) rfl (Or.inr ⟨(by first | (go_simp; done) | (go_simp; simp; done) | (go_simp; intro h; cases h)), rfl⟩) hHeld ?_; simp only [aP]; refine wT 9 (undef) rfl (Or.inr ⟨(by first | (go_simp; done) | (go_simp; simp; done) | (go_simp; intro h; cases h)), rfl⟩) hHeld ?_; simp only [aP]; refine wT 10 (undef) rfl (Or.inr ⟨(by first | (go_simp; done) | (go_simp; simp; done) | (go_simp; intro h; cases h)), rfl⟩) hHeld ?_; simp only [aP]; refine wT 11 (undef) rfl (Or.inr ⟨(by first | (go_simp; done) | (go_simp; simp; done) | (go_simp; intro h; cases h)), rfl⟩) hHeld ?_; simp only [aP]; refine wS 12 (.bool false) rfl hHeld ?_; refine wS 13 (.bool false) rfl hHeld ?_; refine wU 14 (.int .u8 ch) rfl hHeld ?_; simp only [aP]; refine wT 15 (.bool true) rfl (Or.inl ⟨by go_simp, fun w' hSw => by first | (go_simp; done) | (go_simp; omega)⟩) hHeld ?_; simp only [aP]; refine wU 16 (.bool true) rfl hHeld ?_; simp only [aP]; refine wU 17 (.int .u8 ch) rfl hHeld ?_; simp only [aP]; refine wT 18 (.bool true) rfl (Or.inl ⟨by go_simp, fun w' hSw => by first | (go_simp; done) | (go_simp; omega)⟩) hHeld ?_; simp only [aP]; refine wU 19 (.bool true) rfl hHeld ?_; simp only [aP]; refine wU 20 (.bool true) rfl hHeld ?_; simp only [aP]; refine wT 21 (.agg #[.slice q1 p.jF.length c1, .slice q2 p.defs.length c2]) rfl (Or.inl ⟨by go_simp, fun w' hSw => by have h0 := jK ((hSw.block _ (by omega)).trans EP.out) 0 _ rfl; have h1 := jK ((hSw.block _ (by omega)).trans EP.out) 1 _ rfl; go_simp⟩) hHeld ?_; simp only [aP]; refine wU 22 (.pointer (some ⟨w.heap.size + 1, 1, none⟩)) rfl hHeld ?_; simp only [aP]; refine wT 23 (.string ⟨nm.toArray⟩) rfl (Or.inl ⟨by go_simp, fun w' hSw => by have h := jK ((hSw.block _ (by omega)).trans ET.out) 1 _ rfl; go_simp⟩) hHeld ?_; simp only [aP]; refine wU 25 (.pointer (some ⟨w.heap.size + 1, 2, none⟩)) rfl hHeld ?_; simp only [aP]; refine wT 26 (.slice qt xs.length ct) rfl (Or.inl ⟨by go_simp, fun w' hSw => by have h := jK ((hSw.block _ (by omega)).trans ET.out) 2 _ rfl; go_simp⟩) hHeld ?_; simp only [aP]; refine wU 27 (.int .i64 (xs.length : Int)) rfl hHeld ?_; simp only [aP]
      try simp only [aP]
      refine wR 24 rfl (fun K hK => ?_); go_simp; refine Ec.out.mono ?_; rintro e w9 ⟨rfl, hb2⟩; have oL := hid (show Below (w.heap.size + 2) w2 w9 from (show Below (w.heap.size + 2) w2 w2.drew from (jD _ _).drew).trans (hb2.mono (by show _ <= w2.heap.size; omega))); refine hK.out _ _ oL.out (fun hHeld => ?_); clear hb2; clear hK K; refine wU 28 (.bool false) rfl hHeld ?_; simp only [aP]; refine wU 29 (.bool false) rfl hHeld ?_; simp only [aP]; refine wS 30 (.bool false) rfl hHeld ?_; simp only [aP]; refine wD ?_; go_wp2_with fail
      go_meet
      exact ⟨by rw [jAD.out], oL⟩
    . have jAD := hid (show Zu p.jF vars nm xs.length = true by rw [HV.out]; simp [hq]); have hq2 : (r != (xs.length : Int)) = true := by simp [hq]
      clear HV; refine jU (S := fun (u : World) => Below (w.heap.size + 2) w2 u) (by kernel_rfl) ((jD _ _).drew) (fun hHeld => ?_); refine wS 0 (.int .u8 ch) rfl hHeld ?_; refine wT 1 (.bool false) rfl (Or.inl ⟨by rfl, fun w' hSw => by first | (go_simp; done) | (go_simp; omega)⟩) hHeld ?_; refine wS 2 (.bool false) rfl hHeld ?_; refine wT 3 (undef) rfl (Or.inr ⟨(by first | (go_simp; done) | (go_simp; simp; done) | (go_simp; intro h; cases h)), rfl⟩) hHeld ?_; simp only [aP]; refine wT 4 (undef) rfl (Or.inr ⟨(by first | (go_simp; done) | (go_simp; simp; done) | (go_simp; intro h; cases h)), rfl⟩) hHeld ?_; simp only [aP]; refine wS 5 (.bool false) rfl hHeld ?_; refine wS 6 (.bool false) rfl hHeld ?_; refine wT 7 (undef) rfl (Or.inr ⟨(by first | (go_simp; done) | (go_simp; simp; done) | (go_simp; intro h; cases h)), rfl⟩) hHeld ?_; simp only [aP]; refine wT 8 (undef) rfl (Or.inr ⟨(by first | (go_simp; done) | (go_simp; simp; done) | (go_simp; intro h; cases h)), rfl⟩) hHeld ?_; simp only [aP]; refine wT 9 (undef) rfl (Or.inr ⟨(by first | (go_simp; done) | (go_simp; simp; done) | (go_simp; intro h; cases h)), rfl⟩) hHeld ?_; simp only [aP]; refine wT 10 (undef) rfl (Or.inr ⟨(by first | (go_simp; done) | (go_simp; simp; done) | (go_simp; intro h; cases h)), rfl⟩) hHeld ?_; simp only [aP]; refine wT 11 (undef) rfl (Or.inr ⟨(by first | (go_simp; done) | (go_simp; simp; done) | (go_simp; intro h; cases h)), rfl⟩) hHeld ?_; simp only [aP]; refine wS 12 (.bool false) rfl hHeld ?_; refine wS 13 (.bool false) rfl hHeld ?_; refine wU 14 (.int .u8 ch) rfl hHeld ?_; simp only [aP]; refine wT 15 (.bool true) rfl (Or.inl ⟨by go_simp, fun w' hSw => by first | (go_simp; done) | (go_simp; omega)⟩) hHeld ?_; simp only [aP]; refine wU 16 (.bool true) rfl hHeld ?_; simp only [aP]; refine wU 17 (.int .u8 ch) rfl hHeld ?_; simp only [aP]; refine wT 18 (.bool true) rfl (Or.inl ⟨by go_simp, fun w' hSw => by first | (go_simp; done) | (go_simp; omega)⟩) hHeld ?_; simp only [aP]; refine wU 19 (.bool true) rfl hHeld ?_; simp only [aP]; refine wU 20 (.bool true) rfl hHeld ?_; simp only [aP]; refine wT 21 (.agg #[.slice q1 p.jF.length c1, .slice q2 p.defs.length c2]) rfl (Or.inl ⟨by go_simp, fun w' hSw => by have h0 := jK ((hSw.block _ (by omega)).trans EP.out) 0 _ rfl; have h1 := jK ((hSw.block _ (by omega)).trans EP.out) 1 _ rfl; go_simp⟩) hHeld ?_; simp only [aP]; refine wU 22 (.pointer (some ⟨w.heap.size + 1, 1, none⟩)) rfl hHeld ?_; simp only [aP]; refine wT 23 (.string ⟨nm.toArray⟩) rfl (Or.inl ⟨by go_simp, fun w' hSw => by have h := jK ((hSw.block _ (by omega)).trans ET.out) 1 _ rfl; go_simp⟩) hHeld ?_; simp only [aP]; refine wU 25 (.pointer (some ⟨w.heap.size + 1, 2, none⟩)) rfl hHeld ?_; simp only [aP]; refine wT 26 (.slice qt xs.length ct) rfl (Or.inl ⟨by go_simp, fun w' hSw => by have h := jK ((hSw.block _ (by omega)).trans ET.out) 2 _ rfl; go_simp⟩) hHeld ?_; simp only [aP]; refine wU 27 (.int .i64 (xs.length : Int)) rfl hHeld ?_; simp only [aP]
      try simp only [aP]
      refine wR 24 rfl (fun K hK => ?_); go_simp; refine Ec.out.mono ?_; rintro e w9 ⟨rfl, hb2⟩; have oL := hid (show Below (w.heap.size + 2) w2 w9 from (show Below (w.heap.size + 2) w2 w2.drew from (jD _ _).drew).trans (hb2.mono (by show _ <= w2.heap.size; omega))); refine hK.out _ _ oL.out (fun hHeld => ?_); clear hb2; clear hK K; refine wU 28 (.bool true) rfl hHeld ?_; simp only [aP]; refine wU 29 (.bool true) rfl hHeld ?_; simp only [aP]; refine wS 30 (.bool true) rfl hHeld ?_; simp only [aP]; refine wD ?_; go_wp2_with fail
      go_meet
      exact ⟨by rw [jAD.out], oL⟩
  . have HV := hid (show Zu p.jF vars nm xs.length = false by rw [Zu, ha]; rfl); have hch : ch = 45 := pX ha; clear pV pW pX; refine jU (S := fun (u : World) => Below (w.heap.size + 2) w2 u) (by kernel_rfl) ((jD _ _).drew) (fun hHeld => ?_); refine wS 0 (.int .u8 ch) rfl hHeld ?_; refine wT 1 (.bool false) rfl (Or.inl ⟨by rfl, fun w' hSw => by first | (go_simp; done) | (go_simp; omega)⟩) hHeld ?_; refine wS 2 (.bool false) rfl hHeld ?_; refine wT 3 (undef) rfl (Or.inr ⟨(by first | (go_simp; done) | (go_simp; simp; done) | (go_simp; intro h; cases h)), rfl⟩) hHeld ?_; simp only [aP]; refine wT 4 (undef) rfl (Or.inr ⟨(by first | (go_simp; done) | (go_simp; simp; done) | (go_simp; intro h; cases h)), rfl⟩) hHeld ?_; simp only [aP]; refine wS 5 (.bool false) rfl hHeld ?_; refine wS 6 (.bool false) rfl hHeld ?_; refine wT 7 (undef) rfl (Or.inr ⟨(by first | (go_simp; done) | (go_simp; simp; done) | (go_simp; intro h; cases h)), rfl⟩) hHeld ?_; simp only [aP]; refine wT 8 (undef) rfl (Or.inr ⟨(by first | (go_simp; done) | (go_simp; simp; done) | (go_simp; intro h; cases h)), rfl⟩) hHeld ?_; simp only [aP]; refine wT 9 (undef) rfl (Or.inr ⟨(by first | (go_simp; done) | (go_simp; simp; done) | (go_simp; intro h; cases h)), rfl⟩) hHeld ?_; simp only [aP]; refine wT 10 (undef) rfl (Or.inr ⟨(by first | (go_simp; done) | (go_simp; simp; done) | (go_simp; intro h; cases h)), rfl⟩) hHeld ?_; simp only [aP]; refine wT 11 (undef) rfl (Or.inr ⟨(by first | (go_simp; done) | (go_simp; simp; done) | (go_simp; intro h; cases h)), rfl⟩) hHeld ?_; simp only [aP]; refine wS 12 (.bool false) rfl hHeld ?_; refine wS 13 (.bool false) rfl hHeld ?_; refine wU 14 (.int .u8 ch) rfl hHeld ?_; simp only [aP]; refine wT 15 (.bool false) rfl (Or.inl ⟨by go_simp, fun w' hSw => by first | (go_simp; done) | (go_simp; omega)⟩) hHeld ?_; simp only [aP]; refine wU 16 (.bool false) rfl hHeld ?_; simp only [aP]; refine wT 17 (undef) rfl (Or.inr ⟨(by first | (go_simp; done) | (go_simp; simp; done) | (go_simp; intro h; cases h)), rfl⟩) hHeld ?_; simp only [aP]; refine wT 18 (undef) rfl (Or.inr ⟨(by first | (go_simp; done) | (go_simp; simp; done) | (go_simp; intro h; cases h)), rfl⟩) hHeld ?_; simp only [aP]; refine wU 19 (.bool false) rfl hHeld ?_; simp only [aP]; refine wU 20 (.bool false) rfl hHeld ?_; simp only [aP]; refine wT 21 (undef) rfl (Or.inr ⟨(by first | (go_simp; done) | (go_simp; simp; done) | (go_simp; intro h; cases h)), rfl⟩) hHeld ?_; simp only [aP]; refine wT 22 (undef) rfl (Or.inr ⟨(by first | (go_simp; done) | (go_simp; simp; done) | (go_simp; intro h; cases h)), rfl⟩) hHeld ?_; simp only [aP]; refine wT 23 (undef) rfl (Or.inr ⟨(by first | (go_simp; done) | (go_simp; simp; done) | (go_simp; intro h; cases h)), rfl⟩) hHeld ?_; simp only [aP]; refine wT 24 (undef) rfl (Or.inr ⟨(by first | (go_simp; done) | (go_simp; simp; done) | (go_simp; intro h; cases h)), rfl⟩) hHeld ?_; simp only [aP]; refine wT 25 (undef) rfl (Or.inr ⟨(by first | (go_simp; done) | (go_simp; simp; done) | (go_simp; intro h; cases h)), rfl⟩) hHeld ?_; simp only [aP]; refine wT 26 (undef) rfl (Or.inr ⟨(by first | (go_simp; done) | (go_simp; simp; done) | (go_simp; intro h; cases h)), rfl⟩) hHeld ?_; simp only [aP]; refine wT 27 (undef) rfl (Or.inr ⟨(by first | (go_simp; done) | (go_simp; simp; done) | (go_simp; intro h; cases h)), rfl⟩) hHeld ?_; simp only [aP]; refine wT 28 (undef) rfl (Or.inr ⟨(by first | (go_simp; done) | (go_simp; simp; done) | (go_simp; intro h; cases h)), rfl⟩) hHeld ?_; simp only [aP]; refine wU 29 (.bool false) rfl hHeld ?_; simp only [aP]; refine wS 30 (.bool false) rfl hHeld ?_
    try simp only [aP]
    refine wD ?_; go_wp2_with fail
    go_meet
    exact ⟨by rw [HV.out], hid ((jD _ _).drew)⟩
 case rest =>
 obtain ⟨rfl, HQ⟩ := hcut; have U9 := hid ((HQ.out.block _ (by omega)).trans EP.out); have sw := hid ((HQ.out.block _ (by omega)).trans ET.out); have HB2 := hid (HB.out.trans (HQ.out.mono (by omega))); have hs2 : w.heap.size + 2 <= wc.heap.size := by have := HQ.out.size; omega
 clear EP ET HB HQ hsz; obtain ⟨b0, hb0⟩ : ∃ b, Zu p.jF vars nm xs.length = b := ⟨_, rfl⟩
 have HL : Hid (Zl p.jF vars (f + 1) (.mk pos nm xs) = one b0 pos ++ xs.flatMap (Zl p.jF vars f)) := hid (by rw [Zl, hb0]); rw [hb0]; clear hb0; obtain ⟨w3, hw3⟩ : ∃ x, x = wc := ⟨wc, rfl⟩
 subst hw3
 go_upto_if 43 with fail
 go_cut [7] (fun o wx => Hid (zW wx (w.heap.size + 2) o (one b0 pos)) /\ Hid (wx.heap[w.heap.size]? = some (.cells #[.slice q1 p.jF.length c1, .slice q2 p.defs.length c2] 26 (0, 0))) /\ Hid (wx.heap[w.heap.size + 1]? = some (.cells #[.int .i64 pos, .string ⟨nm.toArray⟩, .slice qt xs.length ct] 111 (0, 0))) /\ Hid (Below w.heap.size w wx))
 case first =>
  cases b0 with
  | true =>
    have y0 := xK sw 0 rfl; have HE := hid (jb w3 #[.int .i64 (pos : Int)] 3); have QO := hid (show Below w3.heap.size w3 (w3.alloc (.cells #[.int .i64 (pos : Int)] 3)) from (jD _ _).alloc (jB _) _); have Z8 : Hid (zW (w3.alloc (.cells #[.int .i64 (pos : Int)] 3)) (w.heap.size + 2) (.slice none 0 0) []) := hid (Y0 _ _); go_wp2_with (at_builtin; refine zK rfl (.tmp 44) (.tmp 47) rfl (w.heap.size + 2) _ [] rfl Z8 _ rfl [pos] (QY HE rfl rfl) (by simp) (by have := QO.out.size; omega) ?_); intro v3 w7 happ; have HB3 := hid (happ.below Z8.out (HB2.out.trans (QO.out.mono HB2.out.size)) (by have := QO.out.size; omega) (by omega)); have jAE := hid (happ.at Z8.out (jM U9 QO) (by omega)); have jGD := hid (happ.at Z8.out (jM sw QO) (by omega)); obtain ⟨p3, q3', rfl⟩ := jH happ.1; have yQ := hid happ.1; clear happ y0; go_wp2
    go_meet
    exact ⟨yQ, jAE, jGD, HB3⟩
  | false =>
    go_wp2_with fail
    go_meet
    exact ⟨hid (Y0 _ _), U9, sw, HB2⟩
 case rest =>
 clear U9 sw HB2 hs2; obtain ⟨HO, EP, ET, HB⟩ := hcut; obtain ⟨l0, hl0⟩ : ∃ l, l = one b0 pos := ⟨_, rfl⟩
 have UD : Hid (l0.length <= 1) := hid (by rw [hl0]; exact ZE _ _); have Yd := hid (show Zl p.jF vars (f + 1) (.mk pos nm xs) = l0 ++ xs.flatMap (Zl p.jF vars f) by rw [hl0]; exact HL.out); rw [<- hl0] at HO; clear hl0 HL; obtain ⟨pa, ca, rfl⟩ := jH HO; obtain ⟨w4, hw4⟩ : ∃ x, x = wc := ⟨wc, rfl⟩
 subst hw4; go_wp2_with fail
 go_loopw [7, 9] (fun o j wr => ∃ (m : Nat) (l : List Nat), j = .int .i64 m /\ m <= xs.length /\ Hid (l = l0 ++ (xs.take m).flatMap (Zl p.jF vars f)) /\ Hid (zW wr (w.heap.size + 2) o l) /\ Hid (wr.heap[w.heap.size]? = some (.cells #[.slice q1 p.jF.length c1, .slice q2 p.defs.length c2] 26 (0, 0))) /\ Hid (wr.heap[w.heap.size + 1]? = some (.cells #[.int .i64 pos, .string ⟨nm.toArray⟩, .slice qt xs.length ct] 111 (0, 0))) /\ Hid (Below w.heap.size w wr)) (fun _ j _ => xs.length - (intOf j).toNat)
 case atStart => exact ⟨0, l0, rfl, jh _, hid (by simp), HO, EP, ET, HB⟩
 case round =>
  clear EP ET HB HO; obtain ⟨m, l, rfl, hm, HM, HO, EP, ET, HB⟩ := hrel; have hs1 := ji ET; have y2 := xK ET 2 rfl; obtain ⟨va, uI, rfl⟩ := jH HO; by_cases hlt : m < xs.length
  . obtain ⟨y, hy⟩ : ∃ y, xs[m]? = some y := ⟨_, jA hlt⟩
    rcases HX.out with ⟨h0, _⟩ | ⟨g, of, c', hv, g1, g2, g3⟩
    . rw [h0] at hlt; simp at hlt
    injection hv with hq1 _ hq2
    subst hq1; subst hq2
    obtain ⟨u, hu, _, hcell⟩ := g3 m y hy; have HU := hid hu; obtain ⟨a0, a1, uq, un, uc, rfl⟩ := gu hu; have hgl : g < w.heap.size := JK w _ (hcell 0 _ rfl)
    have V4 := hid (fun (w' : World) (h : Below (w.heap.size + 2) wr w') =>
     have up : ∀ j z, (Value.agg #[.int .i64 a0, .string a1, .slice uq un uc]).cells[j]? = some z -> w'.cell? ⟨g, of + m * 3 + j, none⟩ = some z := fun j z hz => (h.cell (p := ⟨g, of + m * 3 + j, none⟩) (by dsimp only; omega)).trans (jC HB (hcell j z hz))
     (show w'.cell? ⟨g, of + m * 3, none⟩ = some (.int .i64 a0) /\ w'.cell? ⟨g, of + m * 3 + 1, none⟩ = some (.string a1) /\ w'.cell? ⟨g, of + m * 3 + 2, none⟩ = some (.slice uq un uc) from ⟨up 0 _ rfl, up 1 _ rfl, up 2 _ rfl⟩))
    have hk1 : (m : Int) < (xs.length : Int) := by omega
    have hst := Sx.QD (Sx.KS f) xs m y hy; have HST := hid hst; have HT := hid (YT (Zl p.jF vars f) xs m y hy); have jAF := hid (R8.out y (jI hy))
    have hlen : l.length + (Zl p.jF vars f y).length <= 1000000000 := by
     rw [HM.out, jE]; have h1 := ZO (Zl p.jF vars f) (Sx.KS f) (xs.take m) (fun x _ => Y2 p.jF vars f x); have h2 := Y2 p.jF vars f y; have h3 := UD.out; have := HW.out; omega
    have Yn := hid hlen; clear g1 g2 g3 hcell hu hy hst hlen; go_wp2_with fail; refine jU (S := fun (u : World) => Below (w.heap.size + 2) wr u) (by kernel_rfl) ((jD _ _).drew) (fun hHeld => ?_); refine wS 0 (.slice va l.length uI) rfl hHeld ?_; refine wT 1 (.agg #[.slice q1 p.jF.length c1, .slice q2 p.defs.length c2]) rfl (Or.inl ⟨by rfl, fun w' hSw => by have h0 := jK ((hSw.block _ (by omega)).trans EP.out) 0 _ rfl; have h1 := jK ((hSw.block _ (by omega)).trans EP.out) 1 _ rfl; go_simp⟩) hHeld ?_; refine wS 2 (.pointer (some ⟨w.heap.size + 1, 2, none⟩)) rfl hHeld ?_; refine wT 3 (.slice (some ⟨g, of, none⟩) xs.length ct) rfl (Or.inl ⟨by rfl, fun w' hSw => by have h := jK ((hSw.block _ (by omega)).trans ET.out) 2 _ rfl; go_simp⟩) hHeld ?_; refine wS 4 (.int .i64 m) rfl hHeld ?_; refine wS 5 (.pointer (some ⟨g, of + m * 3, none⟩)) rfl hHeld ?_; refine wT 6 (.agg #[.int .i64 a0, .string a1, .slice uq un uc]) rfl (Or.inl ⟨by rfl, fun w' hSw => by obtain ⟨x0, x1, x2⟩ := V4.out w' hSw; go_simp⟩) hHeld ?_; refine wS 7 (.slice qs vars.length cs) rfl hHeld ?_
    try simp only [aP]
    refine wR 8 rfl (fun K hK => ?_); go_simp; refine (ih y _ _ _ wr.drew (qz HP HB.out.drew) GQ.out (vG HU HB.out.drew) (JM HS HB.out.drew) jAF.out (by have := HST.out; have := HW.out; omega)).mono ?_; rintro e w5 ⟨v5, rfl, hb5, UR⟩; have zy := hid (show Below wr.heap.size wr w5 from Y9 hb5); have EM := hid (YR UR); have yM := hid (jc HO zy); have dM := hid (jM EP zy); have Po := hid (jM ET zy); refine hK.out _ _ (zy.out.mono (by omega)) (fun hHeld => ?_); clear hb5 UR; clear hK K; refine wR 9 rfl (fun K hK => ?_); refine ZI rfl (.tmp 56) (.tmp 64) rfl (w.heap.size + 2) _ _ rfl yM _ rfl _ EM Yn (by have := zy.out.size; omega) ?_; intro v6 w6 Z9; obtain ⟨p6, q6, rfl⟩ := jH Z9.1; have vD := hid (Z9.below yM.out (HB.out.trans (zy.out.mono (by omega))) (by have := zy.out.size; omega) (by omega)); have X9 := hid (Z9.below yM.out (zy.out.mono (B' := w.heap.size + 2) (by omega)) (by have := zy.out.size; omega) (jB _)); have Ed := hid (Z9.at yM.out dM.out (by omega)); have mU := hid (Z9.at yM.out Po.out (by omega)); have uD := hid Z9.1; have Bq : Hid (l ++ Zl p.jF vars f y = l0 ++ (xs.take (m + 1)).flatMap (Zl p.jF vars f)) := hid (by rw [HT.out, HM.out, jg]); obtain ⟨l3, hl3⟩ : ∃ l3, l3 = l ++ Zl p.jF vars f y := ⟨_, rfl⟩
    rw [<- hl3] at uD Bq ⊢; clear hl3 Z9; refine hK.out _ _ X9.out (fun hHeld => ?_); clear hK K; refine wS 10 (.slice p6 l3.length q6) rfl hHeld ?_; simp only [aP]; refine wD ?_; go_wp2_with fail
    go_roundw
    case rel => exact ⟨m + 1, l3, by go_num, by omega, Bq, uD, Ed, mU, vD⟩
    case measure => simp [intOf]; omega
  . obtain rfl : m = xs.length := by omega
    have HF := hid (show l = Zl p.jF vars (f + 1) (.mk pos nm xs) by rw [Yd.out, HM.out, jY]); go_wp2_with fail; go_ret; rw [<- HF.out]; exact ⟨_, rfl, HB.out, zx HO (by omega)⟩
theorem Xb (p : Px.Prog) (vars : List Nm) : ∀ f, cO p vars f
 | 0 => fun t pv tv sv w _ _ ht => ht.elim
 | f + 1 => pU p vars f (Xb p vars f)
end Go.Proofs.YtlnjdclmopblcaaDoor
