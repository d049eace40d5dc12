/-
 ParseJoins: its walk, up to the two programs put together.
-/
import Derived.Test.YtpkecbijhckllaaDoorKPAgain
import Derived.Test.YtpkecbijhckllaaDoorKPJoinsB
import Derived.Test.YtpkecbijhckllaaDoorKPJoinsP
import Derived.Test.YtpkecbijhckllaaDoorKPShowing
import Derived.Deep.DeepCutAuto
import Derived.Test.YtpkecbijhckllaaDoorGTop
namespace Go.Proofs.YtpkecbijhckllaaDoor
open Go Go.RowKit
set_option linter.unusedVariables false
set_option linter.unusedSimpArgs false
theorem err_form {q1 q2 : Option Addr} {n1 c1 n2 c2 : Nat} {p c P C : Int} (h : Ending.returned (.tuple #[.agg #[.slice q1 n1 c1, .slice q2 n2 c2], .int .i64 p, .int .i64 c]) = .returned (.tuple #[.agg #[.slice none 0 0, .slice none 0 0], .int .i64 P, .int .i64 C])) :
 q1 = none ∧ n1 = 0 ∧ c1 = 0 ∧ q2 = none ∧ n2 = 0 ∧ c2 = 0 ∧ p = P ∧ c = C := by
 simp at h
 obtain ⟨⟨⟨h1, h2, h3⟩, h4, h5, h6⟩, h7, h8⟩ := h
 exact ⟨h1, h2, h3, h4, h5, h6, h7, h8⟩
theorem done_form {q1 q2 : Option Addr} {n1 c1 n2 c2 : Nat} {p c : Int} {v : Value} (h : Ending.returned (.tuple #[.agg #[.slice q1 n1 c1, .slice q2 n2 c2], .int .i64 p, .int .i64 c]) = .returned (.tuple #[v, .int .i64 (-1), .int .i64 0])) :
 v = .agg #[.slice q1 n1 c1, .slice q2 n2 c2] ∧ p = -1 ∧ c = 0 := by
 simp at h
 obtain ⟨h1, h2, h3⟩ := h
 exact ⟨h1.symm, h2, h3⟩
theorem src_oneP (w : World) : SrcAt (w.alloc (.cells #[.int .u8 10] 5)) (.slice (some ⟨w.heap.size, 0, none⟩) 1 1) [10] := by
 refine .inr ⟨⟨w.heap.size, 0, none⟩, 1, rfl, fun j u hu => ?_⟩
 have hj : j = 0 := by
  have := (List.getElem?_eq_some_iff.1 hu).1
  simp at this; omega
 subst hj
 have hu' : u = .int .u8 10 := by
  have : some (Value.int .u8 ((10 : UInt8).toNat : Int)) = some u := hu
  exact (Option.some.inj this).symm
 subst hu'
 show (w.alloc (.cells #[.int .u8 10] 5)).cell? ⟨w.heap.size, 0, none⟩ = _
 rw [World.cell?_alloc_mark]; rfl
set_option maxHeartbeats 4000000 in
set_option maxRecDepth 100000 in
theorem parseJoins_walk (w : World) (a0 : Option Addr) (len0 cap0 : Nat) (a1 : Option Addr) (len1 cap1 : Nat) (la lb : List UInt8)
 (hsa : SrcAt w (.slice a0 len0 cap0) la) (hsb : SrcAt w (.slice a1 len1 cap1) lb) (hta : SliceAt w (.slice a0 len0 cap0) la) (htb : SliceAt w (.slice a1 len1 cap1) lb)
 (hla : la.length = len0) (hlb : lb.length = len1) (hra : len0 ≤ 140737488351232) (hrb : len1 ≤ 140737488351232) (htab : Lib.TabIs Tryd.prog w "internal/strconv.uint64pow10" .u64 Lib.pow10Tab) :
 Calls Tryd.prog 5 #[.slice a0 len0 cap0, .slice a1 len1 cap1] w fun e w' => e = .returned (.bool true) ∧ Below w.heap.size w w' := by
 have HSA := Lib.hid hsa; have HSB := Lib.hid hsb; have HTA := Lib.hid hta; have HTB := Lib.hid htb; have HLA := Lib.hid hla; have HLB := Lib.hid hlb; have HTAB := Lib.hid htab
 clear hsa hsb hta htb hla hlb htab
 go_enter Tryd.func5, Tryd.ntmps5
 go_wp2_with fail
 refine (livesP_any _).mono ?_
 rintro e w1 ⟨rfl, hb1⟩
 have HB1 := Lib.hid hb1; clear hb1
 by_cases hlong : 2000 < len0 + len1
 · have hl2 : (2000 : Int) < (len0 : Int) + len1 := by omega
   go_wp2_with fail
   refine (livesP_any _).mono ?_
   rintro e w2 ⟨rfl, hb2⟩
   have HB2 := Lib.hid (HB1.out.trans (hb2.mono HB1.out.size)); clear hb2
   go_wp2_with fail
   go_ret
   exact ⟨rfl, HB2.out⟩
 · have hl2 : ¬ (2000 : Int) < (len0 : Int) + len1 := by omega
   have ho0 := Lib.hid (own_empty w1)
   have hr1 := Lib.hid (show ([] : List UInt8).length + la.length ≤ 140737488355328 by rw [HLA.out, List.length_nil]; omega)
   have hr2 := Lib.hid (show la.length + [(10 : UInt8)].length ≤ 140737488355328 by rw [HLA.out, List.length_singleton]; omega)
   have hr3 := Lib.hid (show (la ++ [(10 : UInt8)]).length + lb.length ≤ 140737488355328 by rw [List.length_append, HLA.out, HLB.out, List.length_singleton]; omega)
   have hs1 := HB1.out.size
   go_wp2_with (at_builtin; refine wpList_append_bytes rfl (.tmp 27) (.tmp 28) rfl w1.heap.size _ [] la rfl ho0.out _ rfl ((HSA.out.below HB1.out).below ((Below.refl _ _).alloc (Nat.le_refl _) _)) hr1.out (by simp) ?_)
   intro v2 w2 hown2 hg2
   have hB2 := (HB1.out.alloc hs1 (.cells #[] 5)).grown hg2 (by simp; omega) (fun k hk => by cases hk; exact hs1)
   have HB2 := Lib.hid hB2; have HO2 := Lib.hid hown2
   have hs2 := hB2.size
   have hb12 : w1.heap.size ≤ w2.heap.size := by have := hg2.size; simp at this; omega
   clear hB2 hown2 hg2
   go_wp2_with (at_builtin; refine wpList_append_bytes rfl (.tmp 29) (.tmp 30) rfl w1.heap.size _ la [10] rfl (HO2.out.alloc _) _ rfl (src_oneP w2) hr2.out (by simp; omega) ?_)
   intro v3 w3 hown3 hg3
   have hB3 := (HB2.out.alloc hs2 (.cells #[.int .u8 10] 5)).grown hg3 (by simp; omega) (fun k hk => by have := (HO2.out.lt k hk).1; omega)
   have hown3' : w3.ownsRow w1.heap.size 5 1 v3 (la ++ [(10 : UInt8)]).length ((la ++ [(10 : UInt8)]).map byteV) := by simpa using hown3
   have HB3 := Lib.hid hB3; have HO3 := Lib.hid hown3'
   have hs3 := hB3.size
   have hb13 : w1.heap.size ≤ w3.heap.size := by have := hg3.size; simp at this; omega
   clear hB3 hown3 hown3' hg3
   go_wp2_with (at_builtin; refine wpList_append_bytes rfl (.tmp 31) (.tmp 32) rfl w1.heap.size _ (la ++ [10]) lb rfl HO3.out _ rfl (HSB.out.below HB3.out) hr3.out hb13 ?_)
   intro v4 w4 hown4 hg4
   have hB4 := HB3.out.grown hg4 hs3 (fun k hk => by have := (HO3.out.lt k hk).1; omega)
   have hown4' : w4.ownsRow w1.heap.size 5 1 v4 (la ++ 10 :: lb).length ((la ++ 10 :: lb).map byteV) := by simpa using hown4
   have HB4 := Lib.hid hB4; have HO4 := Lib.hid hown4'
   clear hB4 hown4 hown4' hg4
   go_wp2_with fail
   refine (Program_any _ la _ (HTA.out.below HB4.out)).mono ?_
   rintro e w5 hx
   have hB5 := hx.1
   have HX := Lib.hid hx
   obtain ⟨p1, n1, c1, p2, n2, c2, px, cx, rfl⟩ := parsed_form hx
   have HB5 := Lib.hid hB5
   clear hB5 hx
   go_wp2_with fail
   have hal5 : Below w5.heap.size w5 (w5.alloc (.cells #[.slice p1 n1 c1, .slice p2 n2 c2] 27)) := (Below.refl _ _).alloc (Nat.le_refl _) _
   have HA5 := Lib.hid (HB5.out.trans (hal5.mono HB5.out.size))
   have HB5' := Lib.hid (HB4.out.trans (HA5.out.mono HB4.out.size))
   clear hal5
   refine (Program_any _ lb _ (HTB.out.below HB5'.out)).mono ?_
   rintro e w6 hx
   have hB6 := hx.1
   have HY := Lib.hid hx
   obtain ⟨p3, n3, c3, p4, n4, c4, py, cy, rfl⟩ := parsed_form hx
   have HB6 := Lib.hid hB6
   clear hB6 hx
   go_wp2_with fail
   have hal6 : Below w6.heap.size w6 (w6.alloc (.cells #[.slice p3 n3 c3, .slice p4 n4 c4] 27)) := (Below.refl _ _).alloc (Nat.le_refl _) _
   have HA6 := Lib.hid (HB6.out.trans (hal6.mono HB6.out.size))
   clear hal6
   have hall := sliceAt_own (own_kept (own_kept HO4.out HA5.out) HA6.out)
   refine (Program_any _ (la ++ 10 :: lb) _ hall).mono ?_
   rintro e w7 hx
   have hB7 := hx.1
   have HZ := Lib.hid hx
   obtain ⟨p5, n5, c5, p6, n6, c6, pz, cz, rfl⟩ := parsed_form hx
   have HB6' := Lib.hid (HB5'.out.trans (HA6.out.mono HB5'.out.size))
   have HB7 := Lib.hid (HB6'.out.trans (hB7.mono HB6'.out.size))
   have HW7 := Lib.hid (hB7.alloc hB7.size (.cells #[.slice p5 n5 c5, .slice p6 n6 c6] 27))
   clear hB7 hx hall
   have hl20 : la.length + lb.length ≤ 2000 := by rw [HLA.out, HLB.out]; omega
   clear HO2 HO3 HO4 ho0 hr1 hr2 hr3
   have HB7A := Lib.hid (HB7.out.alloc HB7.out.size (.cells #[.slice p5 n5 c5, .slice p6 n6 c6] 27))
   cases hpa : Px.program la with
   | lex i =>
    have hx := HX.out.2
    have hz := HZ.out.2
    rw [hpa] at hx
    rw [Px.joins_first hl20 hpa] at hz
    obtain ⟨rfl, rfl, rfl, rfl, rfl, rfl, rfl, rfl⟩ := err_form hx
    obtain ⟨rfl, rfl, rfl, rfl, rfl, rfl, rfl, rfl⟩ := err_form hz
    clear hpa hx hz HX HY HZ
    go_wp2_with fail
    go_ret
    exact ⟨rfl, HB7A.out⟩
   | parse i =>
    have hx := HX.out.2
    rw [hpa] at hx
    obtain ⟨rfl, rfl, rfl, rfl, rfl, rfl, rfl, rfl⟩ := err_form hx
    by_cases hpb : ∃ k, Px.program lb = .lex k
    · obtain ⟨k, hpb⟩ := hpb
      have hy := HY.out.2
      have hz := HZ.out.2
      rw [hpb] at hy
      rw [Px.joins_second hl20 (fun q e => by rw [hpa] at e; cases e) hpb] at hz
      have hk := Px.program_lex_le hpb
      have hcast : ((la.length + 1 + k : Nat) : Int) = (len0 : Int) + 1 + k := by rw [HLA.out]; omega
      obtain ⟨rfl, rfl, rfl, rfl, rfl, rfl, rfl, rfl⟩ := err_form hy
      simp only [hcast] at hz
      obtain ⟨rfl, rfl, rfl, rfl, rfl, rfl, rfl, rfl⟩ := err_form hz
      clear hpa hpb hx hy hz HX HY HZ hcast
      go_wp2_with fail
      go_ret
      exact ⟨rfl, HB7A.out⟩
    · have hnb : ∀ k, Px.program lb ≠ .lex k := fun k e => hpb ⟨k, e⟩
      have hcy : cy = 0 ∨ cy = 3 := by
       have hy := HY.out.2
       cases hyy : Px.program lb with
       | lex k => exact absurd hyy (hnb k)
       | parse k => rw [hyy] at hy; exact .inr (err_form hy).2.2.2.2.2.2.2
       | done y => rw [hyy] at hy; obtain ⟨v, hv, _⟩ := hy; exact .inl (done_form hv).2.2
      by_cases hi : i < la.length
      · have hz := HZ.out.2
        rw [Px.joins_wrong hl20 hpa hi hnb] at hz
        obtain ⟨rfl, rfl, rfl, rfl, rfl, rfl, rfl, rfl⟩ := err_form hz
        rw [HLA.out] at hi
        have hi2 : ¬ (len0 : Int) ≤ (i : Int) := by omega
        clear hpa hpb hx hz HX HY HZ hnb
        rcases hcy with rfl | rfl
        · go_wp2_with fail
          go_ret
          exact ⟨rfl, HB7A.out⟩
        · go_wp2_with fail
          go_ret
          exact ⟨rfl, HB7A.out⟩
      · rw [HLA.out] at hi
        have hi2 : (len0 : Int) ≤ (i : Int) := by omega
        clear hpa hpb hx HX HY HZ hnb
        rcases hcy with rfl | rfl
        · go_wp2_with fail
          go_ret
          exact ⟨rfl, HB7A.out⟩
        · go_wp2_with fail
          go_ret
          exact ⟨rfl, HB7A.out⟩
   | done x =>
    have hx := HX.out.2
    rw [hpa] at hx
    obtain ⟨vx, hvx, hnx⟩ := hx
    obtain ⟨rfl, rfl, rfl⟩ := done_form hvx
    by_cases hpb : ∃ k, Px.program lb = .lex k
    · obtain ⟨k, hpb⟩ := hpb
      have hy := HY.out.2
      have hz := HZ.out.2
      rw [hpb] at hy
      rw [Px.joins_second hl20 (fun q e => by rw [hpa] at e; cases e) hpb] at hz
      have hk := Px.program_lex_le hpb
      have hcast : ((la.length + 1 + k : Nat) : Int) = (len0 : Int) + 1 + k := by rw [HLA.out]; omega
      obtain ⟨rfl, rfl, rfl, rfl, rfl, rfl, rfl, rfl⟩ := err_form hy
      simp only [hcast] at hz
      obtain ⟨rfl, rfl, rfl, rfl, rfl, rfl, rfl, rfl⟩ := err_form hz
      clear hpa hpb hvx hnx hy hz HX HY HZ hcast
      go_wp2_with fail
      go_ret
      exact ⟨rfl, HB7A.out⟩
    · have hnb : ∀ k, Px.program lb ≠ .lex k := fun k e => hpb ⟨k, e⟩
      have hcy : cy = 0 ∨ cy = 3 := by
       have hy := HY.out.2
       cases hyy : Px.program lb with
       | lex k => exact absurd hyy (hnb k)
       | parse k => rw [hyy] at hy; exact .inr (err_form hy).2.2.2.2.2.2.2
       | done y => rw [hyy] at hy; obtain ⟨v, hv, _⟩ := hy; exact .inl (done_form hv).2.2
      have hx1 : (w7.alloc (.cells #[.slice p5 n5 c5, .slice p6 n6 c6] 27)).cell? ⟨w5.heap.size, 0, none⟩ = some (.slice p1 n1 c1) := by
       have e1 : (w5.alloc (.cells #[.slice p1 n1 c1, .slice p2 n2 c2] 27)).cell? ⟨w5.heap.size, 0, none⟩ = some (.slice p1 n1 c1) := by rw [World.cell?_alloc_mark]; rfl
       have e2 := (HA6.out.cell (World.block_lt_of_cell? _ _ e1)).trans e1
       exact (HW7.out.cell (World.block_lt_of_cell? _ _ e2)).trans e2
      have hx2 : (w7.alloc (.cells #[.slice p5 n5 c5, .slice p6 n6 c6] 27)).cell? ⟨w5.heap.size, 1, none⟩ = some (.slice p2 n2 c2) := by
       have e1 : (w5.alloc (.cells #[.slice p1 n1 c1, .slice p2 n2 c2] 27)).cell? ⟨w5.heap.size, 1, none⟩ = some (.slice p2 n2 c2) := by rw [World.cell?_alloc_mark]; rfl
       have e2 := (HA6.out.cell (World.block_lt_of_cell? _ _ e1)).trans e1
       exact (HW7.out.cell (World.block_lt_of_cell? _ _ e2)).trans e2
      have hlen : n1 = x.datas.length ∧ n2 = x.defs.length := by
       obtain ⟨dv, fv, he, h1, h2⟩ := hnx.now
       obtain ⟨q1, d1, rfl⟩ := h1.len
       obtain ⟨q2, d2, rfl⟩ := h2.len
       simp at he
       exact ⟨he.1.2.1, he.2.2.1⟩
      have hsz := Px.program_size hpa
      unfold Px.Prog.size at hsz
      rw [← hlen.1, ← hlen.2] at hsz
      have hct : lb.count 40 ≤ 2000 := Nat.le_trans List.count_le_length (by omega)
      obtain ⟨C, hC⟩ : ∃ C, C = lb.count 40 := ⟨_, rfl⟩
      rw [← hC] at hct
      have s1 : IntKind.i64.wrap ((n1 : Int) + (n2 : Int)) = (n1 : Int) + (n2 : Int) := IntWalk.i64_in _ (by omega)
      have s2 : IntKind.i64.wrap ((n1 : Int) + (n2 : Int) + (C : Int)) = (n1 : Int) + (n2 : Int) + (C : Int) := IntWalk.i64_in _ (by omega)
      have hls := fun W (hw : Below w.heap.size w W) => lists_any (.slice a1 len1 cap1) lb W (sliceAt_below HTB.out hw) (by omega)
      rw [← hC] at hls
      have HLS := Lib.hid hls
      have HNX := Lib.hid hnx; have HPA := Lib.hid hpa; have HNB := Lib.hid hnb; have HC := Lib.hid hC; have HLEN := Lib.hid hlen
      clear hpa hpb hvx hnx hnb hls hC hlen
      have hyl := HY.out.2
      cases hyy : Px.program lb with
      | lex k => exact absurd hyy (HNB.out k)
      | parse k =>
       rw [hyy] at hyl
       obtain ⟨rfl, rfl, rfl, rfl, rfl, rfl, rfl, rfl⟩ := err_form hyl
       clear hyl hcy
       by_cases hbig : (100 : Int) < (n1 : Int) + n2 + C
       · clear hyy HX HY HZ
         go_wp2_with fail
         go_quiet ((go_at_call 13; exact Calls.quiet_of_same (HLS.out _ (below_dn HB7A.out _))))
         go_wp2_with fail
         go_ret
         exact ⟨rfl, below_dn HB7A.out _⟩
       · have hz := HZ.out.2
         have hjp := Px.joins_parts hl20 HPA.out HNB.out (by unfold Px.Prog.size; rw [← HLEN.out.1, ← HLEN.out.2, ← HC.out]; omega)
         rw [hyy] at hjp
         dsimp only at hjp
         have hk := Px.program_parse_le hyy
         have hcast : ((la.length + 1 + k : Nat) : Int) = (len0 : Int) + 1 + k := by rw [HLA.out]; omega
         rw [hjp] at hz
         obtain ⟨rfl, rfl, rfl, rfl, rfl, rfl, hpz, rfl⟩ := err_form hz
         rw [hcast] at hpz
         subst hpz
         clear hyy HX HY HZ hjp hz
         go_wp2_with fail
         go_quiet ((go_at_call 13; exact Calls.quiet_of_same (HLS.out _ (below_dn HB7A.out _))))
         go_wp2_with fail
         go_ret
         exact ⟨rfl, below_dn HB7A.out _⟩
      | done y =>
       rw [hyy] at hyl
       obtain ⟨vy, hvy, hny⟩ := hyl
       obtain ⟨rfl, rfl, rfl⟩ := done_form hvy
       clear hvy hcy
       by_cases hbig : (100 : Int) < (n1 : Int) + n2 + C
       · clear hyy hny HX HY HZ
         go_wp2_with fail
         go_quiet ((go_at_call 13; exact Calls.quiet_of_same (HLS.out _ (below_dn HB7A.out _))))
         go_wp2_with fail
         go_ret
         exact ⟨rfl, below_dn HB7A.out _⟩
       · have hz := HZ.out.2
         have hjp := Px.joins_parts hl20 HPA.out HNB.out (by unfold Px.Prog.size; rw [← HLEN.out.1, ← HLEN.out.2, ← HC.out]; omega)
         rw [hyy] at hjp
         obtain ⟨z, hjz, hshow⟩ := hjp
         rw [hjz] at hz
         obtain ⟨vz, hvz, hnz⟩ := hz
         obtain ⟨rfl, rfl, rfl⟩ := done_form hvz
         have hnx7 : ProgAt 50 (w7.alloc (.cells #[.slice p5 n5 c5, .slice p6 n6 c6] 27)) (.agg #[.slice p1 n1 c1, .slice p2 n2 c2]) x := progAt_below (HNX.out.now) (((Below.refl _ _).alloc (Nat.le_refl _) _).trans ((HA6.out.trans (HW7.out.mono HA6.out.size)).mono (by simp)))
         have hny7 : ProgAt 50 (w7.alloc (.cells #[.slice p5 n5 c5, .slice p6 n6 c6] 27)) (.agg #[.slice p3 n3 c3, .slice p4 n4 c4]) y := progAt_below (hny.now) (((Below.refl _ _).alloc (Nat.le_refl _) (.cells #[.slice p3 n3 c3, .slice p4 n4 c4] 27)).trans (HW7.out.mono (by simp)))
         have hnz7 : ProgAt 50 (w7.alloc (.cells #[.slice p5 n5 c5, .slice p6 n6 c6] 27)) (.agg #[.slice p5 n5 c5, .slice p6 n6 c6]) z := progAt_below (hnz.now) ((Below.refl _ _).alloc (Nat.le_refl _) _)
         have hy1 : (w7.alloc (.cells #[.slice p5 n5 c5, .slice p6 n6 c6] 27)).cell? ⟨w6.heap.size, 0, none⟩ = some (.slice p3 n3 c3) := by
          have e1 : (w6.alloc (.cells #[.slice p3 n3 c3, .slice p4 n4 c4] 27)).cell? ⟨w6.heap.size, 0, none⟩ = some (.slice p3 n3 c3) := by rw [World.cell?_alloc_mark]; rfl
          exact (HW7.out.cell (World.block_lt_of_cell? _ _ e1)).trans e1
         have hy2 : (w7.alloc (.cells #[.slice p5 n5 c5, .slice p6 n6 c6] 27)).cell? ⟨w6.heap.size, 1, none⟩ = some (.slice p4 n4 c4) := by
          have e1 : (w6.alloc (.cells #[.slice p3 n3 c3, .slice p4 n4 c4] 27)).cell? ⟨w6.heap.size, 1, none⟩ = some (.slice p4 n4 c4) := by rw [World.cell?_alloc_mark]; rfl
          exact (HW7.out.cell (World.block_lt_of_cell? _ _ e1)).trans e1
         have hz1 : (w7.alloc (.cells #[.slice p5 n5 c5, .slice p6 n6 c6] 27)).cell? ⟨w7.heap.size, 0, none⟩ = some (.slice p5 n5 c5) := by rw [World.cell?_alloc_mark]; rfl
         have hz2 : (w7.alloc (.cells #[.slice p5 n5 c5, .slice p6 n6 c6] 27)).cell? ⟨w7.heap.size, 1, none⟩ = some (.slice p6 n6 c6) := by rw [World.cell?_alloc_mark]; rfl
         have hwz := Px.program_whole _ _ hjz
         have hwx := Px.program_whole _ _ HPA.out
         have hwy := Px.program_whole _ _ hyy
         have hww := Px.program_weight _ _ hjz
         have hyl : n3 = y.datas.length ∧ n4 = y.defs.length := by
          obtain ⟨dv, fv, he, h1, h2⟩ := hny.now
          obtain ⟨q1, d1, rfl⟩ := h1.len
          obtain ⟨q2, d2, rfl⟩ := h2.len
          simp at he
          exact ⟨he.1.2.1, he.2.2.1⟩
         have hyz := Px.program_size hyy
         unfold Px.Prog.size at hyz
         have Khnx7 := Lib.hid hnx7
         have Khny7 := Lib.hid hny7
         have Khnz7 := Lib.hid hnz7
         have Khwz := Lib.hid hwz
         have Khwx := Lib.hid hwx
         have Khwy := Lib.hid hwy
         have Khww := Lib.hid hww
         have Khshow := Lib.hid hshow
         have Khyl := Lib.hid hyl
         have Khyz := Lib.hid hyz
         clear hyy hny HX HY HZ hjz hvz hnz hnx7 hny7 hnz7 hwz hwx hwy hww hshow hyl hyz
         go_upto_region 13 with fail
         go_quiet ((go_at_call 13; exact Calls.quiet_of_same (HLS.out _ (below_dn HB7A.out _))))
         go_upto_region 17 with fail
         obtain ⟨W0, hW0⟩ : ∃ W, W = (w7.alloc (.cells #[.slice p5 n5 c5, .slice p6 n6 c6] 27)).drewN nq := ⟨_, rfl⟩
         have hb0 : Below (w7.alloc (.cells #[.slice p5 n5 c5, .slice p6 n6 c6] 27)).heap.size (w7.alloc (.cells #[.slice p5 n5 c5, .slice p6 n6 c6] 27)) W0 := by rw [hW0]; exact below_dn (Below.refl _ _) _
         have HBW := Lib.hid (HB7A.out.trans (hb0.mono HB7A.out.size))
         replace Khnx7 := Lib.hid (progAt_below Khnx7.out hb0)
         replace Khny7 := Lib.hid (progAt_below Khny7.out hb0)
         replace Khnz7 := Lib.hid (progAt_below Khnz7.out hb0)
         replace hx1 := (hb0.cell (World.block_lt_of_cell? _ _ hx1)).trans hx1
         replace hx2 := (hb0.cell (World.block_lt_of_cell? _ _ hx2)).trans hx2
         replace hy1 := (hb0.cell (World.block_lt_of_cell? _ _ hy1)).trans hy1
         replace hy2 := (hb0.cell (World.block_lt_of_cell? _ _ hy2)).trans hy2
         replace hz1 := (hb0.cell (World.block_lt_of_cell? _ _ hz1)).trans hz1
         replace hz2 := (hb0.cell (World.block_lt_of_cell? _ _ hz2)).trans hz2
         have HZ1 := Lib.hid hz1; have HZ2 := Lib.hid hz2
         rw [← hW0]
         clear hW0 hb0
         have hS0 : ∀ u, Below W0.heap.size W0 u → (Below W0.heap.size W0 u ∧ u.cell? ⟨w5.heap.size, 0, none⟩ = some (.slice p1 n1 c1) ∧ u.cell? ⟨w5.heap.size, 1, none⟩ = some (.slice p2 n2 c2) ∧ u.cell? ⟨w6.heap.size, 0, none⟩ = some (.slice p3 n3 c3) ∧ u.cell? ⟨w6.heap.size, 1, none⟩ = some (.slice p4 n4 c4)) := fun u hu => ⟨hu, (hu.cell (World.block_lt_of_cell? _ _ hx1)).trans hx1, (hu.cell (World.block_lt_of_cell? _ _ hx2)).trans hx2, (hu.cell (World.block_lt_of_cell? _ _ hy1)).trans hy1, (hu.cell (World.block_lt_of_cell? _ _ hy2)).trans hy2⟩
         have HSS := Lib.hid hS0
         obtain ⟨dv, fv, he, hrd, hrf⟩ := Khnx7.out
         simp only [Value.agg.injEq, Array.mk.injEq, List.cons.injEq, and_true] at he
         obtain ⟨rfl, rfl⟩ := he
         have KXD := Lib.hid hrd; have KXF := Lib.hid hrf
         clear hrd hrf
         obtain ⟨dv, fv, he, hrd, hrf⟩ := Khny7.out
         simp only [Value.agg.injEq, Array.mk.injEq, List.cons.injEq, and_true] at he
         obtain ⟨rfl, rfl⟩ := he
         have KYD := Lib.hid hrd; have KYF := Lib.hid hrf
         clear hrd hrf
         have HCAP := Lib.hid (show x.datas.length + x.defs.length ≤ 100 ∧ y.datas.length + y.defs.length ≤ 100 from ⟨by rw [← HLEN.out.1, ← HLEN.out.2]; exact hsz, Khyz.out⟩)
         go_cut [15] (fun s wx => ∃ (c : Nat) (va vb : Value), s = .pointer (some ⟨c, 0, none⟩) ∧ Below W0.heap.size W0 wx ∧ wx.heap[c]? = some (.cells #[va, vb] 27 (0, 0)) ∧ ProgAt 50 wx (.agg #[va, vb]) (x.add y))
         case first =>
          refine wp_region_held_drew (S := fun u => (Below W0.heap.size W0 u ∧ u.cell? ⟨w5.heap.size, 0, none⟩ = some (.slice p1 n1 c1) ∧ u.cell? ⟨w5.heap.size, 1, none⟩ = some (.slice p2 n2 c2) ∧ u.cell? ⟨w6.heap.size, 0, none⟩ = some (.slice p3 n3 c3) ∧ u.cell? ⟨w6.heap.size, 1, none⟩ = some (.slice p4 n4 c4))) rfl (HSS.out _ (Below.drew (Below.refl _ _))) (fun hHeld => ?_)
          refine wpAnyH_take (i := 1) (v := .pointer (some ⟨w5.heap.size, 0, none⟩)) rfl (by kernel_rfl) (by kernel_rfl) (by kernel_rfl) (fun _ _ _ h => h) (Or.inl ⟨by rfl, fun w' hSw => by go_simp⟩) hHeld ?_
          refine wpAnyH_take (i := 2) (v := .slice p1 n1 c1) rfl (by kernel_rfl) (by kernel_rfl) (by kernel_rfl) (fun _ _ _ h => h) (Or.inl ⟨by rfl, fun w' hSw => by go_simp⟩) hHeld ?_
          refine wpAnyH_take (i := 4) (v := .pointer (some ⟨w6.heap.size, 0, none⟩)) rfl (by kernel_rfl) (by kernel_rfl) (by kernel_rfl) (fun _ _ _ h => h) (Or.inl ⟨by rfl, fun w' hSw => by go_simp⟩) hHeld ?_
          refine wpAnyH_take (i := 5) (v := .slice p3 n3 c3) rfl (by kernel_rfl) (by kernel_rfl) (by kernel_rfl) (fun _ _ _ h => h) (Or.inl ⟨by rfl, fun w' hSw => by go_simp⟩) hHeld ?_
          refine wpAnyH_take (i := 8) (v := .pointer (some ⟨w5.heap.size, 1, none⟩)) rfl (by kernel_rfl) (by kernel_rfl) (by kernel_rfl) (fun _ _ _ h => h) (Or.inl ⟨by rfl, fun w' hSw => by go_simp⟩) hHeld ?_
          refine wpAnyH_take (i := 9) (v := .slice p2 n2 c2) rfl (by kernel_rfl) (by kernel_rfl) (by kernel_rfl) (fun _ _ _ h => h) (Or.inl ⟨by rfl, fun w' hSw => by go_simp⟩) hHeld ?_
          refine wpAnyH_take (i := 11) (v := .pointer (some ⟨w6.heap.size, 1, none⟩)) rfl (by kernel_rfl) (by kernel_rfl) (by kernel_rfl) (fun _ _ _ h => h) (Or.inl ⟨by rfl, fun w' hSw => by go_simp⟩) hHeld ?_
          refine wpAnyH_take (i := 12) (v := .slice p4 n4 c4) rfl (by kernel_rfl) (by kernel_rfl) (by kernel_rfl) (fun _ _ _ h => h) (Or.inl ⟨by rfl, fun w' hSw => by go_simp⟩) hHeld ?_
          simp only [Act.put, List.setIfInBounds_toArray, List.set_cons_zero, List.set_cons_succ]
          have HP0 := Lib.hid (Pcs.start (Below.drew (Below.refl W0.heap.size W0)))
          generalize W0.drew = w999 at HP0 hHeld ⊢
          refine ready3 (i := 0) (j := 7) (k := 15) (by kernel_rfl) rfl rfl rfl (fun K hK => ?_) (fun K hK => ?_) (fun K hK => ?_)
          · go_simp
            have HP1 := Lib.hid (Pcs.allocA HP0.out)
            refine hK.out _ _ (HSS.out _ HP1.out.bel) (fun hHeld => ?_); clear hK K
            generalize w999.alloc (.cells #[] 83) = w1 at HP1 hHeld ⊢
            refine ready3 (i := 3) (j := 7) (k := 15) (by kernel_rfl) rfl rfl rfl (fun K hK => ?_) (fun K hK => ?_) (fun K hK => ?_)
            · refine HP1.out.addA0 HSS.out hK rfl (.tmp 118) (.tmp 120) rfl rfl _ rfl x.datas KXD.out (by have := HCAP.out; omega) ?_
              intro p2 c2 w2 u2 HR2 HZ2 HP2 hHeld; clear hK K
              refine ready3 (i := 6) (j := 7) (k := 15) (by kernel_rfl) rfl rfl rfl (fun K hK => ?_) (fun K hK => ?_) (fun K hK => ?_)
              · refine HP2.out.addA HSS.out hK rfl (.tmp 121) (.tmp 123) rfl rfl _ rfl y.datas KYD.out (by have := HCAP.out; omega) ?_
                intro p3 c3 w3 u3 HR3 HZ3 HP3 hHeld; clear hK K
                refine ready2 (i := 7) (j := 15) (by kernel_rfl) rfl rfl (fun K hK => ?_) (fun K hK => ?_)
                · go_simp
                  have HP4 := Lib.hid (Pcs.allocB HP3.out)
                  refine hK.out _ _ (HSS.out _ HP4.out.bel) (fun hHeld => ?_); clear hK K
                  generalize w3.alloc (.cells #[] 46) = w4 at HP4 hHeld ⊢
                  refine ready2 (i := 10) (j := 15) (by kernel_rfl) rfl rfl (fun K hK => ?_) (fun K hK => ?_)
                  · refine HP4.out.addB0 HSS.out hK rfl (.tmp 125) (.tmp 127) rfl rfl _ rfl x.defs KXF.out (by have := HCAP.out; omega) ?_
                    intro p5 c5 w5 u5 HR5 HZ5 HP5 hHeld; clear hK K
                    refine ready2 (i := 13) (j := 15) (by kernel_rfl) rfl rfl (fun K hK => ?_) (fun K hK => ?_)
                    · refine HP5.out.addB HSS.out hK rfl (.tmp 128) (.tmp 130) rfl rfl _ rfl y.defs KYF.out (by have := HCAP.out; omega) ?_
                      intro p6 c6 w6 u6 HR6 HZ6 HP6 hHeld; clear hK K
                      refine ready2 (i := 14) (j := 15) (by kernel_rfl) rfl rfl (fun K hK => ?_) (fun K hK => ?_)
                      · go_simp
                        refine hK.out _ _ (HSS.out _ HP6.out.bel) (fun hHeld => ?_); clear hK K
                        refine ready1 (i := 15) (by kernel_rfl) rfl (fun K hK => ?_)
                        go_simp
                        have HP8 := Lib.hid (Pcs.allocC HP6.out)
                        refine hK.out _ _ (HSS.out _ HP8.out.bel) (fun hHeld => ?_); clear hK K
                        generalize w6.alloc (.cells #[.slice none 0 0, .slice none 0 0] 27) = w8 at HP8 hHeld ⊢
                        refine ready1 (i := 16) (by kernel_rfl) rfl (fun K hK => ?_)
                        have hdn := Pcs.done HP8.out (ds := x.datas ++ y.datas) (fs := x.defs ++ y.defs) (by simp) (by simp) (Reps.append HR2.out HR3.out) (Reps.append HR5.out HR6.out) (fun u hu => (List.mem_append.1 hu).elim (HZ2.out u) (HZ3.out u)) (fun u hu => (List.mem_append.1 hu).elim (HZ5.out u) (HZ6.out u))
                        have hcc := HP8.out.c _ rfl
                        have HDN := Lib.hid hdn; have HCC := Lib.hid hcc
                        have hfr := ent_free hcc.2
                        have hc0 := ent_cell hcc.2 0 _ rfl
                        have hc1 := ent_cell hcc.2 1 _ rfl
                        clear hdn hcc
                        go_simp
                        refine hK.out _ _ (HSS.out _ HDN.out.1) (fun hHeld => ?_); clear hK K
                        refine wpAnyH_done (by kernel_rfl) ?_ _
                        go_wp2_with fail
                        go_meet
                        exact ⟨_, _, _, rfl, HDN.out.1, HDN.out.2.1, HDN.out.2.2⟩
                      · go_simp
                        have HP10 := Lib.hid (Pcs.allocC HP6.out)
                        refine hK.out _ _ (HSS.out _ HP10.out.bel) (fun hHeld => ?_); clear hK K
                        generalize w6.alloc (.cells #[.slice none 0 0, .slice none 0 0] 27) = w10 at HP10 hHeld ⊢
                        refine ready1 (i := 14) (by kernel_rfl) rfl (fun K hK => ?_)
                        go_simp
                        refine hK.out _ _ (HSS.out _ HP10.out.bel) (fun hHeld => ?_); clear hK K
                        refine ready1 (i := 16) (by kernel_rfl) rfl (fun K hK => ?_)
                        have hdn := Pcs.done HP10.out (ds := x.datas ++ y.datas) (fs := x.defs ++ y.defs) (by simp) (by simp) (Reps.append HR2.out HR3.out) (Reps.append HR5.out HR6.out) (fun u hu => (List.mem_append.1 hu).elim (HZ2.out u) (HZ3.out u)) (fun u hu => (List.mem_append.1 hu).elim (HZ5.out u) (HZ6.out u))
                        have hcc := HP10.out.c _ rfl
                        have HDN := Lib.hid hdn; have HCC := Lib.hid hcc
                        have hfr := ent_free hcc.2
                        have hc0 := ent_cell hcc.2 0 _ rfl
                        have hc1 := ent_cell hcc.2 1 _ rfl
                        clear hdn hcc
                        go_simp
                        refine hK.out _ _ (HSS.out _ HDN.out.1) (fun hHeld => ?_); clear hK K
                        refine wpAnyH_done (by kernel_rfl) ?_ _
                        go_wp2_with fail
                        go_meet
                        exact ⟨_, _, _, rfl, HDN.out.1, HDN.out.2.1, HDN.out.2.2⟩
                    · go_simp
                      have HP13 := Lib.hid (Pcs.allocC HP5.out)
                      refine hK.out _ _ (HSS.out _ HP13.out.bel) (fun hHeld => ?_); clear hK K
                      generalize w5.alloc (.cells #[.slice none 0 0, .slice none 0 0] 27) = w13 at HP13 hHeld ⊢
                      refine ready1 (i := 13) (by kernel_rfl) rfl (fun K hK => ?_)
                      refine HP13.out.addB HSS.out hK rfl (.tmp 128) (.tmp 130) rfl rfl _ rfl y.defs KYF.out (by have := HCAP.out; omega) ?_
                      intro p14 c14 w14 u14 HR14 HZ14 HP14 hHeld; clear hK K
                      refine ready1 (i := 14) (by kernel_rfl) rfl (fun K hK => ?_)
                      go_simp
                      refine hK.out _ _ (HSS.out _ HP14.out.bel) (fun hHeld => ?_); clear hK K
                      refine ready1 (i := 16) (by kernel_rfl) rfl (fun K hK => ?_)
                      have hdn := Pcs.done HP14.out (ds := x.datas ++ y.datas) (fs := x.defs ++ y.defs) (by simp) (by simp) (Reps.append HR2.out HR3.out) (Reps.append HR5.out HR14.out) (fun u hu => (List.mem_append.1 hu).elim (HZ2.out u) (HZ3.out u)) (fun u hu => (List.mem_append.1 hu).elim (HZ5.out u) (HZ14.out u))
                      have hcc := HP14.out.c _ rfl
                      have HDN := Lib.hid hdn; have HCC := Lib.hid hcc
                      have hfr := ent_free hcc.2
                      have hc0 := ent_cell hcc.2 0 _ rfl
                      have hc1 := ent_cell hcc.2 1 _ rfl
                      clear hdn hcc
                      go_simp
                      refine hK.out _ _ (HSS.out _ HDN.out.1) (fun hHeld => ?_); clear hK K
                      refine wpAnyH_done (by kernel_rfl) ?_ _
                      go_wp2_with fail
                      go_meet
                      exact ⟨_, _, _, rfl, HDN.out.1, HDN.out.2.1, HDN.out.2.2⟩
                  · go_simp
                    have HP17 := Lib.hid (Pcs.allocC HP4.out)
                    refine hK.out _ _ (HSS.out _ HP17.out.bel) (fun hHeld => ?_); clear hK K
                    generalize w4.alloc (.cells #[.slice none 0 0, .slice none 0 0] 27) = w17 at HP17 hHeld ⊢
                    refine ready1 (i := 10) (by kernel_rfl) rfl (fun K hK => ?_)
                    refine HP17.out.addB0 HSS.out hK rfl (.tmp 125) (.tmp 127) rfl rfl _ rfl x.defs KXF.out (by have := HCAP.out; omega) ?_
                    intro p18 c18 w18 u18 HR18 HZ18 HP18 hHeld; clear hK K
                    refine ready1 (i := 13) (by kernel_rfl) rfl (fun K hK => ?_)
                    refine HP18.out.addB HSS.out hK rfl (.tmp 128) (.tmp 130) rfl rfl _ rfl y.defs KYF.out (by have := HCAP.out; omega) ?_
                    intro p19 c19 w19 u19 HR19 HZ19 HP19 hHeld; clear hK K
                    refine ready1 (i := 14) (by kernel_rfl) rfl (fun K hK => ?_)
                    go_simp
                    refine hK.out _ _ (HSS.out _ HP19.out.bel) (fun hHeld => ?_); clear hK K
                    refine ready1 (i := 16) (by kernel_rfl) rfl (fun K hK => ?_)
                    have hdn := Pcs.done HP19.out (ds := x.datas ++ y.datas) (fs := x.defs ++ y.defs) (by simp) (by simp) (Reps.append HR2.out HR3.out) (Reps.append HR18.out HR19.out) (fun u hu => (List.mem_append.1 hu).elim (HZ2.out u) (HZ3.out u)) (fun u hu => (List.mem_append.1 hu).elim (HZ18.out u) (HZ19.out u))
                    have hcc := HP19.out.c _ rfl
                    have HDN := Lib.hid hdn; have HCC := Lib.hid hcc
                    have hfr := ent_free hcc.2
                    have hc0 := ent_cell hcc.2 0 _ rfl
                    have hc1 := ent_cell hcc.2 1 _ rfl
                    clear hdn hcc
                    go_simp
                    refine hK.out _ _ (HSS.out _ HDN.out.1) (fun hHeld => ?_); clear hK K
                    refine wpAnyH_done (by kernel_rfl) ?_ _
                    go_wp2_with fail
                    go_meet
                    exact ⟨_, _, _, rfl, HDN.out.1, HDN.out.2.1, HDN.out.2.2⟩
                · go_simp
                  have HP22 := Lib.hid (Pcs.allocC HP3.out)
                  refine hK.out _ _ (HSS.out _ HP22.out.bel) (fun hHeld => ?_); clear hK K
                  generalize w3.alloc (.cells #[.slice none 0 0, .slice none 0 0] 27) = w22 at HP22 hHeld ⊢
                  refine ready1 (i := 7) (by kernel_rfl) rfl (fun K hK => ?_)
                  go_simp
                  have HP23 := Lib.hid (Pcs.allocB HP22.out)
                  refine hK.out _ _ (HSS.out _ HP23.out.bel) (fun hHeld => ?_); clear hK K
                  generalize w22.alloc (.cells #[] 46) = w23 at HP23 hHeld ⊢
                  refine ready1 (i := 10) (by kernel_rfl) rfl (fun K hK => ?_)
                  refine HP23.out.addB0 HSS.out hK rfl (.tmp 125) (.tmp 127) rfl rfl _ rfl x.defs KXF.out (by have := HCAP.out; omega) ?_
                  intro p24 c24 w24 u24 HR24 HZ24 HP24 hHeld; clear hK K
                  refine ready1 (i := 13) (by kernel_rfl) rfl (fun K hK => ?_)
                  refine HP24.out.addB HSS.out hK rfl (.tmp 128) (.tmp 130) rfl rfl _ rfl y.defs KYF.out (by have := HCAP.out; omega) ?_
                  intro p25 c25 w25 u25 HR25 HZ25 HP25 hHeld; clear hK K
                  refine ready1 (i := 14) (by kernel_rfl) rfl (fun K hK => ?_)
                  go_simp
                  refine hK.out _ _ (HSS.out _ HP25.out.bel) (fun hHeld => ?_); clear hK K
                  refine ready1 (i := 16) (by kernel_rfl) rfl (fun K hK => ?_)
                  have hdn := Pcs.done HP25.out (ds := x.datas ++ y.datas) (fs := x.defs ++ y.defs) (by simp) (by simp) (Reps.append HR2.out HR3.out) (Reps.append HR24.out HR25.out) (fun u hu => (List.mem_append.1 hu).elim (HZ2.out u) (HZ3.out u)) (fun u hu => (List.mem_append.1 hu).elim (HZ24.out u) (HZ25.out u))
                  have hcc := HP25.out.c _ rfl
                  have HDN := Lib.hid hdn; have HCC := Lib.hid hcc
                  have hfr := ent_free hcc.2
                  have hc0 := ent_cell hcc.2 0 _ rfl
                  have hc1 := ent_cell hcc.2 1 _ rfl
                  clear hdn hcc
                  go_simp
                  refine hK.out _ _ (HSS.out _ HDN.out.1) (fun hHeld => ?_); clear hK K
                  refine wpAnyH_done (by kernel_rfl) ?_ _
                  go_wp2_with fail
                  go_meet
                  exact ⟨_, _, _, rfl, HDN.out.1, HDN.out.2.1, HDN.out.2.2⟩
              · go_simp
                have HP28 := Lib.hid (Pcs.allocB HP2.out)
                refine hK.out _ _ (HSS.out _ HP28.out.bel) (fun hHeld => ?_); clear hK K
                generalize w2.alloc (.cells #[] 46) = w28 at HP28 hHeld ⊢
                refine ready2 (i := 6) (j := 15) (by kernel_rfl) rfl rfl (fun K hK => ?_) (fun K hK => ?_)
                · refine HP28.out.addA HSS.out hK rfl (.tmp 121) (.tmp 123) rfl rfl _ rfl y.datas KYD.out (by have := HCAP.out; omega) ?_
                  intro p29 c29 w29 u29 HR29 HZ29 HP29 hHeld; clear hK K
                  refine ready2 (i := 10) (j := 15) (by kernel_rfl) rfl rfl (fun K hK => ?_) (fun K hK => ?_)
                  · refine HP29.out.addB0 HSS.out hK rfl (.tmp 125) (.tmp 127) rfl rfl _ rfl x.defs KXF.out (by have := HCAP.out; omega) ?_
                    intro p30 c30 w30 u30 HR30 HZ30 HP30 hHeld; clear hK K
                    refine ready2 (i := 13) (j := 15) (by kernel_rfl) rfl rfl (fun K hK => ?_) (fun K hK => ?_)
                    · refine HP30.out.addB HSS.out hK rfl (.tmp 128) (.tmp 130) rfl rfl _ rfl y.defs KYF.out (by have := HCAP.out; omega) ?_
                      intro p31 c31 w31 u31 HR31 HZ31 HP31 hHeld; clear hK K
                      refine ready2 (i := 14) (j := 15) (by kernel_rfl) rfl rfl (fun K hK => ?_) (fun K hK => ?_)
                      · go_simp
                        refine hK.out _ _ (HSS.out _ HP31.out.bel) (fun hHeld => ?_); clear hK K
                        refine ready1 (i := 15) (by kernel_rfl) rfl (fun K hK => ?_)
                        go_simp
                        have HP33 := Lib.hid (Pcs.allocC HP31.out)
                        refine hK.out _ _ (HSS.out _ HP33.out.bel) (fun hHeld => ?_); clear hK K
                        generalize w31.alloc (.cells #[.slice none 0 0, .slice none 0 0] 27) = w33 at HP33 hHeld ⊢
                        refine ready1 (i := 16) (by kernel_rfl) rfl (fun K hK => ?_)
                        have hdn := Pcs.done HP33.out (ds := x.datas ++ y.datas) (fs := x.defs ++ y.defs) (by simp) (by simp) (Reps.append HR2.out HR29.out) (Reps.append HR30.out HR31.out) (fun u hu => (List.mem_append.1 hu).elim (HZ2.out u) (HZ29.out u)) (fun u hu => (List.mem_append.1 hu).elim (HZ30.out u) (HZ31.out u))
                        have hcc := HP33.out.c _ rfl
                        have HDN := Lib.hid hdn; have HCC := Lib.hid hcc
                        have hfr := ent_free hcc.2
                        have hc0 := ent_cell hcc.2 0 _ rfl
                        have hc1 := ent_cell hcc.2 1 _ rfl
                        clear hdn hcc
                        go_simp
                        refine hK.out _ _ (HSS.out _ HDN.out.1) (fun hHeld => ?_); clear hK K
                        refine wpAnyH_done (by kernel_rfl) ?_ _
                        go_wp2_with fail
                        go_meet
                        exact ⟨_, _, _, rfl, HDN.out.1, HDN.out.2.1, HDN.out.2.2⟩
                      · go_simp
                        have HP35 := Lib.hid (Pcs.allocC HP31.out)
                        refine hK.out _ _ (HSS.out _ HP35.out.bel) (fun hHeld => ?_); clear hK K
                        generalize w31.alloc (.cells #[.slice none 0 0, .slice none 0 0] 27) = w35 at HP35 hHeld ⊢
                        refine ready1 (i := 14) (by kernel_rfl) rfl (fun K hK => ?_)
                        go_simp
                        refine hK.out _ _ (HSS.out _ HP35.out.bel) (fun hHeld => ?_); clear hK K
                        refine ready1 (i := 16) (by kernel_rfl) rfl (fun K hK => ?_)
                        have hdn := Pcs.done HP35.out (ds := x.datas ++ y.datas) (fs := x.defs ++ y.defs) (by simp) (by simp) (Reps.append HR2.out HR29.out) (Reps.append HR30.out HR31.out) (fun u hu => (List.mem_append.1 hu).elim (HZ2.out u) (HZ29.out u)) (fun u hu => (List.mem_append.1 hu).elim (HZ30.out u) (HZ31.out u))
                        have hcc := HP35.out.c _ rfl
                        have HDN := Lib.hid hdn; have HCC := Lib.hid hcc
                        have hfr := ent_free hcc.2
                        have hc0 := ent_cell hcc.2 0 _ rfl
                        have hc1 := ent_cell hcc.2 1 _ rfl
                        clear hdn hcc
                        go_simp
                        refine hK.out _ _ (HSS.out _ HDN.out.1) (fun hHeld => ?_); clear hK K
                        refine wpAnyH_done (by kernel_rfl) ?_ _
                        go_wp2_with fail
                        go_meet
                        exact ⟨_, _, _, rfl, HDN.out.1, HDN.out.2.1, HDN.out.2.2⟩
                    · go_simp
                      have HP38 := Lib.hid (Pcs.allocC HP30.out)
                      refine hK.out _ _ (HSS.out _ HP38.out.bel) (fun hHeld => ?_); clear hK K
                      generalize w30.alloc (.cells #[.slice none 0 0, .slice none 0 0] 27) = w38 at HP38 hHeld ⊢
                      refine ready1 (i := 13) (by kernel_rfl) rfl (fun K hK => ?_)
                      refine HP38.out.addB HSS.out hK rfl (.tmp 128) (.tmp 130) rfl rfl _ rfl y.defs KYF.out (by have := HCAP.out; omega) ?_
                      intro p39 c39 w39 u39 HR39 HZ39 HP39 hHeld; clear hK K
                      refine ready1 (i := 14) (by kernel_rfl) rfl (fun K hK => ?_)
                      go_simp
                      refine hK.out _ _ (HSS.out _ HP39.out.bel) (fun hHeld => ?_); clear hK K
                      refine ready1 (i := 16) (by kernel_rfl) rfl (fun K hK => ?_)
                      have hdn := Pcs.done HP39.out (ds := x.datas ++ y.datas) (fs := x.defs ++ y.defs) (by simp) (by simp) (Reps.append HR2.out HR29.out) (Reps.append HR30.out HR39.out) (fun u hu => (List.mem_append.1 hu).elim (HZ2.out u) (HZ29.out u)) (fun u hu => (List.mem_append.1 hu).elim (HZ30.out u) (HZ39.out u))
                      have hcc := HP39.out.c _ rfl
                      have HDN := Lib.hid hdn; have HCC := Lib.hid hcc
                      have hfr := ent_free hcc.2
                      have hc0 := ent_cell hcc.2 0 _ rfl
                      have hc1 := ent_cell hcc.2 1 _ rfl
                      clear hdn hcc
                      go_simp
                      refine hK.out _ _ (HSS.out _ HDN.out.1) (fun hHeld => ?_); clear hK K
                      refine wpAnyH_done (by kernel_rfl) ?_ _
                      go_wp2_with fail
                      go_meet
                      exact ⟨_, _, _, rfl, HDN.out.1, HDN.out.2.1, HDN.out.2.2⟩
                  · go_simp
                    have HP42 := Lib.hid (Pcs.allocC HP29.out)
                    refine hK.out _ _ (HSS.out _ HP42.out.bel) (fun hHeld => ?_); clear hK K
                    generalize w29.alloc (.cells #[.slice none 0 0, .slice none 0 0] 27) = w42 at HP42 hHeld ⊢
                    refine ready1 (i := 10) (by kernel_rfl) rfl (fun K hK => ?_)
                    refine HP42.out.addB0 HSS.out hK rfl (.tmp 125) (.tmp 127) rfl rfl _ rfl x.defs KXF.out (by have := HCAP.out; omega) ?_
                    intro p43 c43 w43 u43 HR43 HZ43 HP43 hHeld; clear hK K
                    refine ready1 (i := 13) (by kernel_rfl) rfl (fun K hK => ?_)
                    refine HP43.out.addB HSS.out hK rfl (.tmp 128) (.tmp 130) rfl rfl _ rfl y.defs KYF.out (by have := HCAP.out; omega) ?_
                    intro p44 c44 w44 u44 HR44 HZ44 HP44 hHeld; clear hK K
                    refine ready1 (i := 14) (by kernel_rfl) rfl (fun K hK => ?_)
                    go_simp
                    refine hK.out _ _ (HSS.out _ HP44.out.bel) (fun hHeld => ?_); clear hK K
                    refine ready1 (i := 16) (by kernel_rfl) rfl (fun K hK => ?_)
                    have hdn := Pcs.done HP44.out (ds := x.datas ++ y.datas) (fs := x.defs ++ y.defs) (by simp) (by simp) (Reps.append HR2.out HR29.out) (Reps.append HR43.out HR44.out) (fun u hu => (List.mem_append.1 hu).elim (HZ2.out u) (HZ29.out u)) (fun u hu => (List.mem_append.1 hu).elim (HZ43.out u) (HZ44.out u))
                    have hcc := HP44.out.c _ rfl
                    have HDN := Lib.hid hdn; have HCC := Lib.hid hcc
                    have hfr := ent_free hcc.2
                    have hc0 := ent_cell hcc.2 0 _ rfl
                    have hc1 := ent_cell hcc.2 1 _ rfl
                    clear hdn hcc
                    go_simp
                    refine hK.out _ _ (HSS.out _ HDN.out.1) (fun hHeld => ?_); clear hK K
                    refine wpAnyH_done (by kernel_rfl) ?_ _
                    go_wp2_with fail
                    go_meet
                    exact ⟨_, _, _, rfl, HDN.out.1, HDN.out.2.1, HDN.out.2.2⟩
                · go_simp
                  have HP47 := Lib.hid (Pcs.allocC HP28.out)
                  refine hK.out _ _ (HSS.out _ HP47.out.bel) (fun hHeld => ?_); clear hK K
                  generalize w28.alloc (.cells #[.slice none 0 0, .slice none 0 0] 27) = w47 at HP47 hHeld ⊢
                  refine ready1 (i := 6) (by kernel_rfl) rfl (fun K hK => ?_)
                  refine HP47.out.addA HSS.out hK rfl (.tmp 121) (.tmp 123) rfl rfl _ rfl y.datas KYD.out (by have := HCAP.out; omega) ?_
                  intro p48 c48 w48 u48 HR48 HZ48 HP48 hHeld; clear hK K
                  refine ready1 (i := 10) (by kernel_rfl) rfl (fun K hK => ?_)
                  refine HP48.out.addB0 HSS.out hK rfl (.tmp 125) (.tmp 127) rfl rfl _ rfl x.defs KXF.out (by have := HCAP.out; omega) ?_
                  intro p49 c49 w49 u49 HR49 HZ49 HP49 hHeld; clear hK K
                  refine ready1 (i := 13) (by kernel_rfl) rfl (fun K hK => ?_)
                  refine HP49.out.addB HSS.out hK rfl (.tmp 128) (.tmp 130) rfl rfl _ rfl y.defs KYF.out (by have := HCAP.out; omega) ?_
                  intro p50 c50 w50 u50 HR50 HZ50 HP50 hHeld; clear hK K
                  refine ready1 (i := 14) (by kernel_rfl) rfl (fun K hK => ?_)
                  go_simp
                  refine hK.out _ _ (HSS.out _ HP50.out.bel) (fun hHeld => ?_); clear hK K
                  refine ready1 (i := 16) (by kernel_rfl) rfl (fun K hK => ?_)
                  have hdn := Pcs.done HP50.out (ds := x.datas ++ y.datas) (fs := x.defs ++ y.defs) (by simp) (by simp) (Reps.append HR2.out HR48.out) (Reps.append HR49.out HR50.out) (fun u hu => (List.mem_append.1 hu).elim (HZ2.out u) (HZ48.out u)) (fun u hu => (List.mem_append.1 hu).elim (HZ49.out u) (HZ50.out u))
                  have hcc := HP50.out.c _ rfl
                  have HDN := Lib.hid hdn; have HCC := Lib.hid hcc
                  have hfr := ent_free hcc.2
                  have hc0 := ent_cell hcc.2 0 _ rfl
                  have hc1 := ent_cell hcc.2 1 _ rfl
                  clear hdn hcc
                  go_simp
                  refine hK.out _ _ (HSS.out _ HDN.out.1) (fun hHeld => ?_); clear hK K
                  refine wpAnyH_done (by kernel_rfl) ?_ _
                  go_wp2_with fail
                  go_meet
                  exact ⟨_, _, _, rfl, HDN.out.1, HDN.out.2.1, HDN.out.2.2⟩
              · go_simp
                have HP53 := Lib.hid (Pcs.allocC HP2.out)
                refine hK.out _ _ (HSS.out _ HP53.out.bel) (fun hHeld => ?_); clear hK K
                generalize w2.alloc (.cells #[.slice none 0 0, .slice none 0 0] 27) = w53 at HP53 hHeld ⊢
                refine ready2 (i := 6) (j := 7) (by kernel_rfl) rfl rfl (fun K hK => ?_) (fun K hK => ?_)
                · refine HP53.out.addA HSS.out hK rfl (.tmp 121) (.tmp 123) rfl rfl _ rfl y.datas KYD.out (by have := HCAP.out; omega) ?_
                  intro p54 c54 w54 u54 HR54 HZ54 HP54 hHeld; clear hK K
                  refine ready1 (i := 7) (by kernel_rfl) rfl (fun K hK => ?_)
                  go_simp
                  have HP55 := Lib.hid (Pcs.allocB HP54.out)
                  refine hK.out _ _ (HSS.out _ HP55.out.bel) (fun hHeld => ?_); clear hK K
                  generalize w54.alloc (.cells #[] 46) = w55 at HP55 hHeld ⊢
                  refine ready1 (i := 10) (by kernel_rfl) rfl (fun K hK => ?_)
                  refine HP55.out.addB0 HSS.out hK rfl (.tmp 125) (.tmp 127) rfl rfl _ rfl x.defs KXF.out (by have := HCAP.out; omega) ?_
                  intro p56 c56 w56 u56 HR56 HZ56 HP56 hHeld; clear hK K
                  refine ready1 (i := 13) (by kernel_rfl) rfl (fun K hK => ?_)
                  refine HP56.out.addB HSS.out hK rfl (.tmp 128) (.tmp 130) rfl rfl _ rfl y.defs KYF.out (by have := HCAP.out; omega) ?_
                  intro p57 c57 w57 u57 HR57 HZ57 HP57 hHeld; clear hK K
                  refine ready1 (i := 14) (by kernel_rfl) rfl (fun K hK => ?_)
                  go_simp
                  refine hK.out _ _ (HSS.out _ HP57.out.bel) (fun hHeld => ?_); clear hK K
                  refine ready1 (i := 16) (by kernel_rfl) rfl (fun K hK => ?_)
                  have hdn := Pcs.done HP57.out (ds := x.datas ++ y.datas) (fs := x.defs ++ y.defs) (by simp) (by simp) (Reps.append HR2.out HR54.out) (Reps.append HR56.out HR57.out) (fun u hu => (List.mem_append.1 hu).elim (HZ2.out u) (HZ54.out u)) (fun u hu => (List.mem_append.1 hu).elim (HZ56.out u) (HZ57.out u))
                  have hcc := HP57.out.c _ rfl
                  have HDN := Lib.hid hdn; have HCC := Lib.hid hcc
                  have hfr := ent_free hcc.2
                  have hc0 := ent_cell hcc.2 0 _ rfl
                  have hc1 := ent_cell hcc.2 1 _ rfl
                  clear hdn hcc
                  go_simp
                  refine hK.out _ _ (HSS.out _ HDN.out.1) (fun hHeld => ?_); clear hK K
                  refine wpAnyH_done (by kernel_rfl) ?_ _
                  go_wp2_with fail
                  go_meet
                  exact ⟨_, _, _, rfl, HDN.out.1, HDN.out.2.1, HDN.out.2.2⟩
                · go_simp
                  have HP60 := Lib.hid (Pcs.allocB HP53.out)
                  refine hK.out _ _ (HSS.out _ HP60.out.bel) (fun hHeld => ?_); clear hK K
                  generalize w53.alloc (.cells #[] 46) = w60 at HP60 hHeld ⊢
                  refine ready1 (i := 6) (by kernel_rfl) rfl (fun K hK => ?_)
                  refine HP60.out.addA HSS.out hK rfl (.tmp 121) (.tmp 123) rfl rfl _ rfl y.datas KYD.out (by have := HCAP.out; omega) ?_
                  intro p61 c61 w61 u61 HR61 HZ61 HP61 hHeld; clear hK K
                  refine ready1 (i := 10) (by kernel_rfl) rfl (fun K hK => ?_)
                  refine HP61.out.addB0 HSS.out hK rfl (.tmp 125) (.tmp 127) rfl rfl _ rfl x.defs KXF.out (by have := HCAP.out; omega) ?_
                  intro p62 c62 w62 u62 HR62 HZ62 HP62 hHeld; clear hK K
                  refine ready1 (i := 13) (by kernel_rfl) rfl (fun K hK => ?_)
                  refine HP62.out.addB HSS.out hK rfl (.tmp 128) (.tmp 130) rfl rfl _ rfl y.defs KYF.out (by have := HCAP.out; omega) ?_
                  intro p63 c63 w63 u63 HR63 HZ63 HP63 hHeld; clear hK K
                  refine ready1 (i := 14) (by kernel_rfl) rfl (fun K hK => ?_)
                  go_simp
                  refine hK.out _ _ (HSS.out _ HP63.out.bel) (fun hHeld => ?_); clear hK K
                  refine ready1 (i := 16) (by kernel_rfl) rfl (fun K hK => ?_)
                  have hdn := Pcs.done HP63.out (ds := x.datas ++ y.datas) (fs := x.defs ++ y.defs) (by simp) (by simp) (Reps.append HR2.out HR61.out) (Reps.append HR62.out HR63.out) (fun u hu => (List.mem_append.1 hu).elim (HZ2.out u) (HZ61.out u)) (fun u hu => (List.mem_append.1 hu).elim (HZ62.out u) (HZ63.out u))
                  have hcc := HP63.out.c _ rfl
                  have HDN := Lib.hid hdn; have HCC := Lib.hid hcc
                  have hfr := ent_free hcc.2
                  have hc0 := ent_cell hcc.2 0 _ rfl
                  have hc1 := ent_cell hcc.2 1 _ rfl
                  clear hdn hcc
                  go_simp
                  refine hK.out _ _ (HSS.out _ HDN.out.1) (fun hHeld => ?_); clear hK K
                  refine wpAnyH_done (by kernel_rfl) ?_ _
                  go_wp2_with fail
                  go_meet
                  exact ⟨_, _, _, rfl, HDN.out.1, HDN.out.2.1, HDN.out.2.2⟩
            · go_simp
              have HP66 := Lib.hid (Pcs.allocB HP1.out)
              refine hK.out _ _ (HSS.out _ HP66.out.bel) (fun hHeld => ?_); clear hK K
              generalize w1.alloc (.cells #[] 46) = w66 at HP66 hHeld ⊢
              refine ready2 (i := 3) (j := 15) (by kernel_rfl) rfl rfl (fun K hK => ?_) (fun K hK => ?_)
              · refine HP66.out.addA0 HSS.out hK rfl (.tmp 118) (.tmp 120) rfl rfl _ rfl x.datas KXD.out (by have := HCAP.out; omega) ?_
                intro p67 c67 w67 u67 HR67 HZ67 HP67 hHeld; clear hK K
                refine ready2 (i := 6) (j := 15) (by kernel_rfl) rfl rfl (fun K hK => ?_) (fun K hK => ?_)
                · refine HP67.out.addA HSS.out hK rfl (.tmp 121) (.tmp 123) rfl rfl _ rfl y.datas KYD.out (by have := HCAP.out; omega) ?_
                  intro p68 c68 w68 u68 HR68 HZ68 HP68 hHeld; clear hK K
                  refine ready2 (i := 10) (j := 15) (by kernel_rfl) rfl rfl (fun K hK => ?_) (fun K hK => ?_)
                  · refine HP68.out.addB0 HSS.out hK rfl (.tmp 125) (.tmp 127) rfl rfl _ rfl x.defs KXF.out (by have := HCAP.out; omega) ?_
                    intro p69 c69 w69 u69 HR69 HZ69 HP69 hHeld; clear hK K
                    refine ready2 (i := 13) (j := 15) (by kernel_rfl) rfl rfl (fun K hK => ?_) (fun K hK => ?_)
                    · refine HP69.out.addB HSS.out hK rfl (.tmp 128) (.tmp 130) rfl rfl _ rfl y.defs KYF.out (by have := HCAP.out; omega) ?_
                      intro p70 c70 w70 u70 HR70 HZ70 HP70 hHeld; clear hK K
                      refine ready2 (i := 14) (j := 15) (by kernel_rfl) rfl rfl (fun K hK => ?_) (fun K hK => ?_)
                      · go_simp
                        refine hK.out _ _ (HSS.out _ HP70.out.bel) (fun hHeld => ?_); clear hK K
                        refine ready1 (i := 15) (by kernel_rfl) rfl (fun K hK => ?_)
                        go_simp
                        have HP72 := Lib.hid (Pcs.allocC HP70.out)
                        refine hK.out _ _ (HSS.out _ HP72.out.bel) (fun hHeld => ?_); clear hK K
                        generalize w70.alloc (.cells #[.slice none 0 0, .slice none 0 0] 27) = w72 at HP72 hHeld ⊢
                        refine ready1 (i := 16) (by kernel_rfl) rfl (fun K hK => ?_)
                        have hdn := Pcs.done HP72.out (ds := x.datas ++ y.datas) (fs := x.defs ++ y.defs) (by simp) (by simp) (Reps.append HR67.out HR68.out) (Reps.append HR69.out HR70.out) (fun u hu => (List.mem_append.1 hu).elim (HZ67.out u) (HZ68.out u)) (fun u hu => (List.mem_append.1 hu).elim (HZ69.out u) (HZ70.out u))
                        have hcc := HP72.out.c _ rfl
                        have HDN := Lib.hid hdn; have HCC := Lib.hid hcc
                        have hfr := ent_free hcc.2
                        have hc0 := ent_cell hcc.2 0 _ rfl
                        have hc1 := ent_cell hcc.2 1 _ rfl
                        clear hdn hcc
                        go_simp
                        refine hK.out _ _ (HSS.out _ HDN.out.1) (fun hHeld => ?_); clear hK K
                        refine wpAnyH_done (by kernel_rfl) ?_ _
                        go_wp2_with fail
                        go_meet
                        exact ⟨_, _, _, rfl, HDN.out.1, HDN.out.2.1, HDN.out.2.2⟩
                      · go_simp
                        have HP74 := Lib.hid (Pcs.allocC HP70.out)
                        refine hK.out _ _ (HSS.out _ HP74.out.bel) (fun hHeld => ?_); clear hK K
                        generalize w70.alloc (.cells #[.slice none 0 0, .slice none 0 0] 27) = w74 at HP74 hHeld ⊢
                        refine ready1 (i := 14) (by kernel_rfl) rfl (fun K hK => ?_)
                        go_simp
                        refine hK.out _ _ (HSS.out _ HP74.out.bel) (fun hHeld => ?_); clear hK K
                        refine ready1 (i := 16) (by kernel_rfl) rfl (fun K hK => ?_)
                        have hdn := Pcs.done HP74.out (ds := x.datas ++ y.datas) (fs := x.defs ++ y.defs) (by simp) (by simp) (Reps.append HR67.out HR68.out) (Reps.append HR69.out HR70.out) (fun u hu => (List.mem_append.1 hu).elim (HZ67.out u) (HZ68.out u)) (fun u hu => (List.mem_append.1 hu).elim (HZ69.out u) (HZ70.out u))
                        have hcc := HP74.out.c _ rfl
                        have HDN := Lib.hid hdn; have HCC := Lib.hid hcc
                        have hfr := ent_free hcc.2
                        have hc0 := ent_cell hcc.2 0 _ rfl
                        have hc1 := ent_cell hcc.2 1 _ rfl
                        clear hdn hcc
                        go_simp
                        refine hK.out _ _ (HSS.out _ HDN.out.1) (fun hHeld => ?_); clear hK K
                        refine wpAnyH_done (by kernel_rfl) ?_ _
                        go_wp2_with fail
                        go_meet
                        exact ⟨_, _, _, rfl, HDN.out.1, HDN.out.2.1, HDN.out.2.2⟩
                    · go_simp
                      have HP77 := Lib.hid (Pcs.allocC HP69.out)
                      refine hK.out _ _ (HSS.out _ HP77.out.bel) (fun hHeld => ?_); clear hK K
                      generalize w69.alloc (.cells #[.slice none 0 0, .slice none 0 0] 27) = w77 at HP77 hHeld ⊢
                      refine ready1 (i := 13) (by kernel_rfl) rfl (fun K hK => ?_)
                      refine HP77.out.addB HSS.out hK rfl (.tmp 128) (.tmp 130) rfl rfl _ rfl y.defs KYF.out (by have := HCAP.out; omega) ?_
                      intro p78 c78 w78 u78 HR78 HZ78 HP78 hHeld; clear hK K
                      refine ready1 (i := 14) (by kernel_rfl) rfl (fun K hK => ?_)
                      go_simp
                      refine hK.out _ _ (HSS.out _ HP78.out.bel) (fun hHeld => ?_); clear hK K
                      refine ready1 (i := 16) (by kernel_rfl) rfl (fun K hK => ?_)
                      have hdn := Pcs.done HP78.out (ds := x.datas ++ y.datas) (fs := x.defs ++ y.defs) (by simp) (by simp) (Reps.append HR67.out HR68.out) (Reps.append HR69.out HR78.out) (fun u hu => (List.mem_append.1 hu).elim (HZ67.out u) (HZ68.out u)) (fun u hu => (List.mem_append.1 hu).elim (HZ69.out u) (HZ78.out u))
                      have hcc := HP78.out.c _ rfl
                      have HDN := Lib.hid hdn; have HCC := Lib.hid hcc
                      have hfr := ent_free hcc.2
                      have hc0 := ent_cell hcc.2 0 _ rfl
                      have hc1 := ent_cell hcc.2 1 _ rfl
                      clear hdn hcc
                      go_simp
                      refine hK.out _ _ (HSS.out _ HDN.out.1) (fun hHeld => ?_); clear hK K
                      refine wpAnyH_done (by kernel_rfl) ?_ _
                      go_wp2_with fail
                      go_meet
                      exact ⟨_, _, _, rfl, HDN.out.1, HDN.out.2.1, HDN.out.2.2⟩
                  · go_simp
                    have HP81 := Lib.hid (Pcs.allocC HP68.out)
                    refine hK.out _ _ (HSS.out _ HP81.out.bel) (fun hHeld => ?_); clear hK K
                    generalize w68.alloc (.cells #[.slice none 0 0, .slice none 0 0] 27) = w81 at HP81 hHeld ⊢
                    refine ready1 (i := 10) (by kernel_rfl) rfl (fun K hK => ?_)
                    refine HP81.out.addB0 HSS.out hK rfl (.tmp 125) (.tmp 127) rfl rfl _ rfl x.defs KXF.out (by have := HCAP.out; omega) ?_
                    intro p82 c82 w82 u82 HR82 HZ82 HP82 hHeld; clear hK K
                    refine ready1 (i := 13) (by kernel_rfl) rfl (fun K hK => ?_)
                    refine HP82.out.addB HSS.out hK rfl (.tmp 128) (.tmp 130) rfl rfl _ rfl y.defs KYF.out (by have := HCAP.out; omega) ?_
                    intro p83 c83 w83 u83 HR83 HZ83 HP83 hHeld; clear hK K
                    refine ready1 (i := 14) (by kernel_rfl) rfl (fun K hK => ?_)
                    go_simp
                    refine hK.out _ _ (HSS.out _ HP83.out.bel) (fun hHeld => ?_); clear hK K
                    refine ready1 (i := 16) (by kernel_rfl) rfl (fun K hK => ?_)
                    have hdn := Pcs.done HP83.out (ds := x.datas ++ y.datas) (fs := x.defs ++ y.defs) (by simp) (by simp) (Reps.append HR67.out HR68.out) (Reps.append HR82.out HR83.out) (fun u hu => (List.mem_append.1 hu).elim (HZ67.out u) (HZ68.out u)) (fun u hu => (List.mem_append.1 hu).elim (HZ82.out u) (HZ83.out u))
                    have hcc := HP83.out.c _ rfl
                    have HDN := Lib.hid hdn; have HCC := Lib.hid hcc
                    have hfr := ent_free hcc.2
                    have hc0 := ent_cell hcc.2 0 _ rfl
                    have hc1 := ent_cell hcc.2 1 _ rfl
                    clear hdn hcc
                    go_simp
                    refine hK.out _ _ (HSS.out _ HDN.out.1) (fun hHeld => ?_); clear hK K
                    refine wpAnyH_done (by kernel_rfl) ?_ _
                    go_wp2_with fail
                    go_meet
                    exact ⟨_, _, _, rfl, HDN.out.1, HDN.out.2.1, HDN.out.2.2⟩
                · go_simp
                  have HP86 := Lib.hid (Pcs.allocC HP67.out)
                  refine hK.out _ _ (HSS.out _ HP86.out.bel) (fun hHeld => ?_); clear hK K
                  generalize w67.alloc (.cells #[.slice none 0 0, .slice none 0 0] 27) = w86 at HP86 hHeld ⊢
                  refine ready1 (i := 6) (by kernel_rfl) rfl (fun K hK => ?_)
                  refine HP86.out.addA HSS.out hK rfl (.tmp 121) (.tmp 123) rfl rfl _ rfl y.datas KYD.out (by have := HCAP.out; omega) ?_
                  intro p87 c87 w87 u87 HR87 HZ87 HP87 hHeld; clear hK K
                  refine ready1 (i := 10) (by kernel_rfl) rfl (fun K hK => ?_)
                  refine HP87.out.addB0 HSS.out hK rfl (.tmp 125) (.tmp 127) rfl rfl _ rfl x.defs KXF.out (by have := HCAP.out; omega) ?_
                  intro p88 c88 w88 u88 HR88 HZ88 HP88 hHeld; clear hK K
                  refine ready1 (i := 13) (by kernel_rfl) rfl (fun K hK => ?_)
                  refine HP88.out.addB HSS.out hK rfl (.tmp 128) (.tmp 130) rfl rfl _ rfl y.defs KYF.out (by have := HCAP.out; omega) ?_
                  intro p89 c89 w89 u89 HR89 HZ89 HP89 hHeld; clear hK K
                  refine ready1 (i := 14) (by kernel_rfl) rfl (fun K hK => ?_)
                  go_simp
                  refine hK.out _ _ (HSS.out _ HP89.out.bel) (fun hHeld => ?_); clear hK K
                  refine ready1 (i := 16) (by kernel_rfl) rfl (fun K hK => ?_)
                  have hdn := Pcs.done HP89.out (ds := x.datas ++ y.datas) (fs := x.defs ++ y.defs) (by simp) (by simp) (Reps.append HR67.out HR87.out) (Reps.append HR88.out HR89.out) (fun u hu => (List.mem_append.1 hu).elim (HZ67.out u) (HZ87.out u)) (fun u hu => (List.mem_append.1 hu).elim (HZ88.out u) (HZ89.out u))
                  have hcc := HP89.out.c _ rfl
                  have HDN := Lib.hid hdn; have HCC := Lib.hid hcc
                  have hfr := ent_free hcc.2
                  have hc0 := ent_cell hcc.2 0 _ rfl
                  have hc1 := ent_cell hcc.2 1 _ rfl
                  clear hdn hcc
                  go_simp
                  refine hK.out _ _ (HSS.out _ HDN.out.1) (fun hHeld => ?_); clear hK K
                  refine wpAnyH_done (by kernel_rfl) ?_ _
                  go_wp2_with fail
                  go_meet
                  exact ⟨_, _, _, rfl, HDN.out.1, HDN.out.2.1, HDN.out.2.2⟩
              · go_simp
                have HP92 := Lib.hid (Pcs.allocC HP66.out)
                refine hK.out _ _ (HSS.out _ HP92.out.bel) (fun hHeld => ?_); clear hK K
                generalize w66.alloc (.cells #[.slice none 0 0, .slice none 0 0] 27) = w92 at HP92 hHeld ⊢
                refine ready1 (i := 3) (by kernel_rfl) rfl (fun K hK => ?_)
                refine HP92.out.addA0 HSS.out hK rfl (.tmp 118) (.tmp 120) rfl rfl _ rfl x.datas KXD.out (by have := HCAP.out; omega) ?_
                intro p93 c93 w93 u93 HR93 HZ93 HP93 hHeld; clear hK K
                refine ready1 (i := 6) (by kernel_rfl) rfl (fun K hK => ?_)
                refine HP93.out.addA HSS.out hK rfl (.tmp 121) (.tmp 123) rfl rfl _ rfl y.datas KYD.out (by have := HCAP.out; omega) ?_
                intro p94 c94 w94 u94 HR94 HZ94 HP94 hHeld; clear hK K
                refine ready1 (i := 10) (by kernel_rfl) rfl (fun K hK => ?_)
                refine HP94.out.addB0 HSS.out hK rfl (.tmp 125) (.tmp 127) rfl rfl _ rfl x.defs KXF.out (by have := HCAP.out; omega) ?_
                intro p95 c95 w95 u95 HR95 HZ95 HP95 hHeld; clear hK K
                refine ready1 (i := 13) (by kernel_rfl) rfl (fun K hK => ?_)
                refine HP95.out.addB HSS.out hK rfl (.tmp 128) (.tmp 130) rfl rfl _ rfl y.defs KYF.out (by have := HCAP.out; omega) ?_
                intro p96 c96 w96 u96 HR96 HZ96 HP96 hHeld; clear hK K
                refine ready1 (i := 14) (by kernel_rfl) rfl (fun K hK => ?_)
                go_simp
                refine hK.out _ _ (HSS.out _ HP96.out.bel) (fun hHeld => ?_); clear hK K
                refine ready1 (i := 16) (by kernel_rfl) rfl (fun K hK => ?_)
                have hdn := Pcs.done HP96.out (ds := x.datas ++ y.datas) (fs := x.defs ++ y.defs) (by simp) (by simp) (Reps.append HR93.out HR94.out) (Reps.append HR95.out HR96.out) (fun u hu => (List.mem_append.1 hu).elim (HZ93.out u) (HZ94.out u)) (fun u hu => (List.mem_append.1 hu).elim (HZ95.out u) (HZ96.out u))
                have hcc := HP96.out.c _ rfl
                have HDN := Lib.hid hdn; have HCC := Lib.hid hcc
                have hfr := ent_free hcc.2
                have hc0 := ent_cell hcc.2 0 _ rfl
                have hc1 := ent_cell hcc.2 1 _ rfl
                clear hdn hcc
                go_simp
                refine hK.out _ _ (HSS.out _ HDN.out.1) (fun hHeld => ?_); clear hK K
                refine wpAnyH_done (by kernel_rfl) ?_ _
                go_wp2_with fail
                go_meet
                exact ⟨_, _, _, rfl, HDN.out.1, HDN.out.2.1, HDN.out.2.2⟩
            · go_simp
              have HP99 := Lib.hid (Pcs.allocC HP1.out)
              refine hK.out _ _ (HSS.out _ HP99.out.bel) (fun hHeld => ?_); clear hK K
              generalize w1.alloc (.cells #[.slice none 0 0, .slice none 0 0] 27) = w99 at HP99 hHeld ⊢
              refine ready2 (i := 3) (j := 7) (by kernel_rfl) rfl rfl (fun K hK => ?_) (fun K hK => ?_)
              · refine HP99.out.addA0 HSS.out hK rfl (.tmp 118) (.tmp 120) rfl rfl _ rfl x.datas KXD.out (by have := HCAP.out; omega) ?_
                intro p100 c100 w100 u100 HR100 HZ100 HP100 hHeld; clear hK K
                refine ready2 (i := 6) (j := 7) (by kernel_rfl) rfl rfl (fun K hK => ?_) (fun K hK => ?_)
                · refine HP100.out.addA HSS.out hK rfl (.tmp 121) (.tmp 123) rfl rfl _ rfl y.datas KYD.out (by have := HCAP.out; omega) ?_
                  intro p101 c101 w101 u101 HR101 HZ101 HP101 hHeld; clear hK K
                  refine ready1 (i := 7) (by kernel_rfl) rfl (fun K hK => ?_)
                  go_simp
                  have HP102 := Lib.hid (Pcs.allocB HP101.out)
                  refine hK.out _ _ (HSS.out _ HP102.out.bel) (fun hHeld => ?_); clear hK K
                  generalize w101.alloc (.cells #[] 46) = w102 at HP102 hHeld ⊢
                  refine ready1 (i := 10) (by kernel_rfl) rfl (fun K hK => ?_)
                  refine HP102.out.addB0 HSS.out hK rfl (.tmp 125) (.tmp 127) rfl rfl _ rfl x.defs KXF.out (by have := HCAP.out; omega) ?_
                  intro p103 c103 w103 u103 HR103 HZ103 HP103 hHeld; clear hK K
                  refine ready1 (i := 13) (by kernel_rfl) rfl (fun K hK => ?_)
                  refine HP103.out.addB HSS.out hK rfl (.tmp 128) (.tmp 130) rfl rfl _ rfl y.defs KYF.out (by have := HCAP.out; omega) ?_
                  intro p104 c104 w104 u104 HR104 HZ104 HP104 hHeld; clear hK K
                  refine ready1 (i := 14) (by kernel_rfl) rfl (fun K hK => ?_)
                  go_simp
                  refine hK.out _ _ (HSS.out _ HP104.out.bel) (fun hHeld => ?_); clear hK K
                  refine ready1 (i := 16) (by kernel_rfl) rfl (fun K hK => ?_)
                  have hdn := Pcs.done HP104.out (ds := x.datas ++ y.datas) (fs := x.defs ++ y.defs) (by simp) (by simp) (Reps.append HR100.out HR101.out) (Reps.append HR103.out HR104.out) (fun u hu => (List.mem_append.1 hu).elim (HZ100.out u) (HZ101.out u)) (fun u hu => (List.mem_append.1 hu).elim (HZ103.out u) (HZ104.out u))
                  have hcc := HP104.out.c _ rfl
                  have HDN := Lib.hid hdn; have HCC := Lib.hid hcc
                  have hfr := ent_free hcc.2
                  have hc0 := ent_cell hcc.2 0 _ rfl
                  have hc1 := ent_cell hcc.2 1 _ rfl
                  clear hdn hcc
                  go_simp
                  refine hK.out _ _ (HSS.out _ HDN.out.1) (fun hHeld => ?_); clear hK K
                  refine wpAnyH_done (by kernel_rfl) ?_ _
                  go_wp2_with fail
                  go_meet
                  exact ⟨_, _, _, rfl, HDN.out.1, HDN.out.2.1, HDN.out.2.2⟩
                · go_simp
                  have HP107 := Lib.hid (Pcs.allocB HP100.out)
                  refine hK.out _ _ (HSS.out _ HP107.out.bel) (fun hHeld => ?_); clear hK K
                  generalize w100.alloc (.cells #[] 46) = w107 at HP107 hHeld ⊢
                  refine ready1 (i := 6) (by kernel_rfl) rfl (fun K hK => ?_)
                  refine HP107.out.addA HSS.out hK rfl (.tmp 121) (.tmp 123) rfl rfl _ rfl y.datas KYD.out (by have := HCAP.out; omega) ?_
                  intro p108 c108 w108 u108 HR108 HZ108 HP108 hHeld; clear hK K
                  refine ready1 (i := 10) (by kernel_rfl) rfl (fun K hK => ?_)
                  refine HP108.out.addB0 HSS.out hK rfl (.tmp 125) (.tmp 127) rfl rfl _ rfl x.defs KXF.out (by have := HCAP.out; omega) ?_
                  intro p109 c109 w109 u109 HR109 HZ109 HP109 hHeld; clear hK K
                  refine ready1 (i := 13) (by kernel_rfl) rfl (fun K hK => ?_)
                  refine HP109.out.addB HSS.out hK rfl (.tmp 128) (.tmp 130) rfl rfl _ rfl y.defs KYF.out (by have := HCAP.out; omega) ?_
                  intro p110 c110 w110 u110 HR110 HZ110 HP110 hHeld; clear hK K
                  refine ready1 (i := 14) (by kernel_rfl) rfl (fun K hK => ?_)
                  go_simp
                  refine hK.out _ _ (HSS.out _ HP110.out.bel) (fun hHeld => ?_); clear hK K
                  refine ready1 (i := 16) (by kernel_rfl) rfl (fun K hK => ?_)
                  have hdn := Pcs.done HP110.out (ds := x.datas ++ y.datas) (fs := x.defs ++ y.defs) (by simp) (by simp) (Reps.append HR100.out HR108.out) (Reps.append HR109.out HR110.out) (fun u hu => (List.mem_append.1 hu).elim (HZ100.out u) (HZ108.out u)) (fun u hu => (List.mem_append.1 hu).elim (HZ109.out u) (HZ110.out u))
                  have hcc := HP110.out.c _ rfl
                  have HDN := Lib.hid hdn; have HCC := Lib.hid hcc
                  have hfr := ent_free hcc.2
                  have hc0 := ent_cell hcc.2 0 _ rfl
                  have hc1 := ent_cell hcc.2 1 _ rfl
                  clear hdn hcc
                  go_simp
                  refine hK.out _ _ (HSS.out _ HDN.out.1) (fun hHeld => ?_); clear hK K
                  refine wpAnyH_done (by kernel_rfl) ?_ _
                  go_wp2_with fail
                  go_meet
                  exact ⟨_, _, _, rfl, HDN.out.1, HDN.out.2.1, HDN.out.2.2⟩
              · go_simp
                have HP113 := Lib.hid (Pcs.allocB HP99.out)
                refine hK.out _ _ (HSS.out _ HP113.out.bel) (fun hHeld => ?_); clear hK K
                generalize w99.alloc (.cells #[] 46) = w113 at HP113 hHeld ⊢
                refine ready1 (i := 3) (by kernel_rfl) rfl (fun K hK => ?_)
                refine HP113.out.addA0 HSS.out hK rfl (.tmp 118) (.tmp 120) rfl rfl _ rfl x.datas KXD.out (by have := HCAP.out; omega) ?_
                intro p114 c114 w114 u114 HR114 HZ114 HP114 hHeld; clear hK K
                refine ready1 (i := 6) (by kernel_rfl) rfl (fun K hK => ?_)
                refine HP114.out.addA HSS.out hK rfl (.tmp 121) (.tmp 123) rfl rfl _ rfl y.datas KYD.out (by have := HCAP.out; omega) ?_
                intro p115 c115 w115 u115 HR115 HZ115 HP115 hHeld; clear hK K
                refine ready1 (i := 10) (by kernel_rfl) rfl (fun K hK => ?_)
                refine HP115.out.addB0 HSS.out hK rfl (.tmp 125) (.tmp 127) rfl rfl _ rfl x.defs KXF.out (by have := HCAP.out; omega) ?_
                intro p116 c116 w116 u116 HR116 HZ116 HP116 hHeld; clear hK K
                refine ready1 (i := 13) (by kernel_rfl) rfl (fun K hK => ?_)
                refine HP116.out.addB HSS.out hK rfl (.tmp 128) (.tmp 130) rfl rfl _ rfl y.defs KYF.out (by have := HCAP.out; omega) ?_
                intro p117 c117 w117 u117 HR117 HZ117 HP117 hHeld; clear hK K
                refine ready1 (i := 14) (by kernel_rfl) rfl (fun K hK => ?_)
                go_simp
                refine hK.out _ _ (HSS.out _ HP117.out.bel) (fun hHeld => ?_); clear hK K
                refine ready1 (i := 16) (by kernel_rfl) rfl (fun K hK => ?_)
                have hdn := Pcs.done HP117.out (ds := x.datas ++ y.datas) (fs := x.defs ++ y.defs) (by simp) (by simp) (Reps.append HR114.out HR115.out) (Reps.append HR116.out HR117.out) (fun u hu => (List.mem_append.1 hu).elim (HZ114.out u) (HZ115.out u)) (fun u hu => (List.mem_append.1 hu).elim (HZ116.out u) (HZ117.out u))
                have hcc := HP117.out.c _ rfl
                have HDN := Lib.hid hdn; have HCC := Lib.hid hcc
                have hfr := ent_free hcc.2
                have hc0 := ent_cell hcc.2 0 _ rfl
                have hc1 := ent_cell hcc.2 1 _ rfl
                clear hdn hcc
                go_simp
                refine hK.out _ _ (HSS.out _ HDN.out.1) (fun hHeld => ?_); clear hK K
                refine wpAnyH_done (by kernel_rfl) ?_ _
                go_wp2_with fail
                go_meet
                exact ⟨_, _, _, rfl, HDN.out.1, HDN.out.2.1, HDN.out.2.2⟩
          · go_simp
            have HP120 := Lib.hid (Pcs.allocB HP0.out)
            refine hK.out _ _ (HSS.out _ HP120.out.bel) (fun hHeld => ?_); clear hK K
            generalize w999.alloc (.cells #[] 46) = w120 at HP120 hHeld ⊢
            refine ready2 (i := 0) (j := 15) (by kernel_rfl) rfl rfl (fun K hK => ?_) (fun K hK => ?_)
            · go_simp
              have HP121 := Lib.hid (Pcs.allocA HP120.out)
              refine hK.out _ _ (HSS.out _ HP121.out.bel) (fun hHeld => ?_); clear hK K
              generalize w120.alloc (.cells #[] 83) = w121 at HP121 hHeld ⊢
              refine ready2 (i := 3) (j := 15) (by kernel_rfl) rfl rfl (fun K hK => ?_) (fun K hK => ?_)
              · refine HP121.out.addA0 HSS.out hK rfl (.tmp 118) (.tmp 120) rfl rfl _ rfl x.datas KXD.out (by have := HCAP.out; omega) ?_
                intro p122 c122 w122 u122 HR122 HZ122 HP122 hHeld; clear hK K
                refine ready2 (i := 6) (j := 15) (by kernel_rfl) rfl rfl (fun K hK => ?_) (fun K hK => ?_)
                · refine HP122.out.addA HSS.out hK rfl (.tmp 121) (.tmp 123) rfl rfl _ rfl y.datas KYD.out (by have := HCAP.out; omega) ?_
                  intro p123 c123 w123 u123 HR123 HZ123 HP123 hHeld; clear hK K
                  refine ready2 (i := 10) (j := 15) (by kernel_rfl) rfl rfl (fun K hK => ?_) (fun K hK => ?_)
                  · refine HP123.out.addB0 HSS.out hK rfl (.tmp 125) (.tmp 127) rfl rfl _ rfl x.defs KXF.out (by have := HCAP.out; omega) ?_
                    intro p124 c124 w124 u124 HR124 HZ124 HP124 hHeld; clear hK K
                    refine ready2 (i := 13) (j := 15) (by kernel_rfl) rfl rfl (fun K hK => ?_) (fun K hK => ?_)
                    · refine HP124.out.addB HSS.out hK rfl (.tmp 128) (.tmp 130) rfl rfl _ rfl y.defs KYF.out (by have := HCAP.out; omega) ?_
                      intro p125 c125 w125 u125 HR125 HZ125 HP125 hHeld; clear hK K
                      refine ready2 (i := 14) (j := 15) (by kernel_rfl) rfl rfl (fun K hK => ?_) (fun K hK => ?_)
                      · go_simp
                        refine hK.out _ _ (HSS.out _ HP125.out.bel) (fun hHeld => ?_); clear hK K
                        refine ready1 (i := 15) (by kernel_rfl) rfl (fun K hK => ?_)
                        go_simp
                        have HP127 := Lib.hid (Pcs.allocC HP125.out)
                        refine hK.out _ _ (HSS.out _ HP127.out.bel) (fun hHeld => ?_); clear hK K
                        generalize w125.alloc (.cells #[.slice none 0 0, .slice none 0 0] 27) = w127 at HP127 hHeld ⊢
                        refine ready1 (i := 16) (by kernel_rfl) rfl (fun K hK => ?_)
                        have hdn := Pcs.done HP127.out (ds := x.datas ++ y.datas) (fs := x.defs ++ y.defs) (by simp) (by simp) (Reps.append HR122.out HR123.out) (Reps.append HR124.out HR125.out) (fun u hu => (List.mem_append.1 hu).elim (HZ122.out u) (HZ123.out u)) (fun u hu => (List.mem_append.1 hu).elim (HZ124.out u) (HZ125.out u))
                        have hcc := HP127.out.c _ rfl
                        have HDN := Lib.hid hdn; have HCC := Lib.hid hcc
                        have hfr := ent_free hcc.2
                        have hc0 := ent_cell hcc.2 0 _ rfl
                        have hc1 := ent_cell hcc.2 1 _ rfl
                        clear hdn hcc
                        go_simp
                        refine hK.out _ _ (HSS.out _ HDN.out.1) (fun hHeld => ?_); clear hK K
                        refine wpAnyH_done (by kernel_rfl) ?_ _
                        go_wp2_with fail
                        go_meet
                        exact ⟨_, _, _, rfl, HDN.out.1, HDN.out.2.1, HDN.out.2.2⟩
                      · go_simp
                        have HP129 := Lib.hid (Pcs.allocC HP125.out)
                        refine hK.out _ _ (HSS.out _ HP129.out.bel) (fun hHeld => ?_); clear hK K
                        generalize w125.alloc (.cells #[.slice none 0 0, .slice none 0 0] 27) = w129 at HP129 hHeld ⊢
                        refine ready1 (i := 14) (by kernel_rfl) rfl (fun K hK => ?_)
                        go_simp
                        refine hK.out _ _ (HSS.out _ HP129.out.bel) (fun hHeld => ?_); clear hK K
                        refine ready1 (i := 16) (by kernel_rfl) rfl (fun K hK => ?_)
                        have hdn := Pcs.done HP129.out (ds := x.datas ++ y.datas) (fs := x.defs ++ y.defs) (by simp) (by simp) (Reps.append HR122.out HR123.out) (Reps.append HR124.out HR125.out) (fun u hu => (List.mem_append.1 hu).elim (HZ122.out u) (HZ123.out u)) (fun u hu => (List.mem_append.1 hu).elim (HZ124.out u) (HZ125.out u))
                        have hcc := HP129.out.c _ rfl
                        have HDN := Lib.hid hdn; have HCC := Lib.hid hcc
                        have hfr := ent_free hcc.2
                        have hc0 := ent_cell hcc.2 0 _ rfl
                        have hc1 := ent_cell hcc.2 1 _ rfl
                        clear hdn hcc
                        go_simp
                        refine hK.out _ _ (HSS.out _ HDN.out.1) (fun hHeld => ?_); clear hK K
                        refine wpAnyH_done (by kernel_rfl) ?_ _
                        go_wp2_with fail
                        go_meet
                        exact ⟨_, _, _, rfl, HDN.out.1, HDN.out.2.1, HDN.out.2.2⟩
                    · go_simp
                      have HP132 := Lib.hid (Pcs.allocC HP124.out)
                      refine hK.out _ _ (HSS.out _ HP132.out.bel) (fun hHeld => ?_); clear hK K
                      generalize w124.alloc (.cells #[.slice none 0 0, .slice none 0 0] 27) = w132 at HP132 hHeld ⊢
                      refine ready1 (i := 13) (by kernel_rfl) rfl (fun K hK => ?_)
                      refine HP132.out.addB HSS.out hK rfl (.tmp 128) (.tmp 130) rfl rfl _ rfl y.defs KYF.out (by have := HCAP.out; omega) ?_
                      intro p133 c133 w133 u133 HR133 HZ133 HP133 hHeld; clear hK K
                      refine ready1 (i := 14) (by kernel_rfl) rfl (fun K hK => ?_)
                      go_simp
                      refine hK.out _ _ (HSS.out _ HP133.out.bel) (fun hHeld => ?_); clear hK K
                      refine ready1 (i := 16) (by kernel_rfl) rfl (fun K hK => ?_)
                      have hdn := Pcs.done HP133.out (ds := x.datas ++ y.datas) (fs := x.defs ++ y.defs) (by simp) (by simp) (Reps.append HR122.out HR123.out) (Reps.append HR124.out HR133.out) (fun u hu => (List.mem_append.1 hu).elim (HZ122.out u) (HZ123.out u)) (fun u hu => (List.mem_append.1 hu).elim (HZ124.out u) (HZ133.out u))
                      have hcc := HP133.out.c _ rfl
                      have HDN := Lib.hid hdn; have HCC := Lib.hid hcc
                      have hfr := ent_free hcc.2
                      have hc0 := ent_cell hcc.2 0 _ rfl
                      have hc1 := ent_cell hcc.2 1 _ rfl
                      clear hdn hcc
                      go_simp
                      refine hK.out _ _ (HSS.out _ HDN.out.1) (fun hHeld => ?_); clear hK K
                      refine wpAnyH_done (by kernel_rfl) ?_ _
                      go_wp2_with fail
                      go_meet
                      exact ⟨_, _, _, rfl, HDN.out.1, HDN.out.2.1, HDN.out.2.2⟩
                  · go_simp
                    have HP136 := Lib.hid (Pcs.allocC HP123.out)
                    refine hK.out _ _ (HSS.out _ HP136.out.bel) (fun hHeld => ?_); clear hK K
                    generalize w123.alloc (.cells #[.slice none 0 0, .slice none 0 0] 27) = w136 at HP136 hHeld ⊢
                    refine ready1 (i := 10) (by kernel_rfl) rfl (fun K hK => ?_)
                    refine HP136.out.addB0 HSS.out hK rfl (.tmp 125) (.tmp 127) rfl rfl _ rfl x.defs KXF.out (by have := HCAP.out; omega) ?_
                    intro p137 c137 w137 u137 HR137 HZ137 HP137 hHeld; clear hK K
                    refine ready1 (i := 13) (by kernel_rfl) rfl (fun K hK => ?_)
                    refine HP137.out.addB HSS.out hK rfl (.tmp 128) (.tmp 130) rfl rfl _ rfl y.defs KYF.out (by have := HCAP.out; omega) ?_
                    intro p138 c138 w138 u138 HR138 HZ138 HP138 hHeld; clear hK K
                    refine ready1 (i := 14) (by kernel_rfl) rfl (fun K hK => ?_)
                    go_simp
                    refine hK.out _ _ (HSS.out _ HP138.out.bel) (fun hHeld => ?_); clear hK K
                    refine ready1 (i := 16) (by kernel_rfl) rfl (fun K hK => ?_)
                    have hdn := Pcs.done HP138.out (ds := x.datas ++ y.datas) (fs := x.defs ++ y.defs) (by simp) (by simp) (Reps.append HR122.out HR123.out) (Reps.append HR137.out HR138.out) (fun u hu => (List.mem_append.1 hu).elim (HZ122.out u) (HZ123.out u)) (fun u hu => (List.mem_append.1 hu).elim (HZ137.out u) (HZ138.out u))
                    have hcc := HP138.out.c _ rfl
                    have HDN := Lib.hid hdn; have HCC := Lib.hid hcc
                    have hfr := ent_free hcc.2
                    have hc0 := ent_cell hcc.2 0 _ rfl
                    have hc1 := ent_cell hcc.2 1 _ rfl
                    clear hdn hcc
                    go_simp
                    refine hK.out _ _ (HSS.out _ HDN.out.1) (fun hHeld => ?_); clear hK K
                    refine wpAnyH_done (by kernel_rfl) ?_ _
                    go_wp2_with fail
                    go_meet
                    exact ⟨_, _, _, rfl, HDN.out.1, HDN.out.2.1, HDN.out.2.2⟩
                · go_simp
                  have HP141 := Lib.hid (Pcs.allocC HP122.out)
                  refine hK.out _ _ (HSS.out _ HP141.out.bel) (fun hHeld => ?_); clear hK K
                  generalize w122.alloc (.cells #[.slice none 0 0, .slice none 0 0] 27) = w141 at HP141 hHeld ⊢
                  refine ready1 (i := 6) (by kernel_rfl) rfl (fun K hK => ?_)
                  refine HP141.out.addA HSS.out hK rfl (.tmp 121) (.tmp 123) rfl rfl _ rfl y.datas KYD.out (by have := HCAP.out; omega) ?_
                  intro p142 c142 w142 u142 HR142 HZ142 HP142 hHeld; clear hK K
                  refine ready1 (i := 10) (by kernel_rfl) rfl (fun K hK => ?_)
                  refine HP142.out.addB0 HSS.out hK rfl (.tmp 125) (.tmp 127) rfl rfl _ rfl x.defs KXF.out (by have := HCAP.out; omega) ?_
                  intro p143 c143 w143 u143 HR143 HZ143 HP143 hHeld; clear hK K
                  refine ready1 (i := 13) (by kernel_rfl) rfl (fun K hK => ?_)
                  refine HP143.out.addB HSS.out hK rfl (.tmp 128) (.tmp 130) rfl rfl _ rfl y.defs KYF.out (by have := HCAP.out; omega) ?_
                  intro p144 c144 w144 u144 HR144 HZ144 HP144 hHeld; clear hK K
                  refine ready1 (i := 14) (by kernel_rfl) rfl (fun K hK => ?_)
                  go_simp
                  refine hK.out _ _ (HSS.out _ HP144.out.bel) (fun hHeld => ?_); clear hK K
                  refine ready1 (i := 16) (by kernel_rfl) rfl (fun K hK => ?_)
                  have hdn := Pcs.done HP144.out (ds := x.datas ++ y.datas) (fs := x.defs ++ y.defs) (by simp) (by simp) (Reps.append HR122.out HR142.out) (Reps.append HR143.out HR144.out) (fun u hu => (List.mem_append.1 hu).elim (HZ122.out u) (HZ142.out u)) (fun u hu => (List.mem_append.1 hu).elim (HZ143.out u) (HZ144.out u))
                  have hcc := HP144.out.c _ rfl
                  have HDN := Lib.hid hdn; have HCC := Lib.hid hcc
                  have hfr := ent_free hcc.2
                  have hc0 := ent_cell hcc.2 0 _ rfl
                  have hc1 := ent_cell hcc.2 1 _ rfl
                  clear hdn hcc
                  go_simp
                  refine hK.out _ _ (HSS.out _ HDN.out.1) (fun hHeld => ?_); clear hK K
                  refine wpAnyH_done (by kernel_rfl) ?_ _
                  go_wp2_with fail
                  go_meet
                  exact ⟨_, _, _, rfl, HDN.out.1, HDN.out.2.1, HDN.out.2.2⟩
              · go_simp
                have HP147 := Lib.hid (Pcs.allocC HP121.out)
                refine hK.out _ _ (HSS.out _ HP147.out.bel) (fun hHeld => ?_); clear hK K
                generalize w121.alloc (.cells #[.slice none 0 0, .slice none 0 0] 27) = w147 at HP147 hHeld ⊢
                refine ready1 (i := 3) (by kernel_rfl) rfl (fun K hK => ?_)
                refine HP147.out.addA0 HSS.out hK rfl (.tmp 118) (.tmp 120) rfl rfl _ rfl x.datas KXD.out (by have := HCAP.out; omega) ?_
                intro p148 c148 w148 u148 HR148 HZ148 HP148 hHeld; clear hK K
                refine ready1 (i := 6) (by kernel_rfl) rfl (fun K hK => ?_)
                refine HP148.out.addA HSS.out hK rfl (.tmp 121) (.tmp 123) rfl rfl _ rfl y.datas KYD.out (by have := HCAP.out; omega) ?_
                intro p149 c149 w149 u149 HR149 HZ149 HP149 hHeld; clear hK K
                refine ready1 (i := 10) (by kernel_rfl) rfl (fun K hK => ?_)
                refine HP149.out.addB0 HSS.out hK rfl (.tmp 125) (.tmp 127) rfl rfl _ rfl x.defs KXF.out (by have := HCAP.out; omega) ?_
                intro p150 c150 w150 u150 HR150 HZ150 HP150 hHeld; clear hK K
                refine ready1 (i := 13) (by kernel_rfl) rfl (fun K hK => ?_)
                refine HP150.out.addB HSS.out hK rfl (.tmp 128) (.tmp 130) rfl rfl _ rfl y.defs KYF.out (by have := HCAP.out; omega) ?_
                intro p151 c151 w151 u151 HR151 HZ151 HP151 hHeld; clear hK K
                refine ready1 (i := 14) (by kernel_rfl) rfl (fun K hK => ?_)
                go_simp
                refine hK.out _ _ (HSS.out _ HP151.out.bel) (fun hHeld => ?_); clear hK K
                refine ready1 (i := 16) (by kernel_rfl) rfl (fun K hK => ?_)
                have hdn := Pcs.done HP151.out (ds := x.datas ++ y.datas) (fs := x.defs ++ y.defs) (by simp) (by simp) (Reps.append HR148.out HR149.out) (Reps.append HR150.out HR151.out) (fun u hu => (List.mem_append.1 hu).elim (HZ148.out u) (HZ149.out u)) (fun u hu => (List.mem_append.1 hu).elim (HZ150.out u) (HZ151.out u))
                have hcc := HP151.out.c _ rfl
                have HDN := Lib.hid hdn; have HCC := Lib.hid hcc
                have hfr := ent_free hcc.2
                have hc0 := ent_cell hcc.2 0 _ rfl
                have hc1 := ent_cell hcc.2 1 _ rfl
                clear hdn hcc
                go_simp
                refine hK.out _ _ (HSS.out _ HDN.out.1) (fun hHeld => ?_); clear hK K
                refine wpAnyH_done (by kernel_rfl) ?_ _
                go_wp2_with fail
                go_meet
                exact ⟨_, _, _, rfl, HDN.out.1, HDN.out.2.1, HDN.out.2.2⟩
            · go_simp
              have HP154 := Lib.hid (Pcs.allocC HP120.out)
              refine hK.out _ _ (HSS.out _ HP154.out.bel) (fun hHeld => ?_); clear hK K
              generalize w120.alloc (.cells #[.slice none 0 0, .slice none 0 0] 27) = w154 at HP154 hHeld ⊢
              refine ready1 (i := 0) (by kernel_rfl) rfl (fun K hK => ?_)
              go_simp
              have HP155 := Lib.hid (Pcs.allocA HP154.out)
              refine hK.out _ _ (HSS.out _ HP155.out.bel) (fun hHeld => ?_); clear hK K
              generalize w154.alloc (.cells #[] 83) = w155 at HP155 hHeld ⊢
              refine ready1 (i := 3) (by kernel_rfl) rfl (fun K hK => ?_)
              refine HP155.out.addA0 HSS.out hK rfl (.tmp 118) (.tmp 120) rfl rfl _ rfl x.datas KXD.out (by have := HCAP.out; omega) ?_
              intro p156 c156 w156 u156 HR156 HZ156 HP156 hHeld; clear hK K
              refine ready1 (i := 6) (by kernel_rfl) rfl (fun K hK => ?_)
              refine HP156.out.addA HSS.out hK rfl (.tmp 121) (.tmp 123) rfl rfl _ rfl y.datas KYD.out (by have := HCAP.out; omega) ?_
              intro p157 c157 w157 u157 HR157 HZ157 HP157 hHeld; clear hK K
              refine ready1 (i := 10) (by kernel_rfl) rfl (fun K hK => ?_)
              refine HP157.out.addB0 HSS.out hK rfl (.tmp 125) (.tmp 127) rfl rfl _ rfl x.defs KXF.out (by have := HCAP.out; omega) ?_
              intro p158 c158 w158 u158 HR158 HZ158 HP158 hHeld; clear hK K
              refine ready1 (i := 13) (by kernel_rfl) rfl (fun K hK => ?_)
              refine HP158.out.addB HSS.out hK rfl (.tmp 128) (.tmp 130) rfl rfl _ rfl y.defs KYF.out (by have := HCAP.out; omega) ?_
              intro p159 c159 w159 u159 HR159 HZ159 HP159 hHeld; clear hK K
              refine ready1 (i := 14) (by kernel_rfl) rfl (fun K hK => ?_)
              go_simp
              refine hK.out _ _ (HSS.out _ HP159.out.bel) (fun hHeld => ?_); clear hK K
              refine ready1 (i := 16) (by kernel_rfl) rfl (fun K hK => ?_)
              have hdn := Pcs.done HP159.out (ds := x.datas ++ y.datas) (fs := x.defs ++ y.defs) (by simp) (by simp) (Reps.append HR156.out HR157.out) (Reps.append HR158.out HR159.out) (fun u hu => (List.mem_append.1 hu).elim (HZ156.out u) (HZ157.out u)) (fun u hu => (List.mem_append.1 hu).elim (HZ158.out u) (HZ159.out u))
              have hcc := HP159.out.c _ rfl
              have HDN := Lib.hid hdn; have HCC := Lib.hid hcc
              have hfr := ent_free hcc.2
              have hc0 := ent_cell hcc.2 0 _ rfl
              have hc1 := ent_cell hcc.2 1 _ rfl
              clear hdn hcc
              go_simp
              refine hK.out _ _ (HSS.out _ HDN.out.1) (fun hHeld => ?_); clear hK K
              refine wpAnyH_done (by kernel_rfl) ?_ _
              go_wp2_with fail
              go_meet
              exact ⟨_, _, _, rfl, HDN.out.1, HDN.out.2.1, HDN.out.2.2⟩
          · go_simp
            have HP162 := Lib.hid (Pcs.allocC HP0.out)
            refine hK.out _ _ (HSS.out _ HP162.out.bel) (fun hHeld => ?_); clear hK K
            generalize w999.alloc (.cells #[.slice none 0 0, .slice none 0 0] 27) = w162 at HP162 hHeld ⊢
            refine ready2 (i := 0) (j := 7) (by kernel_rfl) rfl rfl (fun K hK => ?_) (fun K hK => ?_)
            · go_simp
              have HP163 := Lib.hid (Pcs.allocA HP162.out)
              refine hK.out _ _ (HSS.out _ HP163.out.bel) (fun hHeld => ?_); clear hK K
              generalize w162.alloc (.cells #[] 83) = w163 at HP163 hHeld ⊢
              refine ready2 (i := 3) (j := 7) (by kernel_rfl) rfl rfl (fun K hK => ?_) (fun K hK => ?_)
              · refine HP163.out.addA0 HSS.out hK rfl (.tmp 118) (.tmp 120) rfl rfl _ rfl x.datas KXD.out (by have := HCAP.out; omega) ?_
                intro p164 c164 w164 u164 HR164 HZ164 HP164 hHeld; clear hK K
                refine ready2 (i := 6) (j := 7) (by kernel_rfl) rfl rfl (fun K hK => ?_) (fun K hK => ?_)
                · refine HP164.out.addA HSS.out hK rfl (.tmp 121) (.tmp 123) rfl rfl _ rfl y.datas KYD.out (by have := HCAP.out; omega) ?_
                  intro p165 c165 w165 u165 HR165 HZ165 HP165 hHeld; clear hK K
                  refine ready1 (i := 7) (by kernel_rfl) rfl (fun K hK => ?_)
                  go_simp
                  have HP166 := Lib.hid (Pcs.allocB HP165.out)
                  refine hK.out _ _ (HSS.out _ HP166.out.bel) (fun hHeld => ?_); clear hK K
                  generalize w165.alloc (.cells #[] 46) = w166 at HP166 hHeld ⊢
                  refine ready1 (i := 10) (by kernel_rfl) rfl (fun K hK => ?_)
                  refine HP166.out.addB0 HSS.out hK rfl (.tmp 125) (.tmp 127) rfl rfl _ rfl x.defs KXF.out (by have := HCAP.out; omega) ?_
                  intro p167 c167 w167 u167 HR167 HZ167 HP167 hHeld; clear hK K
                  refine ready1 (i := 13) (by kernel_rfl) rfl (fun K hK => ?_)
                  refine HP167.out.addB HSS.out hK rfl (.tmp 128) (.tmp 130) rfl rfl _ rfl y.defs KYF.out (by have := HCAP.out; omega) ?_
                  intro p168 c168 w168 u168 HR168 HZ168 HP168 hHeld; clear hK K
                  refine ready1 (i := 14) (by kernel_rfl) rfl (fun K hK => ?_)
                  go_simp
                  refine hK.out _ _ (HSS.out _ HP168.out.bel) (fun hHeld => ?_); clear hK K
                  refine ready1 (i := 16) (by kernel_rfl) rfl (fun K hK => ?_)
                  have hdn := Pcs.done HP168.out (ds := x.datas ++ y.datas) (fs := x.defs ++ y.defs) (by simp) (by simp) (Reps.append HR164.out HR165.out) (Reps.append HR167.out HR168.out) (fun u hu => (List.mem_append.1 hu).elim (HZ164.out u) (HZ165.out u)) (fun u hu => (List.mem_append.1 hu).elim (HZ167.out u) (HZ168.out u))
                  have hcc := HP168.out.c _ rfl
                  have HDN := Lib.hid hdn; have HCC := Lib.hid hcc
                  have hfr := ent_free hcc.2
                  have hc0 := ent_cell hcc.2 0 _ rfl
                  have hc1 := ent_cell hcc.2 1 _ rfl
                  clear hdn hcc
                  go_simp
                  refine hK.out _ _ (HSS.out _ HDN.out.1) (fun hHeld => ?_); clear hK K
                  refine wpAnyH_done (by kernel_rfl) ?_ _
                  go_wp2_with fail
                  go_meet
                  exact ⟨_, _, _, rfl, HDN.out.1, HDN.out.2.1, HDN.out.2.2⟩
                · go_simp
                  have HP171 := Lib.hid (Pcs.allocB HP164.out)
                  refine hK.out _ _ (HSS.out _ HP171.out.bel) (fun hHeld => ?_); clear hK K
                  generalize w164.alloc (.cells #[] 46) = w171 at HP171 hHeld ⊢
                  refine ready1 (i := 6) (by kernel_rfl) rfl (fun K hK => ?_)
                  refine HP171.out.addA HSS.out hK rfl (.tmp 121) (.tmp 123) rfl rfl _ rfl y.datas KYD.out (by have := HCAP.out; omega) ?_
                  intro p172 c172 w172 u172 HR172 HZ172 HP172 hHeld; clear hK K
                  refine ready1 (i := 10) (by kernel_rfl) rfl (fun K hK => ?_)
                  refine HP172.out.addB0 HSS.out hK rfl (.tmp 125) (.tmp 127) rfl rfl _ rfl x.defs KXF.out (by have := HCAP.out; omega) ?_
                  intro p173 c173 w173 u173 HR173 HZ173 HP173 hHeld; clear hK K
                  refine ready1 (i := 13) (by kernel_rfl) rfl (fun K hK => ?_)
                  refine HP173.out.addB HSS.out hK rfl (.tmp 128) (.tmp 130) rfl rfl _ rfl y.defs KYF.out (by have := HCAP.out; omega) ?_
                  intro p174 c174 w174 u174 HR174 HZ174 HP174 hHeld; clear hK K
                  refine ready1 (i := 14) (by kernel_rfl) rfl (fun K hK => ?_)
                  go_simp
                  refine hK.out _ _ (HSS.out _ HP174.out.bel) (fun hHeld => ?_); clear hK K
                  refine ready1 (i := 16) (by kernel_rfl) rfl (fun K hK => ?_)
                  have hdn := Pcs.done HP174.out (ds := x.datas ++ y.datas) (fs := x.defs ++ y.defs) (by simp) (by simp) (Reps.append HR164.out HR172.out) (Reps.append HR173.out HR174.out) (fun u hu => (List.mem_append.1 hu).elim (HZ164.out u) (HZ172.out u)) (fun u hu => (List.mem_append.1 hu).elim (HZ173.out u) (HZ174.out u))
                  have hcc := HP174.out.c _ rfl
                  have HDN := Lib.hid hdn; have HCC := Lib.hid hcc
                  have hfr := ent_free hcc.2
                  have hc0 := ent_cell hcc.2 0 _ rfl
                  have hc1 := ent_cell hcc.2 1 _ rfl
                  clear hdn hcc
                  go_simp
                  refine hK.out _ _ (HSS.out _ HDN.out.1) (fun hHeld => ?_); clear hK K
                  refine wpAnyH_done (by kernel_rfl) ?_ _
                  go_wp2_with fail
                  go_meet
                  exact ⟨_, _, _, rfl, HDN.out.1, HDN.out.2.1, HDN.out.2.2⟩
              · go_simp
                have HP177 := Lib.hid (Pcs.allocB HP163.out)
                refine hK.out _ _ (HSS.out _ HP177.out.bel) (fun hHeld => ?_); clear hK K
                generalize w163.alloc (.cells #[] 46) = w177 at HP177 hHeld ⊢
                refine ready1 (i := 3) (by kernel_rfl) rfl (fun K hK => ?_)
                refine HP177.out.addA0 HSS.out hK rfl (.tmp 118) (.tmp 120) rfl rfl _ rfl x.datas KXD.out (by have := HCAP.out; omega) ?_
                intro p178 c178 w178 u178 HR178 HZ178 HP178 hHeld; clear hK K
                refine ready1 (i := 6) (by kernel_rfl) rfl (fun K hK => ?_)
                refine HP178.out.addA HSS.out hK rfl (.tmp 121) (.tmp 123) rfl rfl _ rfl y.datas KYD.out (by have := HCAP.out; omega) ?_
                intro p179 c179 w179 u179 HR179 HZ179 HP179 hHeld; clear hK K
                refine ready1 (i := 10) (by kernel_rfl) rfl (fun K hK => ?_)
                refine HP179.out.addB0 HSS.out hK rfl (.tmp 125) (.tmp 127) rfl rfl _ rfl x.defs KXF.out (by have := HCAP.out; omega) ?_
                intro p180 c180 w180 u180 HR180 HZ180 HP180 hHeld; clear hK K
                refine ready1 (i := 13) (by kernel_rfl) rfl (fun K hK => ?_)
                refine HP180.out.addB HSS.out hK rfl (.tmp 128) (.tmp 130) rfl rfl _ rfl y.defs KYF.out (by have := HCAP.out; omega) ?_
                intro p181 c181 w181 u181 HR181 HZ181 HP181 hHeld; clear hK K
                refine ready1 (i := 14) (by kernel_rfl) rfl (fun K hK => ?_)
                go_simp
                refine hK.out _ _ (HSS.out _ HP181.out.bel) (fun hHeld => ?_); clear hK K
                refine ready1 (i := 16) (by kernel_rfl) rfl (fun K hK => ?_)
                have hdn := Pcs.done HP181.out (ds := x.datas ++ y.datas) (fs := x.defs ++ y.defs) (by simp) (by simp) (Reps.append HR178.out HR179.out) (Reps.append HR180.out HR181.out) (fun u hu => (List.mem_append.1 hu).elim (HZ178.out u) (HZ179.out u)) (fun u hu => (List.mem_append.1 hu).elim (HZ180.out u) (HZ181.out u))
                have hcc := HP181.out.c _ rfl
                have HDN := Lib.hid hdn; have HCC := Lib.hid hcc
                have hfr := ent_free hcc.2
                have hc0 := ent_cell hcc.2 0 _ rfl
                have hc1 := ent_cell hcc.2 1 _ rfl
                clear hdn hcc
                go_simp
                refine hK.out _ _ (HSS.out _ HDN.out.1) (fun hHeld => ?_); clear hK K
                refine wpAnyH_done (by kernel_rfl) ?_ _
                go_wp2_with fail
                go_meet
                exact ⟨_, _, _, rfl, HDN.out.1, HDN.out.2.1, HDN.out.2.2⟩
            · go_simp
              have HP184 := Lib.hid (Pcs.allocB HP162.out)
              refine hK.out _ _ (HSS.out _ HP184.out.bel) (fun hHeld => ?_); clear hK K
              generalize w162.alloc (.cells #[] 46) = w184 at HP184 hHeld ⊢
              refine ready1 (i := 0) (by kernel_rfl) rfl (fun K hK => ?_)
              go_simp
              have HP185 := Lib.hid (Pcs.allocA HP184.out)
              refine hK.out _ _ (HSS.out _ HP185.out.bel) (fun hHeld => ?_); clear hK K
              generalize w184.alloc (.cells #[] 83) = w185 at HP185 hHeld ⊢
              refine ready1 (i := 3) (by kernel_rfl) rfl (fun K hK => ?_)
              refine HP185.out.addA0 HSS.out hK rfl (.tmp 118) (.tmp 120) rfl rfl _ rfl x.datas KXD.out (by have := HCAP.out; omega) ?_
              intro p186 c186 w186 u186 HR186 HZ186 HP186 hHeld; clear hK K
              refine ready1 (i := 6) (by kernel_rfl) rfl (fun K hK => ?_)
              refine HP186.out.addA HSS.out hK rfl (.tmp 121) (.tmp 123) rfl rfl _ rfl y.datas KYD.out (by have := HCAP.out; omega) ?_
              intro p187 c187 w187 u187 HR187 HZ187 HP187 hHeld; clear hK K
              refine ready1 (i := 10) (by kernel_rfl) rfl (fun K hK => ?_)
              refine HP187.out.addB0 HSS.out hK rfl (.tmp 125) (.tmp 127) rfl rfl _ rfl x.defs KXF.out (by have := HCAP.out; omega) ?_
              intro p188 c188 w188 u188 HR188 HZ188 HP188 hHeld; clear hK K
              refine ready1 (i := 13) (by kernel_rfl) rfl (fun K hK => ?_)
              refine HP188.out.addB HSS.out hK rfl (.tmp 128) (.tmp 130) rfl rfl _ rfl y.defs KYF.out (by have := HCAP.out; omega) ?_
              intro p189 c189 w189 u189 HR189 HZ189 HP189 hHeld; clear hK K
              refine ready1 (i := 14) (by kernel_rfl) rfl (fun K hK => ?_)
              go_simp
              refine hK.out _ _ (HSS.out _ HP189.out.bel) (fun hHeld => ?_); clear hK K
              refine ready1 (i := 16) (by kernel_rfl) rfl (fun K hK => ?_)
              have hdn := Pcs.done HP189.out (ds := x.datas ++ y.datas) (fs := x.defs ++ y.defs) (by simp) (by simp) (Reps.append HR186.out HR187.out) (Reps.append HR188.out HR189.out) (fun u hu => (List.mem_append.1 hu).elim (HZ186.out u) (HZ187.out u)) (fun u hu => (List.mem_append.1 hu).elim (HZ188.out u) (HZ189.out u))
              have hcc := HP189.out.c _ rfl
              have HDN := Lib.hid hdn; have HCC := Lib.hid hcc
              have hfr := ent_free hcc.2
              have hc0 := ent_cell hcc.2 0 _ rfl
              have hc1 := ent_cell hcc.2 1 _ rfl
              clear hdn hcc
              go_simp
              refine hK.out _ _ (HSS.out _ HDN.out.1) (fun hHeld => ?_); clear hK K
              refine wpAnyH_done (by kernel_rfl) ?_ _
              go_wp2_with fail
              go_meet
              exact ⟨_, _, _, rfl, HDN.out.1, HDN.out.2.1, HDN.out.2.2⟩
         case rest =>
          obtain ⟨c, va, vb, rfl, hcb, hce, hcp⟩ := hcut
          have hbz := hcb
          obtain ⟨T, hT⟩ : ∃ T, T = Px.showProg 50 z := ⟨_, rfl⟩
          have hno := Px.showProg_no z
          have hwt := Khww.out
          have hsb := Khshow.out
          rw [← hT] at hno hwt hsb
          have hWb : Px.WholeP (x.add y) := fun d hd => (List.mem_append.1 hd).elim (fun h => Khwx.out d h) (fun h => Khwy.out d h)
          have hE0 := ent_cell hce 0 _ rfl
          have hE1 := ent_cell hce 1 _ rfl
          have hZ0 := (hcb.cell (World.block_lt_of_cell? _ _ HZ1.out)).trans HZ1.out
          have hZ1 := (hcb.cell (World.block_lt_of_cell? _ _ HZ2.out)).trans HZ2.out
          have hPz := progAt_below Khnz7.out hcb
          have HE0 := Lib.hid hE0; have HE1 := Lib.hid hE1; have HZ0 := Lib.hid hZ0; have HZ1b := Lib.hid hZ1; have HPZ := Lib.hid hPz; have HPB := Lib.hid hcp; have HBB := Lib.hid (HBW.out.trans (hcb.mono HBW.out.size)); have HNO := Lib.hid hno; have HWT := Lib.hid hwt; have HSB := Lib.hid hsb; have HWB := Lib.hid hWb; have HT := Lib.hid hT
          clear hcb hce hcp hbz hno hwt hsb hWb hE0 hE1 hZ0 hZ1 hPz hT hx1 hx2 hy1 hy2 hz1 hz2
          have hE0 := HE0.out; have hE1 := HE1.out; have hZ0 := HZ0.out; have hZ1 := HZ1b.out
          go_wp2_with fail
          have hS1 : ∀ u, Below wc.heap.size wc u → (Below wc.heap.size wc u ∧ u.cell? ⟨w7.heap.size, 0, none⟩ = some (.slice p5 n5 c5) ∧ u.cell? ⟨w7.heap.size, 1, none⟩ = some (.slice p6 n6 c6) ∧ u.cell? ⟨c, 0, none⟩ = some va ∧ u.cell? ⟨c, 1, none⟩ = some vb) := fun u hu => ⟨hu, (hu.cell (World.block_lt_of_cell? _ _ HZ0.out)).trans HZ0.out, (hu.cell (World.block_lt_of_cell? _ _ HZ1b.out)).trans HZ1b.out, (hu.cell (World.block_lt_of_cell? _ _ HE0.out)).trans HE0.out, (hu.cell (World.block_lt_of_cell? _ _ HE1.out)).trans HE1.out⟩
          have HS1 := Lib.hid hS1
          clear hS1 hE0 hE1 hZ0 hZ1
          refine wp_region_held_drew (S := fun u => (Below wc.heap.size wc u ∧ u.cell? ⟨w7.heap.size, 0, none⟩ = some (.slice p5 n5 c5) ∧ u.cell? ⟨w7.heap.size, 1, none⟩ = some (.slice p6 n6 c6) ∧ u.cell? ⟨c, 0, none⟩ = some va ∧ u.cell? ⟨c, 1, none⟩ = some vb)) rfl (HS1.out _ (Below.drew (Below.refl _ _))) (fun hHeld => ?_)
          refine wpAnyH_ready (rs := [0]) (by kernel_rfl) (by simp) ?_
          refine AllReadyH.cons rfl (fun K hK => ?_) AllReadyH.nil
          go_simp
          refine hK.out _ _ hHeld (fun hHeld => ?_)
          clear hK K
          refine wpAnyH_ready (rs := [1]) (by kernel_rfl) (by simp) ?_
          refine AllReadyH.cons rfl (fun K hK => ?_) AllReadyH.nil
          go_simp
          refine hK.out _ _ hHeld (fun hHeld => ?_)
          clear hK K
          refine wpAnyH_ready (rs := [2]) (by kernel_rfl) (by simp) ?_
          refine AllReadyH.cons rfl (fun K hK => ?_) AllReadyH.nil
          go_simp
          refine hK.out _ _ hHeld (fun hHeld => ?_)
          clear hK K
          refine wpAnyH_ready (rs := [3]) (by kernel_rfl) (by simp) ?_
          refine AllReadyH.cons rfl (fun K hK => ?_) AllReadyH.nil
          go_simp
          refine hK.out _ _ hHeld (fun hHeld => ?_)
          clear hK K
          refine wpAnyH_ready (rs := [4]) (by kernel_rfl) (by simp) ?_
          refine AllReadyH.cons rfl (fun K hK => ?_) AllReadyH.nil
          go_simp
          refine hK.out _ _ hHeld (fun hHeld => ?_)
          clear hK K
          refine wpAnyH_ready (rs := [5]) (by kernel_rfl) (by simp) ?_
          refine AllReadyH.cons rfl (fun K hK => ?_) AllReadyH.nil
          go_simp
          refine hK.out _ _ hHeld (fun hHeld => ?_)
          clear hK K
          refine wpAnyH_ready (rs := [6]) (by kernel_rfl) (by simp) ?_
          refine AllReadyH.cons rfl (fun K hK => ?_) AllReadyH.nil
          go_simp
          refine hK.out _ _ hHeld (fun hHeld => ?_)
          clear hK K
          refine wpAnyH_take (i := 7) (v := .agg #[.slice p5 n5 c5, .slice p6 n6 c6]) rfl (by kernel_rfl) (by kernel_rfl) (by kernel_rfl) (fun _ _ _ h => h) (Or.inl ⟨by go_simp, fun w' hSw => by go_simp⟩) hHeld ?_
          simp only [Act.put, List.setIfInBounds_toArray, List.set_cons_zero, List.set_cons_succ]
          refine wpAnyH_take (i := 9) (v := .agg #[va, vb]) rfl (by kernel_rfl) (by kernel_rfl) (by kernel_rfl) (fun _ _ _ h => h) (Or.inl ⟨by go_simp, fun w' hSw => by go_simp⟩) hHeld ?_
          simp only [Act.put, List.setIfInBounds_toArray, List.set_cons_zero, List.set_cons_succ]
          refine wpAnyH_ready (rs := [8]) (by kernel_rfl) (by simp) ?_
          refine AllReadyH.cons rfl (fun K hK => ?_) AllReadyH.nil
          go_simp
          refine (showing_any _ z _ (progAt_below HPZ.out hHeld.1) Khwz.out (by rw [← HT.out]; have := HWT.out; omega) ((Lib.tabBelow_of_tabIs HTAB.out) _ (HBB.out.trans (hHeld.1.mono HBB.out.size)))).mono ?_
          rw [← HT.out]
          rintro e x1 ⟨rfl, hb⟩
          have hbn := hHeld.1.trans (hb.mono hHeld.1.size)
          refine hK.out _ _ (HS1.out _ hbn) (fun hHeld => ?_)
          clear hK K hb hbn
          refine wpAnyH_ready (rs := [10]) (by kernel_rfl) (by simp) ?_
          refine AllReadyH.cons rfl (fun K hK => ?_) AllReadyH.nil
          go_simp
          refine (showing_any _ (x.add y) _ (progAt_below HPB.out hHeld.1) HWB.out (by rw [← HSB.out]; have := HWT.out; omega) ((Lib.tabBelow_of_tabIs HTAB.out) _ (HBB.out.trans (hHeld.1.mono HBB.out.size)))).mono ?_
          rw [← HSB.out]
          rintro e x2 ⟨rfl, hb⟩
          have hbn := hHeld.1.trans (hb.mono hHeld.1.size)
          refine hK.out _ _ (HS1.out _ hbn) (fun hHeld => ?_)
          clear hK K hb hbn
          refine wpAnyH_ready (rs := [11]) (by kernel_rfl) (by simp) ?_
          refine AllReadyH.cons rfl (fun K hK => ?_) AllReadyH.nil
          go_simp
          refine hK.out _ _ hHeld (fun hHeld => ?_)
          clear hK K
          refine wpAnyH_ready (rs := [12]) (by kernel_rfl) (by simp) ?_
          refine AllReadyH.cons rfl (fun K hK => ?_) AllReadyH.nil
          go_simp
          refine hK.out _ _ hHeld (fun hHeld => ?_)
          clear hK K
          refine wpAnyH_ready (rs := [13]) (by kernel_rfl) (by simp) ?_
          refine AllReadyH.cons rfl (fun K hK => ?_) AllReadyH.nil
          go_simp
          refine hK.out _ _ hHeld (fun hHeld => ?_)
          clear hK K
          refine wpAnyH_ready (rs := [14]) (by kernel_rfl) (by simp) ?_
          refine AllReadyH.cons rfl (fun K hK => ?_) AllReadyH.nil
          go_simp
          refine hK.out _ _ hHeld (fun hHeld => ?_)
          clear hK K
          refine wpAnyH_ready (rs := [15]) (by kernel_rfl) (by simp) ?_
          refine AllReadyH.cons rfl (fun K hK => ?_) AllReadyH.nil
          go_simp
          refine (showing_any _ z _ (progAt_below HPZ.out hHeld.1) Khwz.out (by rw [← HT.out]; have := HWT.out; omega) ((Lib.tabBelow_of_tabIs HTAB.out) _ (HBB.out.trans (hHeld.1.mono HBB.out.size)))).mono ?_
          rw [← HT.out]
          rintro e x3 ⟨rfl, hb⟩
          have hbn := hHeld.1.trans (hb.mono hHeld.1.size)
          refine hK.out _ _ (HS1.out _ hbn) (fun hHeld => ?_)
          clear hK K hb hbn
          have hne : (T == [63]) = false := by rw [beq_eq_false_iff_ne]; exact HNO.out
          refine wpAnyH_ready (rs := [16]) (by kernel_rfl) (by simp) ?_
          refine AllReadyH.cons rfl (fun K hK => ?_) AllReadyH.nil
          go_simp
          refine hK.out _ _ hHeld (fun hHeld => ?_)
          clear hK K
          refine wpAnyH_ready (rs := [17]) (by kernel_rfl) (by simp) ?_
          refine AllReadyH.cons rfl (fun K hK => ?_) AllReadyH.nil
          go_simp
          refine hK.out _ _ hHeld (fun hHeld => ?_)
          clear hK K
          refine wpAnyH_ready (rs := [18]) (by kernel_rfl) (by simp) ?_
          refine AllReadyH.cons rfl (fun K hK => ?_) AllReadyH.nil
          go_simp
          refine hK.out _ _ hHeld (fun hHeld => ?_)
          clear hK K
          first | refine wpAnyH_done (by kernel_rfl) ?_ _ | skip
          go_wp2_with fail
          go_ret
          exact ⟨rfl, HBB.out.trans (hHeld.1.mono HBB.out.size)⟩
theorem parseJoins_row (w : World) (a0 : Option Addr) (len0 cap0 : Nat) (z0 : List Int) (w0 : IsRow .u8 w a0 len0 cap0 z0) (a1 : Option Addr) (len1 cap1 : Nat) (z1 : List Int) (w1 : IsRow .u8 w a1 len1 cap1 z1) (hL : laidMetH Tryd.prog laidList w) :
 Calls Tryd.prog 5 #[.slice a0 len0 cap0, .slice a1 len1 cap1] w fun e w' => e = .returned (.bool true) ∧ Below w.heap.size w w' := by
 obtain ⟨s0, t0, l0, r0⟩ := row_src w0
 obtain ⟨s1, t1, l1, r1⟩ := row_src w1
 exact parseJoins_walk w a0 len0 cap0 a1 len1 cap1 _ _ s0 s1 t0 t1 l0 l1 r0 r1 (pow_table hL)
end Go.Proofs.YtpkecbijhckllaaDoor
