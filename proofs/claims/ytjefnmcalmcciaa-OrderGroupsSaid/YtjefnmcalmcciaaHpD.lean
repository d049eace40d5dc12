/-
  The heap's down, Push, Pop.
-/
import Derived.Test.YtjefnmcalmcciaaHpW
namespace Go.Proofs.Ytjefnmcalmcciaa
open Go Go.RowKit
set_option linter.unusedVariables false
set_option linter.unusedSimpArgs false

theorem less_anyI {lo B : Nat} {x y z : Value} {w : World} {H : List Nat} {v : Value} (h : Rdy lo B x y z w H v) (I J : Int) (i j : Nat) (hI : I = (i : Int)) (hJ : J = (j : Int)) (hi : i < H.length) (hj : j < H.length) :
    Calls Try.prog 51 #[v, .int .i64 I, .int .i64 J] w fun e w' => e = .returned (.bool (decide (Gr.at0 H i < Gr.at0 H j))) ∧ ∃ k, w' = w.drewN k := by
  subst hI; subst hJ; exact less_any h i j hi hj
theorem swap_anyI {lo B : Nat} {x y z : Value} {w0 w : World} {H : List Nat} {v : Value} (h : Rdy lo B x y z w H v) (ho : Only lo B w0 w) (I J : Int) (i j : Nat) (hI : I = (i : Int)) (hJ : J = (j : Int)) (hi : i < H.length) (hj : j < H.length) :
    Calls Try.prog 52 #[v, .int .i64 I, .int .i64 J] w fun e w' => e = .returned (.tuple #[]) ∧ Rdy lo B x y z w' (Gr.swp H i j) v ∧ Only lo B w0 w' := by
  subst hI; subst hJ; exact swap_any h ho i j hi hj

def DownPost (lo B : Nat) (x y z : Value) (w0 : World) (H : List Nat) (v : Value) (n : Nat) (e : Ending) (w' : World) : Prop :=
  ∃ H' b, e = .returned (.bool b) ∧ Rdy lo B x y z w' H' v ∧ Gr.IsHeap H' n ∧ H'.length = H.length ∧ (∀ a, H'.count a = H.count a) ∧ Gr.at0 H' n = Gr.at0 H n ∧ Only lo B w0 w'
def DownRel (lo B : Nat) (x y z : Value) (w0 : World) (H : List Nat) (v : Value) (n k : Nat) (w' : World) : Prop :=
  ∃ H', Rdy lo B x y z w' H' v ∧ Gr.DownInv H' n k ∧ H'.length = H.length ∧ (∀ a, H'.count a = H.count a) ∧ Gr.at0 H' n = Gr.at0 H n ∧ Only lo B w0 w'

set_option maxHeartbeats 4000000 in
set_option maxRecDepth 100000 in
theorem down_any {lo B : Nat} {x y z : Value} {w0 w : World} {H : List Nat} {v : Value} (h : Rdy lo B x y z w H v) (ho : Only lo B w0 w) (n : Nat) (hn : n < H.length) (hu : Gr.DownInv H n 0) :
    Calls Try.prog 30 #[.iface 53 (.pointer (some ⟨B, 3, none⟩)), .int .i64 0, .int .i64 (n : Int)] w (DownPost lo B x y z w0 H v n) := by
  have HR : Hid (DownRel lo B x y z w0 H v n 0 w) := Lib.hid ⟨H, h, hu, rfl, fun _ => rfl, rfl, ho⟩
  have hbig := h.big
  clear h ho hu
  go_enter Try.func30, Try.ntmps30
  go_wp2_with fail
  go_loopw [7] (fun i wr => ∃ k : Nat, i = .int .i64 k ∧ k ≤ n ∧ Hid (DownRel lo B x y z w0 H v n k wr)) (fun i _ => n - (intOf i).toNat)
  case atStart => exact ⟨0, rfl, Nat.zero_le _, HR⟩
  case round =>
    clear HR
    obtain ⟨k, rfl, hkn, HR⟩ := hrel
    obtain ⟨H1, hr, hu, hl, hc, hlast, ho⟩ := HR.out
    have HRD := Lib.hid hr; have HU := Lib.hid hu; have HL := Lib.hid hl; have HC := Lib.hid hc; have HO := Lib.hid ho; have HLA := Lib.hid hlast
    clear hr hu hl hc ho HR hlast
    have f3 := ent_cell HRD.out.ent 3 v rfl
    obtain ⟨p, c, rfl⟩ := HRD.out.form
    have hn1 : n < H1.length := by have := HL.out; omega
    have hkb : (k : Int) ≤ 1000000000 := by omega
    have hm1 : (0 : Int) ≤ 2 * (k : Int) + 1 := by omega
    have hm2 : ¬ (2 * (k : Int) + 1 < 0) := by omega
    have mL := lessM wr B p c _ f3
    have cL := callLess
    by_cases hge : n ≤ 2 * k + 1
    · have hg2 : (n : Int) ≤ 2 * (k : Int) + 1 := by omega
      have HH := Lib.hid (HU.out.stop (fun q hq hq2 => by omega))
      go_wp2_with fail
      all_goals
        go_ret
        exact ⟨H1, _, rfl, HRD.out, HH.out, HL.out, HC.out, HLA.out, HO.out⟩
    · have hg2 : ¬ ((n : Int) ≤ 2 * (k : Int) + 1) := by omega
      have hg3 : 2 * (k : Int) + 1 < (n : Int) := by omega
      by_cases h2 : 2 * k + 2 < n
      · have h2i : 2 * (k : Int) + 1 + 1 < (n : Int) := by omega
        go_wp2_with fail
        refine (less_anyI HRD.out (2 * (k : Int) + 1 + 1) (2 * (k : Int) + 1) (2 * k + 2) (2 * k + 1) (by omega) (by omega) (by omega) (by omega)).mono ?_
        rintro e w2 ⟨rfl, nq, rfl⟩
        replace HO := Lib.hid (HO.out.drewN nq)
        replace HRD := Lib.hid (rdy_drewN HRD.out nq)
        clear f3 mL
        generalize wr.drewN nq = w2 at *
        have f3 := ent_cell HRD.out.ent 3 _ rfl
        have mL := lessM w2 B p c _ f3
        by_cases hlt1 : Gr.at0 H1 (2 * k + 2) < Gr.at0 H1 (2 * k + 1)
        · have hd1 : decide (Gr.at0 H1 (2 * k + 2) < Gr.at0 H1 (2 * k + 1)) = true := by simpa using hlt1
          have HM := Lib.hid hlt1
          rw [hd1]
          clear hlt1 hd1
          go_wp2_with fail
          refine (less_anyI HRD.out (2 * (k : Int) + 1 + 1) _ (2 * k + 2) k (by omega) rfl (by omega) (by omega)).mono ?_
          rintro e w5 ⟨rfl, nq, rfl⟩
          replace HO := Lib.hid (HO.out.drewN nq)
          replace HRD := Lib.hid (rdy_drewN HRD.out nq)
          clear f3 mL
          generalize w2.drewN nq = w5 at *
          by_cases hlt : Gr.at0 H1 (2 * k + 2) < Gr.at0 H1 k
          · have hd : decide (Gr.at0 H1 (2 * k + 2) < Gr.at0 H1 k) = true := by simpa using hlt
            have HLT := Lib.hid hlt
            rw [hd]
            clear hlt hd
            have f3 := ent_cell HRD.out.ent 3 _ rfl
            have mS := swapM w5 B p c _ f3
            have cS := callSwap
            go_wp2_with fail
            refine (swap_anyI HRD.out HO.out _ (2 * (k : Int) + 1 + 1) k (2 * k + 2) rfl (by omega) (by omega) (by omega)).mono ?_
            rintro e w6 ⟨rfl, hr3, ho3⟩
            have hsw := Gr.swp_at (show k < H1.length by omega) (show 2 * k + 2 < H1.length by omega) n
            rw [if_neg (by omega), if_neg (by omega)] at hsw
            have HN : Hid (DownRel lo B x y z w0 H (.slice p H1.length c) n (2 * k + 2) w6) := Lib.hid ⟨Gr.swp H1 k (2 * k + 2), hr3, HU.out.go (by omega) (by omega) HLT.out ((fun q hq hq2 => by have := HM.out; rcases hq2 with rfl | rfl <;> omega)), by rw [Gr.swp_len]; exact HL.out, (fun a => by rw [Gr.swp_count (by omega) (by omega)]; exact HC.out a), by rw [hsw]; exact HLA.out, ho3⟩
            clear hr3 ho3 mS cS f3 hsw
            go_wp2
            go_roundw
            case rel => exact ⟨2 * k + 2, by go_num, by omega, HN⟩
            case measure => simp [intOf]; omega
          · have hd : decide (Gr.at0 H1 (2 * k + 2) < Gr.at0 H1 k) = false := by simpa using hlt
            have hmin : ∀ q, q < n → q = 2 * k + 1 ∨ q = 2 * k + 2 → Gr.at0 H1 (2 * k + 2) ≤ Gr.at0 H1 q := (fun q hq hq2 => by have := HM.out; rcases hq2 with rfl | rfl <;> omega)
            have HH := Lib.hid (HU.out.stop (fun q hq hq2 => by have := hmin q hq hq2; omega))
            rw [hd]
            clear hlt hd hmin
            go_wp2
            go_ret
            exact ⟨H1, _, rfl, HRD.out, HH.out, HL.out, HC.out, HLA.out, HO.out⟩
        · have hd1 : decide (Gr.at0 H1 (2 * k + 2) < Gr.at0 H1 (2 * k + 1)) = false := by simpa using hlt1
          have HM := Lib.hid hlt1
          rw [hd1]
          clear hlt1 hd1
          go_wp2_with fail
          refine (less_anyI HRD.out (2 * (k : Int) + 1) _ (2 * k + 1) k (by omega) rfl (by omega) (by omega)).mono ?_
          rintro e w5 ⟨rfl, nq, rfl⟩
          replace HO := Lib.hid (HO.out.drewN nq)
          replace HRD := Lib.hid (rdy_drewN HRD.out nq)
          clear f3 mL
          generalize w2.drewN nq = w5 at *
          by_cases hlt : Gr.at0 H1 (2 * k + 1) < Gr.at0 H1 k
          · have hd : decide (Gr.at0 H1 (2 * k + 1) < Gr.at0 H1 k) = true := by simpa using hlt
            have HLT := Lib.hid hlt
            rw [hd]
            clear hlt hd
            have f3 := ent_cell HRD.out.ent 3 _ rfl
            have mS := swapM w5 B p c _ f3
            have cS := callSwap
            go_wp2_with fail
            refine (swap_anyI HRD.out HO.out _ (2 * (k : Int) + 1) k (2 * k + 1) rfl (by omega) (by omega) (by omega)).mono ?_
            rintro e w6 ⟨rfl, hr3, ho3⟩
            have hsw := Gr.swp_at (show k < H1.length by omega) (show 2 * k + 1 < H1.length by omega) n
            rw [if_neg (by omega), if_neg (by omega)] at hsw
            have HN : Hid (DownRel lo B x y z w0 H (.slice p H1.length c) n (2 * k + 1) w6) := Lib.hid ⟨Gr.swp H1 k (2 * k + 1), hr3, HU.out.go (by omega) (by omega) HLT.out ((fun q hq hq2 => by have := HM.out; rcases hq2 with rfl | rfl <;> omega)), by rw [Gr.swp_len]; exact HL.out, (fun a => by rw [Gr.swp_count (by omega) (by omega)]; exact HC.out a), by rw [hsw]; exact HLA.out, ho3⟩
            clear hr3 ho3 mS cS f3 hsw
            go_wp2
            go_roundw
            case rel => exact ⟨2 * k + 1, by go_num, by omega, HN⟩
            case measure => simp [intOf]; omega
          · have hd : decide (Gr.at0 H1 (2 * k + 1) < Gr.at0 H1 k) = false := by simpa using hlt
            have hmin : ∀ q, q < n → q = 2 * k + 1 ∨ q = 2 * k + 2 → Gr.at0 H1 (2 * k + 1) ≤ Gr.at0 H1 q := (fun q hq hq2 => by have := HM.out; rcases hq2 with rfl | rfl <;> omega)
            have HH := Lib.hid (HU.out.stop (fun q hq hq2 => by have := hmin q hq hq2; omega))
            rw [hd]
            clear hlt hd hmin
            go_wp2
            go_ret
            exact ⟨H1, _, rfl, HRD.out, HH.out, HL.out, HC.out, HLA.out, HO.out⟩
      · have h2i : ¬ (2 * (k : Int) + 1 + 1 < (n : Int)) := by omega
        have h2d : decide (2 * (k : Int) + 1 + 1 < (n : Int)) = false := by simpa using h2i
        go_wp2_with fail
        refine (less_anyI HRD.out (2 * (k : Int) + 1) _ (2 * k + 1) k (by omega) rfl (by omega) (by omega)).mono ?_
        rintro e w5 ⟨rfl, nq, rfl⟩
        replace HO := Lib.hid (HO.out.drewN nq)
        replace HRD := Lib.hid (rdy_drewN HRD.out nq)
        clear f3 mL
        generalize wr.drewN nq = w5 at *
        by_cases hlt : Gr.at0 H1 (2 * k + 1) < Gr.at0 H1 k
        · have hd : decide (Gr.at0 H1 (2 * k + 1) < Gr.at0 H1 k) = true := by simpa using hlt
          have HLT := Lib.hid hlt
          rw [hd]
          clear hlt hd
          have f3 := ent_cell HRD.out.ent 3 _ rfl
          have mS := swapM w5 B p c _ f3
          have cS := callSwap
          go_wp2_with fail
          refine (swap_anyI HRD.out HO.out _ (2 * (k : Int) + 1) k (2 * k + 1) rfl (by omega) (by omega) (by omega)).mono ?_
          rintro e w6 ⟨rfl, hr3, ho3⟩
          have hsw := Gr.swp_at (show k < H1.length by omega) (show 2 * k + 1 < H1.length by omega) n
          rw [if_neg (by omega), if_neg (by omega)] at hsw
          have HN : Hid (DownRel lo B x y z w0 H (.slice p H1.length c) n (2 * k + 1) w6) := Lib.hid ⟨Gr.swp H1 k (2 * k + 1), hr3, HU.out.go (by omega) (by omega) HLT.out ((fun q hq hq2 => by rcases hq2 with rfl | rfl <;> omega)), by rw [Gr.swp_len]; exact HL.out, (fun a => by rw [Gr.swp_count (by omega) (by omega)]; exact HC.out a), by rw [hsw]; exact HLA.out, ho3⟩
          clear hr3 ho3 mS cS f3 hsw
          go_wp2
          go_roundw
          case rel => exact ⟨2 * k + 1, by go_num, by omega, HN⟩
          case measure => simp [intOf]; omega
        · have hd : decide (Gr.at0 H1 (2 * k + 1) < Gr.at0 H1 k) = false := by simpa using hlt
          have hmin : ∀ q, q < n → q = 2 * k + 1 ∨ q = 2 * k + 2 → Gr.at0 H1 (2 * k + 1) ≤ Gr.at0 H1 q := (fun q hq hq2 => by rcases hq2 with rfl | rfl <;> omega)
          have HH := Lib.hid (HU.out.stop (fun q hq hq2 => by have := hmin q hq hq2; omega))
          rw [hd]
          clear hlt hd hmin
          go_wp2
          go_ret
          exact ⟨H1, _, rfl, HRD.out, HH.out, HL.out, HC.out, HLA.out, HO.out⟩
end Go.Proofs.Ytjefnmcalmcciaa
