/-
  ParseNumbers: its walk.
-/
import Derived.Test.YtbkhhdfhcbjfbaaDoorGTop
import Derived.Test.YtbkhhdfhcbjfbaaDoorGPure
namespace Go.Proofs.YtbkhhdfhcbjfbaaDoor
open Go Go.RowKit
set_option linter.unusedVariables false
set_option linter.unusedSimpArgs false

theorem sumPre_snoc (ns : List Int) (n : Int) : Px.sumPre (ns ++ [n]) = Px.sumPre ns ++ ([40, 43, 32] ++ Lib.itoa n ++ [32]) := by
  unfold Px.sumPre; rw [List.flatMap_append]; simp
theorem sumPre_take (ns : List Int) (k : Nat) (n : Int) (h : ns[k]? = some n) : Px.sumPre (ns.take (k + 1)) = Px.sumPre (ns.take k) ++ ([40, 43, 32] ++ Lib.itoa n ++ [32]) := by
  rw [List.take_add_one, h]; exact sumPre_snoc _ _

/-- The numbers as they lie. -/
def NumsAt (w : World) (b off : Nat) (zs : List Int) : Prop := ∀ j n, zs[j]? = some n → w.cell? ⟨b, off + j, none⟩ = some (.int .i32 n) ∧ -2147483648 ≤ n ∧ n ≤ 2147483647
theorem NumsAt.below {w w' : World} {b off : Nat} {zs : List Int} (h : NumsAt w b off zs) (hb : Below w.heap.size w w') : NumsAt w' b off zs := fun j n hj => by
  obtain ⟨h1, h2, h3⟩ := h j n hj
  exact ⟨by rw [hb.cell (World.block_lt_of_cell? w _ h1)]; exact h1, h2, h3⟩

set_option maxHeartbeats 4000000 in
set_option maxRecDepth 100000 in
theorem parseNumbers_text (w : World) (b off cap : Nat) (zs : List Int) (m : Int) (hz : NumsAt w b off (zs ++ [m])) (hcap : zs.length + 1 ≤ cap) (hcap2 : cap ≤ 140737488351232) (htab : Lib.TabIs Tryd.prog w "internal/strconv.uint64pow10" .u64 Lib.pow10Tab) :
    Calls Tryd.prog 7 #[.slice (some ⟨b, off, none⟩) (zs.length + 1) cap] w fun e w' => e = .returned (.bool true) ∧ Below w.heap.size w w' := by
  have HZ := Lib.hid hz; have HTAB := Lib.hid htab
  clear hz htab
  obtain ⟨M, hM⟩ : ∃ M, M = zs.length + 1 := ⟨_, rfl⟩
  rw [← hM] at hcap ⊢
  have hM0 : ¬ (M : Int) = 0 := by omega
  have hM1 : 1 ≤ M := by omega
  have HL := Lib.hid (show zs.length = M - 1 by omega)
  clear hM
  go_enter Tryd.func7, Tryd.ntmps7
  go_wp2_with fail
  refine (livesP_any _).mono ?_
  rintro e w1 ⟨rfl, hb1⟩
  have HB1 := Lib.hid hb1; clear hb1
  by_cases hlong : 30 < M
  · have hl2 : (30 : Int) < (M : Int) := by omega
    have hb0 : ((M : Int) == 0) = false := by simpa using hM0
    have hb1 : decide ((30 : Int) < (M : Int)) = true := by simpa using hl2
    go_wp2_with fail
    refine (livesP_any _).mono ?_
    rintro e w2 ⟨rfl, hb2⟩
    have HB2 := Lib.hid (HB1.out.trans (hb2.mono HB1.out.size)); clear hb2
    go_wp2_with fail
    go_ret
    exact ⟨rfl, HB2.out⟩
  · have hl2 : ¬ (30 : Int) < (M : Int) := by omega
    have hb0 : ((M : Int) == 0) = false := by simpa using hM0
    have hb1 : decide ((30 : Int) < (M : Int)) = false := by simpa using hl2
    go_wp2_with fail
    have hsm : ∀ n, n ∈ zs → Px.Small n := fun n hn => by
      obtain ⟨j, hj⟩ := List.mem_iff_getElem?.1 hn
      obtain ⟨_, h2, h3⟩ := HZ.out j n (by rw [List.getElem?_append_left (List.getElem?_eq_some_iff.1 hj).1]; exact hj)
      exact ⟨by omega, by omega⟩
    have hmm := HZ.out (M - 1) m (by rw [List.getElem?_append_right (by rw [HL.out]; exact Nat.le_refl _), HL.out, Nat.sub_self]; rfl)
    have hms : Px.Small m := ⟨by have := hmm.2.1; omega, by have := hmm.2.2; omega⟩
    have HSM := Lib.hid hsm; have HMS := Lib.hid hms; have HMM := Lib.hid hmm
    clear hsm hmm hms
    go_loopw [3, 31] (fun s i wr => ∃ k : Nat, i = .int .i64 k ∧ k ≤ M - 1 ∧ s = .string ⟨(Px.sumPre (zs.take k)).toArray⟩ ∧ Below w.heap.size w wr) (fun _ i _ => M - 1 - (intOf i).toNat)
    case atStart => exact ⟨0, rfl, Nat.zero_le _, by simp [Px.sumPre], HB1.out⟩
    case round =>
      obtain ⟨k, rfl, hk, rfl, hb⟩ := hrel
      have HB := Lib.hid hb; clear hb
      by_cases hlt : k < M - 1
      · obtain ⟨n, hn⟩ : ∃ n, zs[k]? = some n := ⟨_, List.getElem?_eq_getElem (by rw [HL.out]; exact hlt)⟩
        obtain ⟨c0, hn1, hn2⟩ := (HZ.out.below HB.out) k n (by rw [List.getElem?_append_left (by rw [HL.out]; exact hlt)]; exact hn)
        have hst := sumPre_take zs k n hn
        have hlen0 : (Px.sumPre (zs.take k)).length ≤ 23 * 30 := by
          have h1 := Px.sumPre_len (zs.take k) (fun x hx => HSM.out x (List.mem_of_mem_take hx))
          rw [List.length_take] at h1
          omega
        have hil := Px.itoa_len n (HSM.out n (List.mem_of_getElem? hn))
        have HST := Lib.hid hst; have HN := Lib.hid hn
        clear hst hn
        generalize Px.sumPre (zs.take k) = S at *
        go_wp2_with fail
        refine (itoa_any n (by omega) (by omega) wr ((Lib.tabBelow_of_tabIs HTAB.out) wr HB.out)).mono ?_
        rintro e w2 ⟨rfl, hb2⟩
        have HB2 := Lib.hid (HB.out.trans (hb2.mono HB.out.size)); clear hb2
        generalize Lib.itoa n = T at *
        have s1 := sum_text (w := w2) [40, 43, 32] T (by simp only [List.length_cons, List.length_nil]; omega)
        have s2 := sum_text (w := w2) ([40, 43, 32] ++ T) [32] (by simp only [List.length_append, List.length_cons, List.length_nil]; omega)
        have s3 := sum_text (w := w2) S ([40, 43, 32] ++ T ++ [32]) (by simp only [List.length_append, List.length_cons, List.length_nil]; omega)
        rw [← HST.out] at s3
        go_wp2_with fail
        go_roundw
        case rel => exact ⟨k + 1, by go_num, by omega, by rw [bytes_lit1, bytes_app, HST.out]; simp, HB2.out⟩
        case measure => simp [intOf]; omega
      · obtain rfl : k = M - 1 := by omega
        obtain ⟨c0, hn1, hn2⟩ := (HZ.out.below HB.out) (M - 1) m (by rw [List.getElem?_append_right (by rw [HL.out]; exact Nat.le_refl _), HL.out, Nat.sub_self]; rfl)
        have htk : zs.take (M - 1) = zs := by rw [← HL.out, List.take_length]
        rw [htk]
        have hlen0 := Px.sumPre_len zs HSM.out
        have hil := Px.itoa_len m HMS.out
        have hsub : wrap64 ((M : Int) - 1) = ((M - 1 : Nat) : Int) := by unfold wrap64; omega
        have hzl := HL.out
        obtain ⟨S, hS⟩ : ∃ S, S = Px.sumPre zs := ⟨_, rfl⟩
        rw [← hS] at hlen0 ⊢
        have HS := Lib.hid hS
        have HTK := Lib.hid htk
        clear hS htk
        go_wp2_with fail
        refine (itoa_any m (by omega) (by omega) wr ((Lib.tabBelow_of_tabIs HTAB.out) wr HB.out)).mono ?_
        rintro e w2 ⟨rfl, hb2⟩
        have HB2 := Lib.hid (HB.out.trans (hb2.mono HB.out.size)); clear hb2 HB
        obtain ⟨T, hT⟩ : ∃ T, T = Lib.itoa m := ⟨_, rfl⟩
        rw [← hT] at hil ⊢
        have HT := Lib.hid hT
        clear hT
        have s1 := sum_text (w := w2) S T (by omega)
        go_wp2_with fail
        go_loopw [3, 56] (fun s i wr => wr = w2 ∧ ∃ k : Nat, i = .int .i64 k ∧ k ≤ M - 1 ∧ s = .string ⟨(S ++ (T ++ List.replicate k 41)).toArray⟩) (fun _ i _ => M - 1 - (intOf i).toNat)
        case atStart => exact ⟨rfl, 0, rfl, Nat.zero_le _, by simp⟩
        case round =>
          obtain ⟨rfl, k, rfl, hk, rfl⟩ := hrel
          by_cases hlt : k < M - 1
          · have s1 := sum_text (w := wr) (S ++ (T ++ List.replicate k 41)) [41] (by simp only [List.length_append, List.length_replicate, List.length_cons, List.length_nil]; omega)
            have e1 : S ++ (T ++ List.replicate k 41) ++ [41] = S ++ (T ++ List.replicate (k + 1) 41) := by rw [List.replicate_succ', List.append_assoc, List.append_assoc]
            rw [e1] at s1
            clear e1
            go_wp2_with fail
            go_roundw
            case rel => exact ⟨by trivial, k + 1, by go_num, by omega, rfl⟩
            case measure => simp [intOf]; omega
          · obtain rfl : k = M - 1 := by omega
            obtain ⟨W, hW⟩ : ∃ W, W = S ++ (T ++ List.replicate (M - 1) 41) := ⟨_, rfl⟩
            have hWl : W.length ≤ 1000 := by rw [hW]; simp only [List.length_append, List.length_replicate]; omega
            rw [← hW]
            have hpx : Px.exprOf W = .done (Px.sumExpr m 0 zs) := by
              rw [hW, HS.out, HT.out, ← HL.out]
              exact Px.exprOf_sum m zs HMS.out HSM.out (by omega)
            have HPX := Lib.hid hpx
            have hcv := conv_text wr W
            have he := expr_of_text wr W (by omega)
            clear hW hpx
            have HE := Lib.hid he; clear he
            go_wp2_with fail
            refine HE.out.mono ?_
            rintro e w3 ⟨hb3, hres⟩
            rw [HPX.out] at hres
            obtain ⟨v, rfl, hnew⟩ := hres
            have hex := hnew.now
            have HB3 := Lib.hid (HB2.out.trans ((Lib.bytesWorld_below wr 5 ⟨W.toArray⟩).trans (hb3.mono (by rw [Lib.bytesWorld_size]; omega)) |>.mono HB2.out.size))
            clear hnew hb3 HE hcv
            obtain ⟨xk, xp, xi, xs, q1, n1, c1, q2, n2, c2, q3, n3, c3, rfl⟩ := exprAt_form 50 _ _ _ hex
            have HEX := Lib.hid hex; clear hex
            go_wp2_with fail
            have hal : Below w3.heap.size w3 (w3.alloc (.cells #[.int .i64 xk, .int .i64 xp, .string xs, .int .i64 xi, .slice q1 n1 c1, .slice q2 n2 c2, .slice q3 n3 c3] 38)) := (Below.refl _ _).alloc (Nat.le_refl _) _
            have EN := Lib.hid (ent_new w3 #[.int .i64 xk, .int .i64 xp, .string xs, .int .i64 xi, .slice q1 n1 c1, .slice q2 n2 c2, .slice q3 n3 c3] 38)
            have HAL := Lib.hid hal
            clear hal
            go_loopw [9, 76] (fun pl i wr => ∃ (k p f : Nat) (xk xp xi : Int) (xs : ByteArray) (q1 : Option Addr) (n1 c1 : Nat) (q2 : Option Addr) (n2 c2 : Nat) (q3 : Option Addr) (n3 c3 : Nat), i = .int .i64 k ∧ k ≤ M - 1 ∧ pl = .int .i64 p ∧ p ≤ 30 * k ∧
              Hid (ExprAt f w3 (.agg #[.int .i64 xk, .int .i64 xp, .string xs, .int .i64 xi, .slice q1 n1 c1, .slice q2 n2 c2, .slice q3 n3 c3]) (Px.sumExpr m p (zs.drop k))) ∧
              Hid (wr.heap[w3.heap.size]? = some (.cells #[.int .i64 xk, .int .i64 xp, .string xs, .int .i64 xi, .slice q1 n1 c1, .slice q2 n2 c2, .slice q3 n3 c3] 38 (0, 0))) ∧ Below w3.heap.size w3 wr) (fun _ i _ => M - 1 - (intOf i).toNat)
            case atStart => exact ⟨0, 0, 50, xk, xp, xi, xs, q1, n1, c1, q2, n2, c2, q3, n3, c3, rfl, Nat.zero_le _, rfl, Nat.le_refl _, HEX, EN, HAL.out⟩
            case round =>
              clear EN HAL HEX
              obtain ⟨k, p, f, yk, yp, yi, ys, r1, l1, d1, r2, l2, d2, r3, l3, d3, rfl, hk, rfl, hp, HEX, EN, hb⟩ := hrel
              have HB := Lib.hid hb; clear hb
              have hlen := HL.out
              have ef := ent_free EN.out
              have e0 := ent_cell EN.out 0 _ rfl
              have e1 := ent_cell EN.out 1 _ rfl
              have e2 := ent_cell EN.out 2 _ rfl
              have e3 := ent_cell EN.out 3 _ rfl
              have e5 := ent_cell EN.out 5 _ rfl
              have hkM : k < M := by omega
              by_cases hlt : k < M - 1
              · obtain ⟨n, hn⟩ : ∃ n, zs[k]? = some n := ⟨_, List.getElem?_eq_getElem (by rw [HL.out]; exact hlt)⟩
                obtain ⟨c0, hn1, hn2⟩ := (HZ.out.below (HB3.out.trans (HB.out.mono HB3.out.size))) k n (by rw [List.getElem?_append_left (by rw [HL.out]; exact hlt)]; exact hn)
                have hil := Px.itoa_len n (HSM.out n (List.mem_of_getElem? hn))
                have hdk : zs.drop k = n :: zs.drop (k + 1) := by
                  obtain ⟨h1, h2⟩ := List.getElem?_eq_some_iff.1 hn
                  rw [List.drop_eq_getElem_cons h1, h2]
                have hex := HEX.out
                rw [hdk] at hex
                obtain ⟨f, rfl⟩ : ∃ g, f = g + 1 := by cases f with
                  | zero => exact hex.elim
                  | succ g => exact ⟨g, rfl⟩
                obtain ⟨nv, xv, av, he, _, hxs, _⟩ := hex
                simp only [Value.agg.injEq, Array.mk.injEq, List.cons.injEq, Value.int.injEq, true_and] at he
                obtain ⟨rfl, rfl, hys, rfl, _, rfl, _⟩ := he
                injection hys with hys
                subst hys
                rcases hxs with ⟨h, _⟩ | ⟨g, o, c, hxv, hc1, hc2, hcell⟩
                · exact absurd h (by simp)
                injection hxv with hr2 hl2' hd2
                subst hr2; subst hl2'; subst hd2
                obtain ⟨u0, hu0, _, hu0c⟩ := hcell 0 _ rfl
                obtain ⟨u1, hu1, _, hu1c⟩ := hcell 1 _ rfl
                obtain ⟨xk, xp, xi, xs, q1, n1, b1, q2, n2, b2, q3, n3, b3, rfl⟩ := exprAt_form f _ _ _ hu1
                obtain ⟨f', rfl⟩ : ∃ g, f = g + 1 := by cases f with
                  | zero => exact hu0.elim
                  | succ g => exact ⟨g, rfl⟩
                obtain ⟨nv0, xv0, av0, rfl, _⟩ := hu0
                have up : ∀ j z, w3.cell? ⟨g, j, none⟩ = some z → wr.cell? ⟨g, j, none⟩ = some z := fun j z hj => by rw [HB.out.cell (World.block_lt_of_cell? w3 _ hj)]; exact hj
                have g1 := up _ _ (hu0c 1 _ rfl); have g3 := up _ _ (hu0c 3 _ rfl)
                have a0 := up _ _ (hu1c 0 _ rfl); have a1 := up _ _ (hu1c 1 _ rfl); have a2 := up _ _ (hu1c 2 _ rfl); have a3 := up _ _ (hu1c 3 _ rfl); have a4 := up _ _ (hu1c 4 _ rfl); have a5 := up _ _ (hu1c 5 _ rfl); have a6 := up _ _ (hu1c 6 _ rfl)
                simp only [Nat.zero_mul, Nat.one_mul, Nat.add_zero] at g1 g3 a0 a1 a2 a3 a4 a5 a6
                have hglt : g < w3.heap.size := World.block_lt_of_cell? w3 _ (hu1c 0 _ rfl)
                have hU1 := Lib.hid hu1
                have hu : Below w.heap.size w wr := HB3.out.trans (HB.out.mono HB3.out.size)
                have HU := Lib.hid hu; have HN := Lib.hid hn; have HUP := Lib.hid up
                have hsub : wrap64 ((M : Int) - 1) = ((M - 1 : Nat) : Int) := by unfold wrap64; omega
                clear hu0c hu1c hcell hdk hn hu up hu1
                go_wp2_with fail
                refine (itoa_any n (by omega) (by omega) wr ((Lib.tabBelow_of_tabIs HTAB.out) wr HU.out)).mono ?_
                rintro e w4 ⟨rfl, hb4⟩
                replace EN := Lib.hid (ent_below EN.out hb4)
                replace a0 := (hb4.cell (World.block_lt_of_cell? wr _ a0)).trans a0
                replace a1 := (hb4.cell (World.block_lt_of_cell? wr _ a1)).trans a1
                replace a2 := (hb4.cell (World.block_lt_of_cell? wr _ a2)).trans a2
                replace a3 := (hb4.cell (World.block_lt_of_cell? wr _ a3)).trans a3
                replace a4 := (hb4.cell (World.block_lt_of_cell? wr _ a4)).trans a4
                replace a5 := (hb4.cell (World.block_lt_of_cell? wr _ a5)).trans a5
                replace a6 := (hb4.cell (World.block_lt_of_cell? wr _ a6)).trans a6
                have HB4 := Lib.hid (HB.out.trans (hb4.mono HB.out.size))
                clear hb4 e0 e1 e2 e3 e5 ef g1 g3 c0
                have ef := ent_free EN.out
                have e0 := ent_cell EN.out 0 _ rfl
                have e1 := ent_cell EN.out 1 _ rfl
                have e2 := ent_cell EN.out 2 _ rfl
                have e3 := ent_cell EN.out 3 _ rfl
                have e4 := ent_cell EN.out 4 _ rfl
                have e5 := ent_cell EN.out 5 _ rfl
                have e6 := ent_cell EN.out 6 _ rfl
                have EN2 := Lib.hid (ent_set (ent_set (ent_set (ent_set (ent_set (ent_set (ent_set EN.out 0 (.int .i64 xk)) 1 (.int .i64 xp)) 2 (.string xs)) 3 (.int .i64 xi)) 4 (.slice q1 n1 b1)) 5 (.slice q2 n2 b2)) 6 (.slice q3 n3 b3))
                have HB5 := Lib.hid ((((((((HB4.out.setCell (p := ⟨w3.heap.size, 0, none⟩) (Nat.le_refl _) (.int .i64 xk)).setCell (p := ⟨w3.heap.size, 1, none⟩) (Nat.le_refl _) (.int .i64 xp)).setCell (p := ⟨w3.heap.size, 2, none⟩) (Nat.le_refl _) (.string xs)).setCell (p := ⟨w3.heap.size, 3, none⟩) (Nat.le_refl _) (.int .i64 xi)).setCell (p := ⟨w3.heap.size, 4, none⟩) (Nat.le_refl _) (.slice q1 n1 b1)).setCell (p := ⟨w3.heap.size, 5, none⟩) (Nat.le_refl _) (.slice q2 n2 b2)).setCell (p := ⟨w3.heap.size, 6, none⟩) (Nat.le_refl _) (.slice q3 n3 b3)))
                clear EN HB4
                go_wp2_with fail
                go_roundw
                case rel => exact ⟨k + 1, p + 4 + (Lib.itoa n).length, _, xk, xp, xi, xs, q1, n1, b1, q2, n2, b2, q3, n3, b3, by go_num, by omega, by go_num, by omega, hU1, EN2, HB5.out⟩
                case measure => simp [intOf]; omega
              · obtain rfl : k = M - 1 := by omega
                obtain ⟨c0, hn1, hn2⟩ := (HZ.out.below (HB3.out.trans (HB.out.mono HB3.out.size))) (M - 1) m (by rw [List.getElem?_append_right (by rw [HL.out]; exact Nat.le_refl _), HL.out, Nat.sub_self]; rfl)
                have hex := HEX.out
                have hd : zs.drop (M - 1) = [] := by rw [← HL.out, List.drop_length]
                rw [hd] at hex
                obtain ⟨f, rfl⟩ : ∃ g, f = g + 1 := by cases f with
                  | zero => exact hex.elim
                  | succ g => exact ⟨g, rfl⟩
                obtain ⟨nv, xv, av, he, _⟩ := hex
                simp only [Value.agg.injEq, Array.mk.injEq, List.cons.injEq, Value.int.injEq, true_and] at he
                obtain ⟨rfl, rfl, _, rfl, _⟩ := he
                clear hd
                have hsub : wrap64 ((M : Int) - 1) = ((M - 1 : Nat) : Int) := by unfold wrap64; omega
                have hu : Below w.heap.size w wr := HB3.out.trans (HB.out.mono HB3.out.size)
                have HU := Lib.hid hu; clear hu
                go_wp2_with fail
                go_ret
                exact ⟨rfl, HU.out⟩

set_option maxHeartbeats 1000000 in
set_option maxRecDepth 100000 in
theorem parseNumbers_none (w : World) (a : Option Addr) (cap : Nat) : Calls Tryd.prog 7 #[.slice a 0 cap] w fun e w' => e = .returned (.bool true) ∧ Below w.heap.size w w' := by
  go_enter Tryd.func7, Tryd.ntmps7
  go_wp2_with fail
  refine (livesP_any _).mono ?_
  rintro e w1 ⟨rfl, hb1⟩
  have HB1 := Lib.hid hb1; clear hb1
  go_wp2_with fail
  refine (livesP_any _).mono ?_
  rintro e w2 ⟨rfl, hb2⟩
  have HB2 := Lib.hid (HB1.out.trans (hb2.mono HB1.out.size)); clear hb2
  go_wp2_with fail
  go_ret
  exact ⟨rfl, HB2.out⟩

theorem parseNumbers_row (w : World) (a0 : Option Addr) (len0 cap0 : Nat) (z0 : List Int) (w0 : IsRow .i32 w a0 len0 cap0 z0) (hL : laidMetH Tryd.prog laidList w) :
    Calls Tryd.prog 7 #[.slice a0 len0 cap0] w fun e w' => e = .returned (.bool true) ∧ Below w.heap.size w w' := by
  by_cases h0 : len0 = 0
  · subst h0; exact parseNumbers_none w a0 cap0
  rcases w0 with ⟨rfl, h, _⟩ | ⟨x, rfl, h1, h2, h3, h4, h5⟩
  · exact absurd h h0
  obtain ⟨b, off, rfl, hbo⟩ := ints_at (zs := z0) (k := .i32) (w := w) (a := x) h4 (by omega)
  obtain ⟨k, rfl⟩ : ∃ k, len0 = k + 1 := ⟨len0 - 1, by omega⟩
  have hkz : k < z0.length := by omega
  have hlk : (z0.take k).length = k := by rw [List.length_take]; omega
  have := parseNumbers_text w b off cap0 (z0.take k) (z0[k]) (fun j n hj => by
    have hjk : j < k + 1 := by have := (List.getElem?_eq_some_iff.1 hj).1; simp only [List.length_append, hlk, List.length_singleton] at this; exact this
    have hn : z0[j]? = some n := by
      rw [← hj]
      by_cases e : j < k
      · rw [List.getElem?_append_left (by omega), List.getElem?_take, if_pos e]
      · obtain rfl : j = k := by omega
        rw [List.getElem?_append_right (by omega), hlk, Nat.sub_self, List.getElem?_eq_getElem hkz]; rfl
    have hjz := (List.getElem?_eq_some_iff.1 hn).1
    have hb := bounds_i32 (h5 n (List.mem_of_getElem? hn))
    refine ⟨?_, hb.1, hb.2⟩
    rw [hbo j hjz, List.getD_eq_getElem?_getD, hn]; rfl) (by omega) (by omega) (pow_table hL)
  rw [hlk] at this
  exact this
end Go.Proofs.YtbkhhdfhcbjfbaaDoor
