/-
 showing: a parsed program's text.
-/
import Derived.Test.YtpkecbijhckllaaDoorKPShProg
import Derived.Test.YtpkecbijhckllaaDoorKPWholeW
import Derived.Test.YtpkecbijhckllaaDoorKPShW
namespace Go.Proofs.YtpkecbijhckllaaDoor
open Go Go.RowKit
set_option linter.unusedVariables false
set_option linter.unusedSimpArgs false
set_option maxHeartbeats 4000000 in
set_option maxRecDepth 100000 in
theorem showing_any (v : Value) (q : Px.Prog) (w : World) (h : ProgAt 50 w v q) (hwhole : Px.WholeP q) (hlen : (Px.showProg 50 q).length ≤ 800000) (htab : Lib.TabIs Tryd.prog w "internal/strconv.uint64pow10" .u64 Lib.pow10Tab) :
 Calls Tryd.prog 10 #[v] w fun e w' => e = .returned (.string ⟨(Px.showProg 50 q).toArray⟩) ∧ Below w.heap.size w w' := by
 have HP := Lib.hid h
 obtain ⟨dv, fv, rfl, hds, hfs⟩ := h
 obtain ⟨q1, c1, rfl⟩ := hds.len
 obtain ⟨q2, c2, rfl⟩ := hfs.len
 have HF := Lib.hid hfs; have HTAB := Lib.hid htab; have HW := Lib.hid hwhole; have HLEN := Lib.hid hlen
 obtain ⟨ND, hND⟩ : ∃ ND, ND = q.datas.length := ⟨_, rfl⟩
 obtain ⟨NF, hNF⟩ : ∃ NF, NF = q.defs.length := ⟨_, rfl⟩
 rw [← hND, ← hNF] at HP ⊢
 have HNF := Lib.hid hNF
 have hnb2 : (NF : Int) ≤ 9223372036854775807 := by rw [hNF]; exact row_long hfs
 clear hds hfs htab hwhole hlen hND hNF
 have hb0 : Below w.heap.size w (w.alloc (.cells #[.slice q1 ND c1, .slice q2 NF c2] 27)) := (Below.refl _ _).alloc (Nat.le_refl _) _
 have EN := Lib.hid (ent_new w #[.slice q1 ND c1, .slice q2 NF c2] 27)
 have HB0 := Lib.hid hb0
 clear hb0
 go_enter Tryd.func10, Tryd.ntmps10
 go_wp2_with fail
 go_loopw [8] (fun i wr => ∃ k : Nat, i = .int .i64 k ∧ k ≤ NF ∧ Hid (wr.heap[w.heap.size]? = some (.cells #[.slice q1 ND c1, .slice q2 NF c2] 27 (0, 0))) ∧ Hid (Below w.heap.size w wr)) (fun i _ => NF - (intOf i).toNat)
 case atStart => exact ⟨0, rfl, Nat.zero_le _, EN, HB0⟩
 case round =>
  clear EN HB0
  obtain ⟨k, rfl, hk, EN, HB⟩ := hrel
  have hs := HB.out.size
  by_cases hlt : k < NF
  · obtain ⟨d, hd⟩ : ∃ d, q.defs[k]? = some d := ⟨_, List.getElem?_eq_getElem (by rw [← HNF.out]; exact hlt)⟩
    rcases HF.out with ⟨h, _⟩ | ⟨g, o, c', hv, h1, h2, h3⟩
    · have := HNF.out; rw [h] at this; simp at this; omega
    injection hv with hq _ hc
    subst hq; subst hc
    obtain ⟨u, ⟨nv, b0, b1, b2, b3, b4, b5, b6, rfl, hps, hex⟩, _, huc⟩ := h3 k d hd
    obtain ⟨pq, pc, rfl⟩ := hps.len
    obtain ⟨xk, xp, xi, xs, r1, n1, d1, r2, n2, d2, r3, n3, d3, he⟩ := exprAt_form 50 _ _ _ hex
    simp only [Value.agg.injEq, Array.mk.injEq, List.cons.injEq, and_true] at he
    obtain ⟨rfl, rfl, rfl, rfl, rfl, rfl, rfl⟩ := he
    have up : ∀ j z, w.cell? ⟨g, j, none⟩ = some z → wr.cell? ⟨g, j, none⟩ = some z := fun j z hz => (HB.out.cell (World.block_lt_of_cell? w _ hz)).trans hz
    have f0 := up _ _ (huc 0 _ rfl); have f1 := up _ _ (huc 1 _ rfl); have f2 := up _ _ (huc 2 _ rfl); have f3 := up _ _ (huc 3 _ rfl); have f4 := up _ _ (huc 4 _ rfl); have f5 := up _ _ (huc 5 _ rfl); have f6 := up _ _ (huc 6 _ rfl); have f7 := up _ _ (huc 7 _ rfl); have f8 := up _ _ (huc 8 _ rfl); have f9 := up _ _ (huc 9 _ rfl)
    rw [Nat.add_zero] at f0
    have hal : Below wr.heap.size wr (wr.alloc (.cells #[.int .i64 d.pos, .string ⟨d.name.toArray⟩, .slice pq d.params.length pc, .int .i64 xk, .int .i64 xp, .string xs, .int .i64 xi, .slice r1 n1 d1, .slice r2 n2 d2, .slice r3 n3 d3] 46)) := (Below.refl _ _).alloc (Nat.le_refl _) _
    have EN2 := Lib.hid (ent_below EN.out hal)
    have HB2 := Lib.hid (HB.out.trans (hal.mono hs))
    have HC := Lib.hid (whole_any 50 _ _ _ (exprAt_below hex HB2.out) (HW.out d (List.mem_of_getElem? hd)))
    clear h3 hd huc up hex hps hal
    go_wp2_with fail
    refine HC.out.mono ?_
    rintro e w2 ⟨rfl, hb2⟩
    have EN3 := Lib.hid (ent_below EN2.out hb2)
    have HB3 := Lib.hid (HB2.out.trans (hb2.mono HB2.out.size))
    clear hb2 HC f0 f1 f2 f3 f4 f5 f6 f7 f8 f9
    go_wp2_with fail
    go_roundw
    case rel => exact ⟨k + 1, by go_num, by omega, EN3, HB3⟩
    case measure => simp [intOf]; omega
  · obtain rfl : NF = k := by omega
    have e0 := ent_cell EN.out 0 _ rfl
    have e1 := ent_cell EN.out 1 _ rfl
    have hpa : ProgAt 50 wr (.agg #[.slice q1 ND c1, .slice q2 NF c2]) q := by
     obtain ⟨dv, fv, he, hds, hfs⟩ := HP.out
     refine ⟨dv, fv, he, hds.mono HB.out (fun u x _ hu => ?_), hfs.mono HB.out (fun u x _ hu => ?_)⟩
     · obtain ⟨nv, cv, rfl, h1, h2⟩ := hu
       exact ⟨nv, cv, rfl, strRow_below h1 HB.out, h2.mono HB.out (fun u x _ hu => conAt_below hu HB.out)⟩
     · obtain ⟨nv, b0, b1, b2, b3, b4, b5, b6, rfl, h1, h2⟩ := hu
       exact ⟨nv, b0, b1, b2, b3, b4, b5, b6, rfl, strRow_below h1 HB.out, exprAt_below h2 HB.out⟩
    have HSP := Lib.hid (showProg_any 50 _ q wr hpa (fun d hd => (HW.out d hd).good) HLEN.out ((Lib.tabBelow_of_tabIs HTAB.out) _ HB.out))
    clear hpa
    go_wp2_with fail
    refine HSP.out.mono ?_
    rintro e w2 ⟨rfl, hb2⟩
    have HB3 := Lib.hid (HB.out.trans (hb2.mono HB.out.size))
    clear hb2 HSP
    go_wp2_with fail
    go_ret
    exact ⟨rfl, HB3.out⟩
end Go.Proofs.YtpkecbijhckllaaDoor
