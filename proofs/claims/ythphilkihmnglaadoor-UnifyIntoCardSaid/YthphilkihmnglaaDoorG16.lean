/-
  UnifyInto: its walk.
-/
import Derived.Test.YthphilkihmnglaaDoorG14
namespace Go.Proofs.YthphilkihmnglaaDoor
open Go Go.RowKit
set_option linter.unusedVariables false
set_option linter.unusedSimpArgs false
namespace Ux
def shW (n : Nat) : Ty := .v (n + 50)
theorem sh_out {v : Ty} (h : ∀ n ∈ v.vs, n < 6) {l : List Nat} (hl : ∀ n ∈ l, n ∈ varsT v) : ∀ n ∈ l, ∀ m ∈ (shW n).vs, m ∉ l := fun n hn m hm h2 => by
 unfold shW at hm; rw [vs_v] at hm; simp at hm; subst hm
 have := h _ ((varsT_mem v _).1 (hl _ h2)); omega
theorem sh_app {v : Ty} (h : ∀ n ∈ v.vs, n < 6) : putAll shW (varsT v) v = v.app shW := by
 rw [putAll_app _ _ (varsT_nodup v) (sh_out h fun n hn => hn)]
 exact app_congr v fun n hn => by rw [if_pos ((varsT_mem v n).2 hn)]
theorem sh_vs {v : Ty} (h : ∀ n ∈ v.vs, n < 6) : ∀ m ∈ (v.app shW).vs, 50 ≤ m ∧ m < 56 := by
 intro m hm
 obtain ⟨n, hn, hm⟩ := (vs_app _ m v).1 hm
 unfold shW at hm; rw [vs_v] at hm; simp at hm
 have := h n hn; omega
theorem sh_sz (v : Ty) : (v.app shW).sz = v.sz := sz_ren (fun n => n + 50) v
theorem sh_plain {v : Ty} (h : Plain v) : Plain (v.app shW) := plain_app h fun n _ => plain_v _
def inW (vl : List Nat) (v : Ty) (n : Nat) : Ty := if vl.idxOf n % 2 = 1 then liInt else v
theorem inW_vs {vl : List Nat} {v : Ty} {n m : Nat} (h : m ∈ (inW vl v n).vs) : m ∈ v.vs := by
 unfold inW at h
 split at h
 · unfold liInt at h; rw [vs_a] at h; simp at h
 · exact h
theorem inW_plain {vl : List Nat} {v : Ty} (h : Plain v) (n : Nat) : Plain (inW vl v n) := by
 unfold inW
 split
 · exact plain_a ⟨by decide, by decide⟩ fun x hx => by cases hx
 · exact h
theorem inW_sz {vl : List Nat} {v : Ty} (n : Nat) : (inW vl v n).sz ≤ v.sz := by
 unfold inW
 split
 · unfold liInt; rw [sz_a]; have := sz_pos v; simpa using this
 · exact Nat.le_refl _
theorem in_out {t v : Ty} (h : ∀ n ∈ t.vs, n < 6) (hv : ∀ m ∈ v.vs, 50 ≤ m) (vl l : List Nat) (hl : ∀ n ∈ l, n ∈ varsT t) : ∀ n ∈ l, ∀ m ∈ (inW vl v n).vs, m ∉ l := fun n hn m hm h2 => by
 have h3 := hv m (inW_vs hm)
 have := h _ ((varsT_mem t _).1 (hl _ h2)); omega
theorem in_app {t v : Ty} (h : ∀ n ∈ t.vs, n < 6) (hv : ∀ m ∈ v.vs, 50 ≤ m) (vl : List Nat) : putAll (inW vl v) (varsT t) t = t.app (inW vl v) := by
 rw [putAll_app _ _ (varsT_nodup t) (in_out h hv vl _ fun n hn => hn)]
 exact app_congr t fun n hn => by rw [if_pos ((varsT_mem t n).2 hn)]
theorem in_vs {t v : Ty} {vl : List Nat} : ∀ m ∈ (t.app (inW vl v)).vs, m ∈ v.vs := by
 intro m hm
 obtain ⟨n, hn, hm⟩ := (vs_app _ m t).1 hm
 exact inW_vs hm
end Ux
theorem Hang.all {α : Type} {rep : World → Value → α → Prop} {base lo hi B : Nat} {w : World} {v : Value} {x : α} (h : Hang rep base lo hi w v x) (hb : base ≤ B) (hh : hi ≤ B) : Hang rep B 0 0 w v x := fun u hu => h u fun b hb' => hu b (.inl (by omega))
theorem tyP_nil {w : World} {v : Value} {nm : List UInt8} (h : TyP w v (.a nm [])) (u : World) : TyP u v (.a nm []) := by
 obtain ⟨k, av, h1, h2, h3, _⟩ := tyP_a.1 h
 obtain ⟨p, c, rfl⟩ := h3.len
 exact tyP_a.2 ⟨k, _, h1, h2, .inl ⟨rfl, p, c, rfl⟩, fun g o m c hv hm => by injection hv with _ hv _; simp at hv; omega⟩
set_option maxHeartbeats 4000000 in
set_option maxRecDepth 100000 in
theorem unifyInto_walk (v : Value) (l : List Ux.Nod) (v2 : Value) (l2 : List Ux.Nod) (w : World) (hl : RowAt 3 NodV w v l) (hl2 : RowAt 3 NodV w v2 l2) (htab : Lib.TabIs Tryd.prog w "internal/strconv.uint64pow10" .u64 Lib.pow10Tab) :
 Calls Tryd.prog 8 #[v, v2] w (fun e w' => e = .returned (.bool true) ∧ Below w.heap.size w w') := by
 have HTB := Lib.hid (fun (w' : World) (hb : Below w.heap.size w w') => (Lib.tabBelow_of_tabIs htab) w' hb)
 have HLV := Lib.hid (fun (w' : World) (hb : Below w.heap.size w w') => lives_any w' ((Lib.tabBelow_of_tabIs htab) w' hb))
 clear htab
 obtain ⟨lq, lc, rfl⟩ := hl.len
 obtain ⟨lq2, lc3, rfl⟩ := hl2.len
 obtain ⟨n0, hn0⟩ : ∃ n0, n0 = l.length := ⟨_, rfl⟩
 obtain ⟨n2, hn2⟩ : ∃ n2, n2 = l2.length := ⟨_, rfl⟩
 rw [← hn0] at hl ⊢
 rw [← hn2] at hl2 ⊢
 have HN0 := Lib.hid hn0; have HN2 := Lib.hid hn2
 have HL := Lib.hid hl; have HL2 := Lib.hid hl2
 clear hl hn0 hl2 hn2
 go_enter Tryd.func8, Tryd.ntmps8
 go_wp2_with fail
 refine (HLV.out w (Below.refl _ _)).mono ?_
 rintro e w1 ⟨rfl, hb1⟩
 have HB1 := Lib.hid hb1
 clear hb1
 by_cases hbig : 7 < n0
 · have d1 : decide ((7 : Int) < (n0 : Int)) = true := by simp; omega
   go_wp2_with fail
   refine (HLV.out w1 HB1.out).mono ?_
   rintro e w2 ⟨rfl, hb2⟩
   have HB2 := Lib.hid (HB1.out.trans (hb2.mono HB1.out.size))
   clear hb2
   go_wp2_with fail
   go_ret
   exact ⟨rfl, HB2.out⟩
 have d1 : decide ((7 : Int) < (n0 : Int)) = false := by simp; omega
 by_cases hbig2 : 7 < n2
 · have d2 : decide ((7 : Int) < (n2 : Int)) = true := by simp; omega
   go_wp2_with fail
   refine (HLV.out w1 HB1.out).mono ?_
   rintro e w2 ⟨rfl, hb2⟩
   have HB2 := Lib.hid (HB1.out.trans (hb2.mono HB1.out.size))
   clear hb2
   go_wp2_with fail
   go_ret
   exact ⟨rfl, HB2.out⟩
 have d2 : decide ((7 : Int) < (n2 : Int)) = false := by simp; omega
 go_wp2_with fail
 clear d1 d2
 refine (typ13 l _ w1 (HL.out.mono HB1.out fun u x _ h => h) (by have := HN0.out; omega)).mono ?_
 rintro e w2 ⟨tv, rfl, hnew, hb2⟩
 have HB2 := Lib.hid (HB1.out.trans (hb2.mono HB1.out.size))
 have HTY := Lib.hid (Ux.typN_vs 13 l)
 have HOKT := Lib.hid (typN_ok 13 (l := l) (by have := HN0.out; omega))
 have HSZT := Lib.hid (show (Ux.typN 13 l).1.sz ≤ 15 by have h1 := Ux.typN_sz 13 l; have h2 := Ux.typN_le 13 l; have := HN0.out; omega)
 obtain ⟨t, ht⟩ : ∃ t, t = (Ux.typN 13 l).1 := ⟨_, rfl⟩
 rw [← ht] at hnew HTY HOKT HSZT
 obtain ⟨i5, s5, q5, m5, c5, rfl⟩ := tyP_sh hnew.now
 have HT2 := Lib.hid (show Hang TyP 0 w1.heap.size w2.heap.size w2 (.agg #[.int .i64 i5, .string s5, .slice q5 m5 c5]) t from fun u hu => hnew u fun b h1 h2 => hu b (.inr ⟨h1, h2⟩))
 clear ht hnew hb2 hbig
 go_wp2_with fail
 have E5 := Lib.hid (ent_new w2 #[.int .i64 i5, .string s5, .slice q5 m5 c5] 30)
 have hba : Below w2.heap.size w2 (w2.alloc (.cells #[.int .i64 i5, .string s5, .slice q5 m5 c5] 30)) := (Below.refl _ _).alloc (Nat.le_refl _) _
 have HBa := Lib.hid (HB2.out.trans (hba.mono HB2.out.size))
 have HTa := Lib.hid ((HT2.out.same (w' := w2.alloc (.cells #[.int .i64 i5, .string s5, .slice q5 m5 c5] 30)) fun b hb => hba.block b (by omega)).all (B := w2.heap.size) (Nat.zero_le _) (Nat.le_refl _))
 have hsza : (w2.alloc (.cells #[.int .i64 i5, .string s5, .slice q5 m5 c5] 30)).heap.size = w2.heap.size + 1 := by simp
 obtain ⟨P5, hP5⟩ : ∃ P, P = w2.heap.size := ⟨_, rfl⟩
 rw [← hP5] at E5 HTa hsza ⊢
 have HP5 := Lib.hid (show w.heap.size ≤ P5 by rw [hP5]; exact HB2.out.size)
 generalize w2.alloc (.cells #[.int .i64 i5, .string s5, .slice q5 m5 c5] 30) = wa at E5 HBa HTa hsza ⊢
 have HZa := Lib.hid hsza
 clear hba hsza hP5 HT2 HB2
 refine (typ13 l2 _ wa (HL2.out.mono HBa.out fun u x _ h => h) (by have := HN2.out; omega)).mono ?_
 rintro e w3 ⟨tv, rfl, hnew, hb3⟩
 have HB3 := Lib.hid (HBa.out.trans (hb3.mono HBa.out.size))
 have HTYV := Lib.hid (Ux.typN_vs 13 l2)
 have HOKV := Lib.hid (typN_ok 13 (l := l2) (by have := HN2.out; omega))
 have HSZV := Lib.hid (show (Ux.typN 13 l2).1.sz ≤ 15 by have h1 := Ux.typN_sz 13 l2; have h2 := Ux.typN_le 13 l2; have := HN2.out; omega)
 obtain ⟨tw, htw⟩ : ∃ t, t = (Ux.typN 13 l2).1 := ⟨_, rfl⟩
 rw [← htw] at hnew HTYV HOKV HSZV
 obtain ⟨i7, s7, q7, m7, c7, rfl⟩ := tyP_sh hnew.now
 have HV3 := Lib.hid (show Hang TyP 0 wa.heap.size w3.heap.size w3 (.agg #[.int .i64 i7, .string s7, .slice q7 m7 c7]) tw from fun u hu => hnew u fun b h1 h2 => hu b (.inr ⟨h1, h2⟩))
 have HT3 := Lib.hid (HTa.out.same (w' := w3) fun b hb => hb3.block b (by have := HZa.out; omega))
 have E53 := Lib.hid (ent_below E5.out hb3)
 have HP53 := Lib.hid (show P5 < w3.heap.size by have := hb3.size; have := HZa.out; omega)
 clear htw hnew hb3 hbig2 E5 HTa HBa HZa
 go_upto_region 5 with fail
 have E7 := Lib.hid (ent_new w3 #[.int .i64 i7, .string s7, .slice q7 m7 c7] 30)
 have hbb : Below w3.heap.size w3 (w3.alloc (.cells #[.int .i64 i7, .string s7, .slice q7 m7 c7] 30)) := (Below.refl _ _).alloc (Nat.le_refl _) _
 obtain ⟨P7, hP7⟩ : ∃ P, P = w3.heap.size := ⟨_, rfl⟩
 have HB4 := Lib.hid (HB3.out.trans (hbb.mono HB3.out.size))
 have HBL := Lib.hid (show ∀ b, b < P7 → (w3.alloc (.cells #[.int .i64 i7, .string s7, .slice q7 m7 c7] 30)).heap[b]? = w3.heap[b]? from fun b hb => hbb.block b (by omega))
 have HV4 := Lib.hid ((HV3.out.same (w' := w3.alloc (.cells #[.int .i64 i7, .string s7, .slice q7 m7 c7] 30)) fun b hb => hbb.block b (by omega)).all (B := P7) (Nat.zero_le _) (by omega))
 have HZ4 := Lib.hid (show (w3.alloc (.cells #[.int .i64 i7, .string s7, .slice q7 m7 c7] 30)).heap.size = P7 + 1 by simp [hP7])
 rw [← hP7] at E7 HP53 ⊢
 have HP7 := Lib.hid (show w.heap.size ≤ P7 by have := HP5.out; have := HP53.out; omega)
 generalize w3.alloc (.cells #[.int .i64 i7, .string s7, .slice q7 m7 c7] 30) = w4 at E7 HB4 HBL HV4 HZ4 ⊢
 clear hbb hP7 HV3 HB3
 have t0 := ent_cell E7.out 0 _ rfl
 have t1 := ent_cell E7.out 1 _ rfl
 have t2 := ent_cell E7.out 2 _ rfl
 go_wp2_with fail
 refine (refVars_any tw _ (.slice none 0 0) [] P7 (P7 + 1) w4 (by rw [HZ4.out]; omega) (by rw [HZ4.out]; exact Nat.le_refl _) HV4.out.now (fun u _ => .inl ⟨rfl, _, _, rfl⟩) (by have := HSZV.out; simp; omega)).mono ?_
 rintro e w5 ⟨rv, rfl, hb5, hh5⟩
 have hvt : Ux.firsts [] tw.vs = Ux.varsT tw := rfl
 rw [hvt] at hh5
 obtain ⟨vl, hvl⟩ : ∃ vl, vl = Ux.varsT tw := ⟨_, rfl⟩
 rw [← hvl] at hh5
 have HVL := Lib.hid hvl
 have hvln : vl.length ≤ 15 := by
  have h1 := firsts_len tw.vs []
  have h2 := vs_len tw
  have h3 := HSZV.out
  rw [hvl]; unfold Ux.varsT; simp at h1; omega
 obtain ⟨lp, lc2, rfl⟩ := hh5.now.len
 obtain ⟨n1, hn1⟩ : ∃ n1, n1 = vl.length := ⟨_, rfl⟩
 rw [← hn1] at hh5 hvln ⊢
 have HN1 := Lib.hid hn1
 obtain ⟨N2, hN2⟩ : ∃ N2, N2 = w5.heap.size := ⟨_, rfl⟩
 rw [← hN2] at hh5
 have HNL := Lib.hid hh5
 have HZ5 := Lib.hid (show P7 + 1 ≤ w5.heap.size ∧ N2 ≤ w5.heap.size from ⟨by rw [← HZ4.out]; exact hb5.size, by omega⟩)
 have E75 := Lib.hid (ent_below E7.out hb5)
 have HBL5 := Lib.hid (show ∀ b, b < P7 → w5.heap[b]? = w3.heap[b]? from fun b hb => (hb5.block b (by rw [HZ4.out]; omega)).trans (HBL.out b hb))
 have HB5 := Lib.hid (HB4.out.trans (hb5.mono HB4.out.size))
 have HV5 := Lib.hid ((HV4.out.same (w' := w5) fun b hb => hb5.block b (by rw [HZ4.out]; omega)).more (P7 + 1) (P7 + 1))
 have HLO5 := Lib.hid (show P7 + 1 ≤ P7 + 1 ∧ P7 + 1 ≤ w5.heap.size from ⟨Nat.le_refl _, HZ5.out.1⟩)
 clear hb5 hh5 hvl hn1 hN2 hvt E7 HBL HB4 HV4 HZ4 t0 t1 t2
 go_wp2_with fail
 go_loopw [42] (fun i wr => ∃ (j : Nat) (i7 : Int) (s7 : ByteArray) (q7 : Option Addr) (m7 c7 lo hi : Nat), i = .int .i64 j ∧ j ≤ n1 ∧ Hid (wr.heap[P7]? = some (.cells #[.int .i64 i7, .string s7, .slice q7 m7 c7] 30 (0, 0))) ∧ Hid (∀ b, b < P7 → wr.heap[b]? = w3.heap[b]?) ∧
  Hid (Hang TyP P7 lo hi wr (.agg #[.int .i64 i7, .string s7, .slice q7 m7 c7]) (Ux.putAll Ux.shW (vl.take j) tw)) ∧ Hid (P7 + 1 ≤ lo ∧ hi ≤ wr.heap.size) ∧ Hid (P7 + 1 ≤ wr.heap.size ∧ N2 ≤ wr.heap.size) ∧ Hid (Hang NumsR P7 (P7 + 1) N2 wr (.slice lp n1 lc2) vl) ∧ Hid (Below w.heap.size w wr)) (fun i _ => n1 - (intOf i).toNat)
 case atStart => exact ⟨0, i7, s7, q7, m7, c7, _, _, rfl, Nat.zero_le _, E75, HBL5, HV5, HLO5, HZ5, HNL, HB5⟩
 case round =>
  clear E75 HBL5 HV5 HLO5 HZ5 HNL HB5
  obtain ⟨j, i7, s7, q7, m7, c7, lo, hi, rfl, hj, E7, HBL, HV, HLO, HZ, HNL, HB⟩ := hrel
  by_cases hlt : j < n1
  · obtain ⟨x, hx⟩ : ∃ x, vl[j]? = some x := ⟨_, List.getElem?_eq_getElem (by have := HN1.out; omega)⟩
    obtain ⟨g, of, lc', hlv, hlc, hlc2⟩ := nums_some HNL.out.now (by intro e; rw [e] at hx; cases hx)
    injection hlv with e1 ex e2
    clear ex
    subst e1; subst e2
    rw [← HN1.out] at hlc
    have x0 := nums_cell HNL.out.now hx
    have hx6 : x < 6 := HTYV.out x ((Ux.varsT_mem tw x).1 (by rw [← HVL.out]; exact List.mem_of_getElem? hx))
    have HTK : Hid (vl.take (j + 1) = vl.take j ++ [x]) := Lib.hid (by rw [List.take_add_one, hx]; rfl)
    have HSZ : Hid ((Ux.putAll Ux.shW (vl.take j) tw).sz ≤ 1000000000) := Lib.hid (by
     have h := Ux.putAll_sz (w := Ux.shW) (c := 1) (Nat.le_refl _) (fun n => by unfold Ux.shW; rw [Ux.Ty.sz]; exact Nat.le_refl _) (l := vl.take j) (t := tw) (Ux.take_nodup (by rw [HVL.out]; exact Ux.varsT_nodup tw) j) (Ux.sh_out HTYV.out fun n hn => by rw [← HVL.out]; exact List.mem_of_mem_take hn)
     have := HSZV.out; omega)
    have HWR : Hid (IntKind.i64.wrap ((x : Int) + 50) = (x : Int) + 50) := Lib.hid (by simp [IntKind.wrap, IntKind.bits, IntKind.signed]; omega)
    have hj1 : (j : Int) < (n1 : Int) := by omega
    have hj2 : (n1 : Int) ≤ (lc2 : Int) := by omega
    have hj3 : (j : Int) ≤ 61 := by omega
    clear hx hx6
    go_upto_region 8 with fail
    clear x0
    refine wp_region_held_drew (S := fun (u : World) => wr.heap.size ≤ u.heap.size ∧ ∀ b, b ≠ P7 → b < wr.heap.size → u.heap[b]? = wr.heap[b]?) (by kernel_rfl) ⟨Nat.le_refl _, fun _ _ _ => rfl⟩ (fun hHeld => ?_)
    have EC := Lib.hid (show wr.drew.heap[P7]? = some (.cells #[.int .i64 i7, .string s7, .slice q7 m7 c7] 30 (0, 0)) from E7.out)
    have HBC := Lib.hid (show Below w.heap.size w wr.drew from HB.out.drew)
    have HTC := Lib.hid (show TyP wr.drew (.agg #[.int .i64 i7, .string s7, .slice q7 m7 c7]) _ from HV.out wr.drew fun b hb => rfl)
    have HSC : Hid (wr.heap.size ≤ wr.drew.heap.size ∧ ∀ b, b ≠ P7 → b < wr.heap.size → wr.drew.heap[b]? = wr.heap[b]?) := Lib.hid ⟨Nat.le_refl _, fun _ _ _ => rfl⟩
    generalize wr.drew = wc at EC HBC HTC HSC hHeld ⊢
    refine wpAnyH_take (i := 1) (v := .int .i64 (x : Int)) rfl (by kernel_rfl) (by kernel_rfl) (by kernel_rfl) (fun _ _ _ h => h) (Or.inl ⟨by rfl, fun w' hSw => by go_simp⟩) hHeld ?_
    refine wpAnyH_take (i := 2) (v := .int .i64 (x : Int)) rfl (by kernel_rfl) (by kernel_rfl) (by kernel_rfl) (fun _ _ _ h => h) (Or.inl ⟨by rfl, fun w' hSw => by go_simp⟩) hHeld ?_
    refine wpAnyH_take (i := 3) (v := .int .i64 ((x : Int) + 50)) rfl (by kernel_rfl) (by kernel_rfl) (by kernel_rfl) (fun _ _ _ h => h) (Or.inl ⟨by rfl, fun w' hSw => by have h1 := HWR.out; go_simp⟩) hHeld ?_
    try simp only [Act.put, List.getElem_toArray, List.getElem_cons_succ, List.getElem_cons_zero, List.setIfInBounds_toArray, List.set_cons_zero, List.set_cons_succ]
    refine wpAnyH_ready (rs := [0, 4]) (by kernel_rfl) (by simp) ?_
    refine AllReadyH.cons rfl (fun K hK => ?_) (AllReadyH.cons rfl (fun K hK => ?_) AllReadyH.nil)
    · have t0 := ent_cell EC.out 0 _ rfl
      have t1 := ent_cell EC.out 1 _ rfl
      have t2 := ent_cell EC.out 2 _ rfl
      go_simp
      refine hK.out _ _ HSC.out (fun hHeld => ?_)
      clear t0 t1 t2 hK K
      refine wpAnyH_ready (rs := [4]) (by kernel_rfl) (by simp) ?_
      refine AllReadyH.cons rfl (fun K hK => ?_) AllReadyH.nil
      go_simp
      refine (var_any ((x : Int) + 50) wc).mono ?_
      rintro e we ⟨rfl, hbv⟩
      have ECv := Lib.hid (ent_below EC.out hbv)
      have HBv := Lib.hid (HBC.out.trans (hbv.mono HBC.out.size))
      have HTv := Lib.hid (tyP_below HTC.out hbv)
      have HSv : Hid (wr.heap.size ≤ we.heap.size ∧ ∀ b, b ≠ P7 → b < wr.heap.size → we.heap[b]? = wr.heap[b]?) := Lib.hid ⟨Nat.le_trans HSC.out.1 hbv.size, fun b h1 h2 => (hbv.block b (by have := HSC.out.1; omega)).trans (HSC.out.2 b h1 h2)⟩
      clear hbv
      refine hK.out _ _ HSv.out (fun hHeld => ?_)
      clear hK K EC HBC HTC HSC
      have EC := ECv; have HBC := HBv; have HTC := HTv; have HSC := HSv
      clear ECv HBv HTv HSv
      refine wpAnyH_ready (rs := [5]) (by kernel_rfl) (by simp) ?_
      refine AllReadyH.cons rfl (fun K hK => ?_) AllReadyH.nil
      go_simp
      refine (put_any _ _ _ (.v (x + 50)) x P7 we (by have := HSC.out.1; have := HZ.out; omega) HTC.out (fun u _ => tyP_v.2 ⟨_, _, _, _, by rw [show ((x + 50 : Nat) : Int) = (x : Int) + 50 by omega]⟩) HSZ.out).mono ?_
      rintro e w5 ⟨rv, rfl, hb5, hh5⟩
      obtain ⟨d0, d1, rq, rn, rc, rfl⟩ := tyP_sh hh5.now
      have E75 := Lib.hid (ent_below EC.out hb5)
      have HB5 := Lib.hid (HBC.out.trans (hb5.mono HBC.out.size))
      have HH5 := Lib.hid hh5
      have HS5 : Hid (wr.heap.size ≤ w5.heap.size ∧ ∀ b, b ≠ P7 → b < wr.heap.size → w5.heap[b]? = wr.heap[b]?) := Lib.hid ⟨Nat.le_trans HSC.out.1 hb5.size, fun b h1 h2 => (hb5.block b (by have := HSC.out.1; omega)).trans (HSC.out.2 b h1 h2)⟩
      have HC5 := Lib.hid (show wr.heap.size ≤ we.heap.size ∧ we.heap.size ≤ w5.heap.size from ⟨HSC.out.1, hb5.size⟩)
      clear hb5 hh5
      refine hK.out _ _ HS5.out (fun hHeld => ?_)
      clear hK K
      refine wpAnyH_ready (rs := [6]) (by kernel_rfl) (by simp) ?_
      refine AllReadyH.cons rfl (fun K hK => ?_) AllReadyH.nil
      have t0 := ent_cell E75.out 0 _ rfl
      have t1 := ent_cell E75.out 1 _ rfl
      have t2 := ent_cell E75.out 2 _ rfl
      have tf := ent_free E75.out
      go_simp
      clear t0 t1 t2 tf
      have HK7 : Hid (∀ b, b ≠ P7 → (((w5.setCell ⟨P7, 0, none⟩ (.int .i64 d0)).setCell ⟨P7, 1, none⟩ (.string d1)).setCell ⟨P7, 2, none⟩ (.slice rq rn rc)).heap[b]? = w5.heap[b]?) := Lib.hid (fun b hb => ((Below.heap_setCell _ ⟨P7, 2, none⟩ _ b hb).trans (Below.heap_setCell _ ⟨P7, 1, none⟩ _ b hb)).trans (Below.heap_setCell _ ⟨P7, 0, none⟩ _ b hb))
      have HZ7 : Hid ((((w5.setCell ⟨P7, 0, none⟩ (.int .i64 d0)).setCell ⟨P7, 1, none⟩ (.string d1)).setCell ⟨P7, 2, none⟩ (.slice rq rn rc)).heap.size = w5.heap.size) := Lib.hid (by simp)
      have E77 := Lib.hid (ent_set3 E75.out (.int .i64 d0) (.string d1) (.slice rq rn rc))
      have HB7 := Lib.hid (below_set3 HB5.out P7 HP7.out (.int .i64 d0) (.string d1) (.slice rq rn rc))
      refine hK.out _ _ ⟨by rw [HZ7.out]; exact HS5.out.1, fun b h1 h2 => (HK7.out b h1).trans (HS5.out.2 b h1 h2)⟩ (fun hHeld => ?_)
      clear hK K
      refine wpAnyH_done (by kernel_rfl) ?_ _
      generalize (((w5.setCell ⟨P7, 0, none⟩ (.int .i64 d0)).setCell ⟨P7, 1, none⟩ (.string d1)).setCell ⟨P7, 2, none⟩ (.slice rq rn rc)) = w7 at *
      have HL7 := Lib.hid (show ∀ b, b < P7 → w7.heap[b]? = w3.heap[b]? from fun b hb => (HK7.out b (by omega)).trans ((HS5.out.2 b (by omega) (by have := HZ.out; omega)).trans (HBL.out b hb)))
      have HV7 := Lib.hid (HH5.out.same (w' := w7) fun b hb => HK7.out b (by have := HC5.out; have := HZ.out; omega))
      have HN7 := Lib.hid (HNL.out.same (w' := w7) fun b hb => (HK7.out b (by omega)).trans (HS5.out.2 b (by omega) (by have := HZ.out; omega)))
      go_wp2_with fail
      go_roundw
      case rel => exact ⟨j + 1, d0, d1, rq, rn, rc, we.heap.size, w5.heap.size, by go_num, by omega, E77, HL7, Lib.hid (by rw [HTK.out, Ux.putAll_snoc]; exact HV7.out), Lib.hid ⟨by have := HC5.out; have := HZ.out; omega, by rw [HZ7.out]; exact Nat.le_refl _⟩, Lib.hid (by have := HC5.out; have := HZ.out; rw [HZ7.out]; omega), HN7, HB7⟩
      case measure => simp [intOf]; omega
    · go_simp
      refine (var_any ((x : Int) + 50) wc).mono ?_
      rintro e we ⟨rfl, hbv⟩
      have ECv := Lib.hid (ent_below EC.out hbv)
      have HBv := Lib.hid (HBC.out.trans (hbv.mono HBC.out.size))
      have HTv := Lib.hid (tyP_below HTC.out hbv)
      have HSv : Hid (wr.heap.size ≤ we.heap.size ∧ ∀ b, b ≠ P7 → b < wr.heap.size → we.heap[b]? = wr.heap[b]?) := Lib.hid ⟨Nat.le_trans HSC.out.1 hbv.size, fun b h1 h2 => (hbv.block b (by have := HSC.out.1; omega)).trans (HSC.out.2 b h1 h2)⟩
      clear hbv
      refine hK.out _ _ HSv.out (fun hHeld => ?_)
      clear hK K EC HBC HTC HSC
      have EC := ECv; have HBC := HBv; have HTC := HTv; have HSC := HSv
      clear ECv HBv HTv HSv
      refine wpAnyH_ready (rs := [0]) (by kernel_rfl) (by simp) ?_
      refine AllReadyH.cons rfl (fun K hK => ?_) AllReadyH.nil
      have t0 := ent_cell EC.out 0 _ rfl
      have t1 := ent_cell EC.out 1 _ rfl
      have t2 := ent_cell EC.out 2 _ rfl
      go_simp
      refine hK.out _ _ HSC.out (fun hHeld => ?_)
      clear t0 t1 t2 hK K
      refine wpAnyH_ready (rs := [5]) (by kernel_rfl) (by simp) ?_
      refine AllReadyH.cons rfl (fun K hK => ?_) AllReadyH.nil
      go_simp
      refine (put_any _ _ _ (.v (x + 50)) x P7 we (by have := HSC.out.1; have := HZ.out; omega) HTC.out (fun u _ => tyP_v.2 ⟨_, _, _, _, by rw [show ((x + 50 : Nat) : Int) = (x : Int) + 50 by omega]⟩) HSZ.out).mono ?_
      rintro e w5 ⟨rv, rfl, hb5, hh5⟩
      obtain ⟨d0, d1, rq, rn, rc, rfl⟩ := tyP_sh hh5.now
      have E75 := Lib.hid (ent_below EC.out hb5)
      have HB5 := Lib.hid (HBC.out.trans (hb5.mono HBC.out.size))
      have HH5 := Lib.hid hh5
      have HS5 : Hid (wr.heap.size ≤ w5.heap.size ∧ ∀ b, b ≠ P7 → b < wr.heap.size → w5.heap[b]? = wr.heap[b]?) := Lib.hid ⟨Nat.le_trans HSC.out.1 hb5.size, fun b h1 h2 => (hb5.block b (by have := HSC.out.1; omega)).trans (HSC.out.2 b h1 h2)⟩
      have HC5 := Lib.hid (show wr.heap.size ≤ we.heap.size ∧ we.heap.size ≤ w5.heap.size from ⟨HSC.out.1, hb5.size⟩)
      clear hb5 hh5
      refine hK.out _ _ HS5.out (fun hHeld => ?_)
      clear hK K
      refine wpAnyH_ready (rs := [6]) (by kernel_rfl) (by simp) ?_
      refine AllReadyH.cons rfl (fun K hK => ?_) AllReadyH.nil
      have t0 := ent_cell E75.out 0 _ rfl
      have t1 := ent_cell E75.out 1 _ rfl
      have t2 := ent_cell E75.out 2 _ rfl
      have tf := ent_free E75.out
      go_simp
      clear t0 t1 t2 tf
      have HK7 : Hid (∀ b, b ≠ P7 → (((w5.setCell ⟨P7, 0, none⟩ (.int .i64 d0)).setCell ⟨P7, 1, none⟩ (.string d1)).setCell ⟨P7, 2, none⟩ (.slice rq rn rc)).heap[b]? = w5.heap[b]?) := Lib.hid (fun b hb => ((Below.heap_setCell _ ⟨P7, 2, none⟩ _ b hb).trans (Below.heap_setCell _ ⟨P7, 1, none⟩ _ b hb)).trans (Below.heap_setCell _ ⟨P7, 0, none⟩ _ b hb))
      have HZ7 : Hid ((((w5.setCell ⟨P7, 0, none⟩ (.int .i64 d0)).setCell ⟨P7, 1, none⟩ (.string d1)).setCell ⟨P7, 2, none⟩ (.slice rq rn rc)).heap.size = w5.heap.size) := Lib.hid (by simp)
      have E77 := Lib.hid (ent_set3 E75.out (.int .i64 d0) (.string d1) (.slice rq rn rc))
      have HB7 := Lib.hid (below_set3 HB5.out P7 HP7.out (.int .i64 d0) (.string d1) (.slice rq rn rc))
      refine hK.out _ _ ⟨by rw [HZ7.out]; exact HS5.out.1, fun b h1 h2 => (HK7.out b h1).trans (HS5.out.2 b h1 h2)⟩ (fun hHeld => ?_)
      clear hK K
      refine wpAnyH_done (by kernel_rfl) ?_ _
      generalize (((w5.setCell ⟨P7, 0, none⟩ (.int .i64 d0)).setCell ⟨P7, 1, none⟩ (.string d1)).setCell ⟨P7, 2, none⟩ (.slice rq rn rc)) = w7 at *
      have HL7 := Lib.hid (show ∀ b, b < P7 → w7.heap[b]? = w3.heap[b]? from fun b hb => (HK7.out b (by omega)).trans ((HS5.out.2 b (by omega) (by have := HZ.out; omega)).trans (HBL.out b hb)))
      have HV7 := Lib.hid (HH5.out.same (w' := w7) fun b hb => HK7.out b (by have := HC5.out; have := HZ.out; omega))
      have HN7 := Lib.hid (HNL.out.same (w' := w7) fun b hb => (HK7.out b (by omega)).trans (HS5.out.2 b (by omega) (by have := HZ.out; omega)))
      go_wp2_with fail
      go_roundw
      case rel => exact ⟨j + 1, d0, d1, rq, rn, rc, we.heap.size, w5.heap.size, by go_num, by omega, E77, HL7, Lib.hid (by rw [HTK.out, Ux.putAll_snoc]; exact HV7.out), Lib.hid ⟨by have := HC5.out; have := HZ.out; omega, by rw [HZ7.out]; exact Nat.le_refl _⟩, Lib.hid (by have := HC5.out; have := HZ.out; rw [HZ7.out]; omega), HN7, HB7⟩
      case measure => simp [intOf]; omega
  · obtain rfl : j = n1 := by omega
    obtain ⟨vv, hvv⟩ : ∃ vv, vv = tw.app Ux.shW := ⟨_, rfl⟩
    have hvv2 : Ux.putAll Ux.shW (vl.take j) tw = vv := by rw [HN1.out, List.take_length, HVL.out, Ux.sh_app HTYV.out, hvv]
    replace HV : Hid (Hang TyP P7 lo hi wr (.agg #[.int .i64 i7, .string s7, .slice q7 m7 c7]) vv) := Lib.hid (by rw [← hvv2]; exact HV.out)
    have HVV : Hid ((∀ m ∈ vv.vs, 50 ≤ m ∧ m < 56) ∧ Ux.Plain vv ∧ vv.sz ≤ 15) := Lib.hid (by rw [hvv]; exact ⟨Ux.sh_vs HTYV.out, Ux.sh_plain HOKV.out.plain, by rw [Ux.sh_sz]; exact HSZV.out⟩)
    have E5 := Lib.hid ((HBL.out P5 HP53.out).trans E53.out)
    have HTr := Lib.hid (HT3.out.same (w' := wr) fun b hb => HBL.out b (by have := HP53.out; omega))
    clear hvv hvv2 HNL E53 HT3 HBL hlt hj
    have t0 := ent_cell E5.out 0 _ rfl
    have t1 := ent_cell E5.out 1 _ rfl
    have t2 := ent_cell E5.out 2 _ rfl
    go_upto_region 11 with fail
    clear t0 t1 t2
    have E11 := Lib.hid (ent_new wr #[.int .i64 i5, .string s5, .slice q5 m5 c5] 30)
    have hbb : Below wr.heap.size wr (wr.alloc (.cells #[.int .i64 i5, .string s5, .slice q5 m5 c5] 30)) := (Below.refl _ _).alloc (Nat.le_refl _) _
    have E5x := Lib.hid (ent_below E5.out hbb); have E7x := Lib.hid (ent_below E7.out hbb)
    obtain ⟨P11, hP11⟩ : ∃ P, P = wr.heap.size := ⟨_, rfl⟩
    have HBx := Lib.hid (HB.out.trans (hbb.mono HB.out.size))
    have HVx := Lib.hid ((HV.out.same (w' := wr.alloc (.cells #[.int .i64 i5, .string s5, .slice q5 m5 c5] 30)) fun b hb => hbb.block b (by have := HLO.out; have := HZ.out; omega)).all (B := P11) (by have := HZ.out; omega) (by have := HLO.out; omega))
    have HTx := Lib.hid ((HTr.out.same (w' := wr.alloc (.cells #[.int .i64 i5, .string s5, .slice q5 m5 c5] 30)) fun b hb => hbb.block b (by have := HZ.out; have := HP53.out; omega)).all (B := P11) (by have := HZ.out; have := HP53.out; omega) (Nat.zero_le _))
    have HZx := Lib.hid (show (wr.alloc (.cells #[.int .i64 i5, .string s5, .slice q5 m5 c5] 30)).heap.size = P11 + 1 by simp [hP11])
    have HP11 := Lib.hid (show w.heap.size ≤ P11 ∧ P5 < P11 ∧ P7 < P11 by have := HZ.out; have := HP53.out; have := HB.out.size; omega)
    rw [← hP11] at E11 ⊢
    generalize wr.alloc (.cells #[.int .i64 i5, .string s5, .slice q5 m5 c5] 30) = wx at E11 E5x E7x HBx HVx HTx HZx ⊢
    clear hbb hP11 HV HTr E5 E7 HB HLO HZ
    have t0 := ent_cell E5x.out 0 _ rfl
    have t1 := ent_cell E5x.out 1 _ rfl
    have t2 := ent_cell E5x.out 2 _ rfl
    go_wp2_with fail
    refine (refVars_any t _ (.slice none 0 0) [] P11 (P11 + 1) wx (by rw [HZx.out]; omega) (by rw [HZx.out]; exact Nat.le_refl _) HTx.out.now (fun u _ => .inl ⟨rfl, _, _, rfl⟩) (by have := HSZT.out; simp; omega)).mono ?_
    rintro e w5 ⟨rv, rfl, hb5, hh5⟩
    have hvt : Ux.firsts [] t.vs = Ux.varsT t := rfl
    rw [hvt] at hh5
    obtain ⟨tl, htl⟩ : ∃ tl, tl = Ux.varsT t := ⟨_, rfl⟩
    rw [← htl] at hh5
    have HTL := Lib.hid htl
    have htln : tl.length ≤ 15 := by
     have h1 := firsts_len t.vs []
     have h2 := vs_len t
     have h3 := HSZT.out
     rw [htl]; unfold Ux.varsT; simp at h1; omega
    obtain ⟨lp4, lc4, rfl⟩ := hh5.now.len
    obtain ⟨n3, hn3⟩ : ∃ n3, n3 = tl.length := ⟨_, rfl⟩
    rw [← hn3] at hh5 htln ⊢
    have HN3 := Lib.hid hn3
    obtain ⟨N3, hN3⟩ : ∃ N3, N3 = w5.heap.size := ⟨_, rfl⟩
    rw [← hN3] at hh5
    have HNL := Lib.hid hh5
    have HZ5 := Lib.hid (show P11 + 1 ≤ w5.heap.size ∧ N3 ≤ w5.heap.size from ⟨by rw [← HZx.out]; exact hb5.size, by omega⟩)
    have E115 := Lib.hid (ent_below E11.out hb5)
    have HBL5 := Lib.hid (show ∀ b, b < P11 → w5.heap[b]? = wx.heap[b]? from fun b hb => hb5.block b (by rw [HZx.out]; omega))
    have HB5 := Lib.hid (HBx.out.trans (hb5.mono HBx.out.size))
    have HU5 := Lib.hid ((HTx.out.same (w' := w5) fun b hb => hb5.block b (by rw [HZx.out]; omega)).more (P11 + 1) (P11 + 1))
    have HLO5 := Lib.hid (show P11 + 1 ≤ P11 + 1 ∧ P11 + 1 ≤ w5.heap.size from ⟨Nat.le_refl _, HZ5.out.1⟩)
    clear hb5 hh5 htl hn3 hN3 hvt E11 HBx HZx t0 t1 t2
    go_wp2_with fail
    go_loopw [57] (fun i wr => ∃ (j : Nat) (i8 : Int) (s8 : ByteArray) (q8 : Option Addr) (m8 c8 lo hi : Nat), i = .int .i64 j ∧ j ≤ n3 ∧ Hid (wr.heap[P11]? = some (.cells #[.int .i64 i8, .string s8, .slice q8 m8 c8] 30 (0, 0))) ∧ Hid (∀ b, b < P11 → wr.heap[b]? = wx.heap[b]?) ∧
     Hid (Hang TyP P11 lo hi wr (.agg #[.int .i64 i8, .string s8, .slice q8 m8 c8]) (Ux.putAll (Ux.inW tl vv) (tl.take j) t)) ∧ Hid (P11 + 1 ≤ lo ∧ hi ≤ wr.heap.size) ∧ Hid (P11 + 1 ≤ wr.heap.size ∧ N3 ≤ wr.heap.size) ∧ Hid (Hang NumsR P11 (P11 + 1) N3 wr (.slice lp4 n3 lc4) tl) ∧ Hid (Below w.heap.size w wr)) (fun i _ => n3 - (intOf i).toNat)
    case atStart => exact ⟨0, i5, s5, q5, m5, c5, _, _, rfl, Nat.zero_le _, E115, HBL5, HU5, HLO5, HZ5, HNL, HB5⟩
    case round =>
     clear E115 HBL5 HU5 HLO5 HZ5 HNL HB5
     obtain ⟨j, i8, s8, q8, m8, c8, lo, hi, rfl, hj, E11, HBL, HU, HLO, HZ, HNL, HB⟩ := hrel
     by_cases hlt : j < n3
     · obtain ⟨x, hx⟩ : ∃ x, tl[j]? = some x := ⟨_, List.getElem?_eq_getElem (by have := HN3.out; omega)⟩
       obtain ⟨g, of, lc', hlv, hlc, hlc2⟩ := nums_some HNL.out.now (by intro e; rw [e] at hx; cases hx)
       injection hlv with e1 ex e2
       clear ex
       subst e1; subst e2
       rw [← HN3.out] at hlc
       have x0 := nums_cell HNL.out.now hx
       have hx6 : x < 6 := HTY.out x ((Ux.varsT_mem t x).1 (by rw [← HTL.out]; exact List.mem_of_getElem? hx))
       have HTK : Hid (tl.take (j + 1) = tl.take j ++ [x]) := Lib.hid (by rw [List.take_add_one, hx]; rfl)
       have HIX : Hid (tl.idxOf x = j) := Lib.hid (by
        have h := Ux.idxOf_get (l := tl) (by rw [HTL.out]; exact Ux.varsT_nodup t) (k := j) (by have := HN3.out; omega)
        rwa [List.getD_eq_getElem?_getD, hx] at h)
       have HSZ : Hid ((Ux.putAll (Ux.inW tl vv) (tl.take j) t).sz ≤ 1000000000) := Lib.hid (by
        have h := Ux.putAll_sz (w := Ux.inW tl vv) (c := 15) (by decide) (fun n => Nat.le_trans (Ux.inW_sz n) HVV.out.2.2) (l := tl.take j) (t := t) (Ux.take_nodup (by rw [HTL.out]; exact Ux.varsT_nodup t) j) (Ux.in_out HTY.out (fun m hm => (HVV.out.1 m hm).1) tl _ fun n hn => by rw [← HTL.out]; exact List.mem_of_mem_take hn)
        have := HSZT.out; omega)
       have hj1 : (j : Int) < (n3 : Int) := by omega
       have hj2 : (n3 : Int) ≤ (lc4 : Int) := by omega
       have hj3 : (j : Int) ≤ 61 := by omega
       have hj4 : (0 : Int) ≤ (j : Int) := by omega
       clear hx hx6
       have E7c := Lib.hid ((HBL.out P7 HP11.out.2.2).trans E7x.out)
       have t0 := ent_cell E7c.out 0 _ rfl
       have t1 := ent_cell E7c.out 1 _ rfl
       have t2 := ent_cell E7c.out 2 _ rfl
       go_upto_region 15 with fail
       clear t0 t1 t2 x0
       have E14 := Lib.hid (ent_new wr #[.int .i64 i7, .string s7, .slice q7 m7 c7] 30)
       have hbb : Below wr.heap.size wr (wr.alloc (.cells #[.int .i64 i7, .string s7, .slice q7 m7 c7] 30)) := (Below.refl _ _).alloc (Nat.le_refl _) _
       have E11a := Lib.hid (ent_below E11.out hbb)
       have HBLa := Lib.hid (show ∀ b, b < P11 → (wr.alloc (.cells #[.int .i64 i7, .string s7, .slice q7 m7 c7] 30)).heap[b]? = wx.heap[b]? from fun b hb => (hbb.block b (by have := HZ.out; omega)).trans (HBL.out b hb))
       have HUa := Lib.hid (HU.out.same (w' := wr.alloc (.cells #[.int .i64 i7, .string s7, .slice q7 m7 c7] 30)) fun b hb => hbb.block b (by have := HZ.out; have := HLO.out; omega))
       have HLOa := Lib.hid (show P11 + 1 ≤ lo ∧ hi ≤ wr.heap.size from HLO.out)
       have HNa := Lib.hid (HNL.out.same (w' := wr.alloc (.cells #[.int .i64 i7, .string s7, .slice q7 m7 c7] 30)) fun b hb => hbb.block b (by have := HZ.out; omega))
       have HBa := Lib.hid (HB.out.trans (hbb.mono HB.out.size))
       have HSa := Lib.hid (show P11 + 1 ≤ wr.heap.size ∧ N3 ≤ wr.heap.size ∧ wr.heap.size < (wr.alloc (.cells #[.int .i64 i7, .string s7, .slice q7 m7 c7] 30)).heap.size from ⟨HZ.out.1, HZ.out.2, by simp⟩)
       obtain ⟨b14, hb14⟩ : ∃ b, b = wr.heap.size := ⟨_, rfl⟩
       rw [← hb14] at E14 HSa HLOa ⊢
       generalize wr.alloc (.cells #[.int .i64 i7, .string s7, .slice q7 m7 c7] 30) = wa at E14 E11a HBLa HUa HNa HBa HSa ⊢
       clear hbb hb14 E11 HBL HU HNL HB HZ HLO E7c
       have hmod : (j : Int) % 2 = ((j % 2 : Nat) : Int) := by omega
       by_cases hodd : j % 2 = 1
       · have hb2 : ((j : Int) % 2 == 1) = true := by simp; omega
         have HWE : Hid (Ux.inW tl vv x = Ux.liInt) := Lib.hid (by unfold Ux.inW; rw [HIX.out, if_pos hodd])
         clear hmod hodd
         go_wp2_with fail
         refine (of_any [73, 110, 116] (.slice none 0 0) [] wa.heap.size wa (Nat.le_refl _) (.inl ⟨rfl, _, _, rfl⟩) (by simp)).mono ?_
         rintro e wb ⟨r3, rfl, hb3, hh3⟩
         obtain ⟨y0, y1, yq, ym, yc, rfl⟩ := tyP_sh hh3.now
         have HI := Lib.hid (tyP_nil hh3.now)
         have E14b := Lib.hid (ent_below E14.out hb3); have E11b := Lib.hid (ent_below E11a.out hb3)
         have HBLb := Lib.hid (show ∀ b, b < P11 → wb.heap[b]? = wx.heap[b]? from fun b hb => (hb3.block b (by have := HSa.out; omega)).trans (HBLa.out b hb))
         have HUb := Lib.hid (HUa.out.same (w' := wb) fun b hb => hb3.block b (by have := HSa.out; have := HLOa.out; omega))
         have HNb := Lib.hid (HNa.out.same (w' := wb) fun b hb => hb3.block b (by have := HSa.out; omega))
         have HBb := Lib.hid (HBa.out.trans (hb3.mono HBa.out.size))
         have HSb := Lib.hid (show P11 + 1 ≤ b14 ∧ N3 ≤ b14 ∧ b14 < wb.heap.size by have := HSa.out; have := hb3.size; omega)
         clear hb3 hh3 E14 E11a HBLa HUa HNa HBa HSa
         have z0 := ent_cell E14b.out 0 _ rfl
         have z1 := ent_cell E14b.out 1 _ rfl
         have z2 := ent_cell E14b.out 2 _ rfl
         have zf := ent_free E14b.out
         go_upto_region 17 with fail
         clear z0 z1 z2 zf hb2
         have HKc : Hid (∀ b, b ≠ b14 → (((wb.setCell ⟨b14, 0, none⟩ (.int .i64 y0)).setCell ⟨b14, 1, none⟩ (.string y1)).setCell ⟨b14, 2, none⟩ (.slice yq ym yc)).heap[b]? = wb.heap[b]?) := Lib.hid (fun b hb => ((Below.heap_setCell _ ⟨b14, 2, none⟩ _ b hb).trans (Below.heap_setCell _ ⟨b14, 1, none⟩ _ b hb)).trans (Below.heap_setCell _ ⟨b14, 0, none⟩ _ b hb))
         have HZc : Hid ((((wb.setCell ⟨b14, 0, none⟩ (.int .i64 y0)).setCell ⟨b14, 1, none⟩ (.string y1)).setCell ⟨b14, 2, none⟩ (.slice yq ym yc)).heap.size = wb.heap.size) := Lib.hid (by simp)
         have E14c := Lib.hid (ent_set3 E14b.out (.int .i64 y0) (.string y1) (.slice yq ym yc))
         have HBc := Lib.hid (below_set3 HBb.out b14 (by have := HSb.out; have := HP11.out; omega) (.int .i64 y0) (.string y1) (.slice yq ym yc))
         generalize (((wb.setCell ⟨b14, 0, none⟩ (.int .i64 y0)).setCell ⟨b14, 1, none⟩ (.string y1)).setCell ⟨b14, 2, none⟩ (.slice yq ym yc)) = wc at HKc HZc E14c HBc ⊢
         have E11c := Lib.hid ((HKc.out P11 (by have := HSb.out; omega)).trans E11b.out)
         have HBLc := Lib.hid (show ∀ b, b < P11 → wc.heap[b]? = wx.heap[b]? from fun b hb => (HKc.out b (by have := HSb.out; omega)).trans (HBLb.out b hb))
         have HNc := Lib.hid (HNb.out.same (w' := wc) fun b hb => HKc.out b (by have := HSb.out; omega))
         have HSc := Lib.hid (show P11 + 1 ≤ b14 ∧ N3 ≤ b14 ∧ b14 < wc.heap.size by have := HSb.out; rw [HZc.out]; exact this)
         have HUc := Lib.hid (HUb.out.same (w' := wc) fun b hb => HKc.out b (by have := HSb.out; have := HLOa.out; omega))
         have HWc := Lib.hid (show Hang TyP P11 0 0 wc (.agg #[.int .i64 y0, .string y1, .slice yq ym yc]) (Ux.inW tl vv x) by rw [HWE.out]; exact fun u _ => HI.out u)
         have u0 := ent_cell E11c.out 0 _ rfl
         have u1 := ent_cell E11c.out 1 _ rfl
         have u2 := ent_cell E11c.out 2 _ rfl
         have z0 := ent_cell E14c.out 0 _ rfl
         have z1 := ent_cell E14c.out 1 _ rfl
         have z2 := ent_cell E14c.out 2 _ rfl
         go_wp2_with fail
         clear u0 u1 u2 z0 z1 z2
         refine (put_any _ _ _ (Ux.inW tl vv x) x P11 wc (by have := HSc.out; omega) HUc.out.now HWc.out HSZ.out).mono ?_
         rintro e w5 ⟨rv, rfl, hb5, hh5⟩
         obtain ⟨d0, d1, rq, rn, rc, rfl⟩ := tyP_sh hh5.now
         have E115 := Lib.hid (ent_below E11c.out hb5)
         have HB5 := Lib.hid (HBc.out.trans (hb5.mono HBc.out.size))
         have HH5 := Lib.hid hh5
         have HD5 := Lib.hid hb5
         clear hb5 hh5
         have u0 := ent_cell E115.out 0 _ rfl
         have u1 := ent_cell E115.out 1 _ rfl
         have u2 := ent_cell E115.out 2 _ rfl
         have uf := ent_free E115.out
         go_wp2_with fail
         clear u0 u1 u2 uf
         have HK7 : Hid (∀ b, b ≠ P11 → (((w5.setCell ⟨P11, 0, none⟩ (.int .i64 d0)).setCell ⟨P11, 1, none⟩ (.string d1)).setCell ⟨P11, 2, none⟩ (.slice rq rn rc)).heap[b]? = w5.heap[b]?) := Lib.hid (fun b hb => ((Below.heap_setCell _ ⟨P11, 2, none⟩ _ b hb).trans (Below.heap_setCell _ ⟨P11, 1, none⟩ _ b hb)).trans (Below.heap_setCell _ ⟨P11, 0, none⟩ _ b hb))
         have HZ7 : Hid ((((w5.setCell ⟨P11, 0, none⟩ (.int .i64 d0)).setCell ⟨P11, 1, none⟩ (.string d1)).setCell ⟨P11, 2, none⟩ (.slice rq rn rc)).heap.size = w5.heap.size) := Lib.hid (by simp)
         have E117 := Lib.hid (ent_set3 E115.out (.int .i64 d0) (.string d1) (.slice rq rn rc))
         have HB7 := Lib.hid (below_set3 HB5.out P11 HP11.out.1 (.int .i64 d0) (.string d1) (.slice rq rn rc))
         generalize (((w5.setCell ⟨P11, 0, none⟩ (.int .i64 d0)).setCell ⟨P11, 1, none⟩ (.string d1)).setCell ⟨P11, 2, none⟩ (.slice rq rn rc)) = w7 at *
         have HL7 := Lib.hid (show ∀ b, b < P11 → w7.heap[b]? = wx.heap[b]? from fun b hb => (HK7.out b (by omega)).trans ((HD5.out.block b (by have := HSc.out; omega)).trans (HBLc.out b hb)))
         have HU7 := Lib.hid (HH5.out.same (w' := w7) fun b hb => HK7.out b (by have := HSc.out; omega))
         have HN7 := Lib.hid (HNc.out.same (w' := w7) fun b hb => (HK7.out b (by omega)).trans (HD5.out.block b (by have := HSc.out; omega)))
         go_roundw
         case rel => exact ⟨j + 1, d0, d1, rq, rn, rc, wc.heap.size, w5.heap.size, by go_num, by omega, E117, HL7, Lib.hid (by rw [HTK.out, Ux.putAll_snoc]; exact HU7.out), Lib.hid ⟨by have := HSc.out; omega, by rw [HZ7.out]; exact Nat.le_refl _⟩, Lib.hid (by have := HSc.out; have := HD5.out.size; rw [HZ7.out]; omega), HN7, HB7⟩
         case measure => simp [intOf]; omega
       · have hb2 : ((j : Int) % 2 == 1) = false := by simp; omega
         have HWE : Hid (Ux.inW tl vv x = vv) := Lib.hid (by unfold Ux.inW; rw [HIX.out, if_neg hodd])
         clear hmod hodd
         have E14c := E14; have E11c := E11a; have HBLc := HBLa; have HNc := HNa; have HBc := HBa; have HSc := HSa
         have HWc := Lib.hid (show Hang TyP P11 0 0 wa (.agg #[.int .i64 i7, .string s7, .slice q7 m7 c7]) (Ux.inW tl vv x) by rw [HWE.out]; exact HVx.out.same fun b hb => HBLa.out b (by omega))
         have u0 := ent_cell E11c.out 0 _ rfl
         have u1 := ent_cell E11c.out 1 _ rfl
         have u2 := ent_cell E11c.out 2 _ rfl
         have z0 := ent_cell E14c.out 0 _ rfl
         have z1 := ent_cell E14c.out 1 _ rfl
         have z2 := ent_cell E14c.out 2 _ rfl
         go_wp2_with fail
         clear u0 u1 u2 z0 z1 z2
         refine (put_any _ _ _ (Ux.inW tl vv x) x P11 wa (by have := HSc.out; omega) HUa.out.now HWc.out HSZ.out).mono ?_
         rintro e w5 ⟨rv, rfl, hb5, hh5⟩
         obtain ⟨d0, d1, rq, rn, rc, rfl⟩ := tyP_sh hh5.now
         have E115 := Lib.hid (ent_below E11c.out hb5)
         have HB5 := Lib.hid (HBc.out.trans (hb5.mono HBc.out.size))
         have HH5 := Lib.hid hh5
         have HD5 := Lib.hid hb5
         clear hb5 hh5
         have u0 := ent_cell E115.out 0 _ rfl
         have u1 := ent_cell E115.out 1 _ rfl
         have u2 := ent_cell E115.out 2 _ rfl
         have uf := ent_free E115.out
         go_wp2_with fail
         clear u0 u1 u2 uf
         have HK7 : Hid (∀ b, b ≠ P11 → (((w5.setCell ⟨P11, 0, none⟩ (.int .i64 d0)).setCell ⟨P11, 1, none⟩ (.string d1)).setCell ⟨P11, 2, none⟩ (.slice rq rn rc)).heap[b]? = w5.heap[b]?) := Lib.hid (fun b hb => ((Below.heap_setCell _ ⟨P11, 2, none⟩ _ b hb).trans (Below.heap_setCell _ ⟨P11, 1, none⟩ _ b hb)).trans (Below.heap_setCell _ ⟨P11, 0, none⟩ _ b hb))
         have HZ7 : Hid ((((w5.setCell ⟨P11, 0, none⟩ (.int .i64 d0)).setCell ⟨P11, 1, none⟩ (.string d1)).setCell ⟨P11, 2, none⟩ (.slice rq rn rc)).heap.size = w5.heap.size) := Lib.hid (by simp)
         have E117 := Lib.hid (ent_set3 E115.out (.int .i64 d0) (.string d1) (.slice rq rn rc))
         have HB7 := Lib.hid (below_set3 HB5.out P11 HP11.out.1 (.int .i64 d0) (.string d1) (.slice rq rn rc))
         generalize (((w5.setCell ⟨P11, 0, none⟩ (.int .i64 d0)).setCell ⟨P11, 1, none⟩ (.string d1)).setCell ⟨P11, 2, none⟩ (.slice rq rn rc)) = w7 at *
         have HL7 := Lib.hid (show ∀ b, b < P11 → w7.heap[b]? = wx.heap[b]? from fun b hb => (HK7.out b (by omega)).trans ((HD5.out.block b (by have := HSc.out; omega)).trans (HBLc.out b hb)))
         have HU7 := Lib.hid (HH5.out.same (w' := w7) fun b hb => HK7.out b (by have := HSc.out; omega))
         have HN7 := Lib.hid (HNc.out.same (w' := w7) fun b hb => (HK7.out b (by omega)).trans (HD5.out.block b (by have := HSc.out; omega)))
         go_roundw
         case rel => exact ⟨j + 1, d0, d1, rq, rn, rc, wa.heap.size, w5.heap.size, by go_num, by omega, E117, HL7, Lib.hid (by rw [HTK.out, Ux.putAll_snoc]; exact HU7.out), Lib.hid ⟨by have := HSc.out; omega, by rw [HZ7.out]; exact Nat.le_refl _⟩, Lib.hid (by have := HSc.out; have := HD5.out.size; rw [HZ7.out]; omega), HN7, HB7⟩
         case measure => simp [intOf]; omega
     · obtain rfl : j = n3 := by omega
       obtain ⟨u, hu⟩ : ∃ u, u = t.app (Ux.inW tl vv) := ⟨_, rfl⟩
       have hup : Ux.putAll (Ux.inW tl vv) (tl.take j) t = u := by rw [HN3.out, List.take_length, hu]; rw [← Ux.in_app HTY.out (fun m hm => (HVV.out.1 m hm).1) tl]; rw [← HTL.out]
       replace HU : Hid (Hang TyP P11 lo hi wr (.agg #[.int .i64 i8, .string s8, .slice q8 m8 c8]) u) := Lib.hid (by rw [← hup]; exact HU.out)
       have htv : ∀ n ∈ t.vs, n < 1000000 := fun n hn => by have := HTY.out n hn; omega
       have huv2 : ∀ m ∈ u.vs, 50 ≤ m ∧ m < 56 := fun m hm => by rw [hu] at hm; exact HVV.out.1 m (Ux.in_vs m hm)
       have huv : ∀ n ∈ u.vs, n < 1000000 := fun n hn => by have := huv2 n hn; omega
       have husz : u.sz ≤ 225 := by
        rw [hu]
        have h := Ux.sz_app_le (σ := Ux.inW tl vv) (c := 15) (by decide) t (fun n _ => Nat.le_trans (Ux.inW_sz n) HVV.out.2.2)
        have := HSZT.out; omega
       have hupl : Ux.Plain u := by rw [hu]; exact Ux.plain_app HOKT.out.plain fun n _ => Ux.inW_plain HVV.out.2.1 n
       have HOKU : Hid (OkT u) := Lib.hid ⟨hupl, huv, by omega⟩
       have HSIG : Hid (∃ σ, t.app σ = u ∧ u.app σ = u) := Lib.hid (Ux.into_one (w := Ux.inW tl vv) (c := 50) hu (fun n hn => by have := HTY.out n hn; omega) (fun m hm => (huv2 m hm).1))
       have HONE : Hid (t.app HSIG.out.choose = u.app HSIG.out.choose) := Lib.hid (HSIG.out.choose_spec.1.trans HSIG.out.choose_spec.2.symm)
       have HFEW : Hid (t.sz + u.sz ≤ 40000) := Lib.hid (by have := HSZT.out; omega)
       have HPURE := Lib.hid (show ∀ f', Ux.Made (fun _ => none) f' t u → ∀ N, Ux.Norm f' N → (∀ n, f' n ≠ none → n < 1000000) ∧ OkT (t.app N) ∧ t.app N = u.app N ∧ Ux.canon (t.app N) = Ux.canon u from fun f' hm N hN => by
        obtain ⟨σ, h1, h2⟩ := HSIG.out
        have hs : Ux.Sol f' σ := (hm.2 σ).2 ⟨(fun n t h => by cases h), h1.trans h2.symm⟩
        exact ⟨made_dom hm htv huv, okT_norm hm hN hs htv huv htv ⟨by rw [h1]; exact hupl, by rw [h1]; omega⟩, Ux.made_one hm hN, Ux.mg_canon (hN.most hm.1 hs) (Ux.made_one hm hN) h1⟩)
       have HTN := Lib.hid (show TyP wr (.agg #[.int .i64 i5, .string s5, .slice q5 m5 c5]) t from (HTx.out.same fun b hb => HBL.out b (by omega)).now)
       have E5 := Lib.hid ((HBL.out P5 HP11.out.2.1).trans E5x.out)
       have HUN := Lib.hid HU.out.now
       clear HU HNL hup htv huv huv2 husz hupl hu hlt hj
       have hmm := @run_makeMap Tryd.prog
       go_upto_region 20 with fail
       clear hmm
       have hba : Below wr.heap.size wr (wr.alloc (.map #[] 0)) := (Below.refl _ _).alloc (Nat.le_refl _) _
       have hsn := sub_new (fun _ => False) wr
       have SN0 := Lib.hid (show SubAt (fun _ => False) (wr.alloc (.map #[] 0)).drew wr.heap.size (fun _ => none) from hsn.keep rfl fun _ _ => rfl)
       have E50 := Lib.hid (show (wr.alloc (.map #[] 0)).drew.heap[P5]? = some (.cells #[.int .i64 i5, .string s5, .slice q5 m5 c5] 30 (0, 0)) from ent_below E5.out hba.drew)
       have E80 := Lib.hid (show (wr.alloc (.map #[] 0)).drew.heap[P11]? = some (.cells #[.int .i64 i8, .string s8, .slice q8 m8 c8] 30 (0, 0)) from ent_below E11.out hba.drew)
       have HT0 := Lib.hid (show TyP (wr.alloc (.map #[] 0)).drew _ t from tyP_below HTN.out hba.drew)
       have HU0 := Lib.hid (show TyP (wr.alloc (.map #[] 0)).drew _ u from tyP_below HUN.out hba.drew)
       have HB0 := Lib.hid (show Below w.heap.size w (wr.alloc (.map #[] 0)).drew from (HB.out.trans (hba.mono HB.out.size)).drew)
       have HSB := Lib.hid (show w.heap.size ≤ wr.heap.size from HB.out.size)
       obtain ⟨sb, hsb⟩ : ∃ sb, sb = wr.heap.size := ⟨_, rfl⟩
       clear hba hsn E5 E11 HB HBL HLO HZ HTN HUN
       refine wp_region_held_drew (S := fun (u : World) => u.heap[P5]? = some (.cells #[.int .i64 i5, .string s5, .slice q5 m5 c5] 30 (0, 0)) ∧ u.heap[P11]? = some (.cells #[.int .i64 i8, .string s8, .slice q8 m8 c8] 30 (0, 0))) (by kernel_rfl) (⟨E50.out, E80.out⟩) (fun hHeld => ?_)
       rw [← hsb] at SN0 HSB ⊢
       generalize (wr.alloc (.map #[] 0)).drew = wd0 at SN0 E50 E80 HT0 HU0 HB0 hHeld ⊢
       clear hsb
       refine wpAnyH_take (i := 0) (v := .map (some sb)) rfl (by kernel_rfl) (by kernel_rfl) (by kernel_rfl) (fun _ _ _ h => h) (Or.inl ⟨by rfl, fun w' hSw => by go_simp⟩) hHeld ?_
       refine wpAnyH_take (i := 1) (v := .agg #[.int .i64 i5, .string s5, .slice q5 m5 c5]) rfl (by kernel_rfl) (by kernel_rfl) (by kernel_rfl) (fun _ _ _ h => h) (Or.inl ⟨by rfl, fun w' hSw => by have h0 := ent_cell hSw.1 0 _ rfl; have h1 := ent_cell hSw.1 1 _ rfl; have h2 := ent_cell hSw.1 2 _ rfl; go_simp⟩) hHeld ?_
       refine wpAnyH_take (i := 2) (v := .agg #[.int .i64 i8, .string s8, .slice q8 m8 c8]) rfl (by kernel_rfl) (by kernel_rfl) (by kernel_rfl) (fun _ _ _ h => h) (Or.inl ⟨by rfl, fun w' hSw => by have h0 := ent_cell hSw.2 0 _ rfl; have h1 := ent_cell hSw.2 1 _ rfl; have h2 := ent_cell hSw.2 2 _ rfl; go_simp⟩) hHeld ?_
       try simp only [Act.put, List.getElem_toArray, List.getElem_cons_succ, List.getElem_cons_zero, List.setIfInBounds_toArray, List.set_cons_zero, List.set_cons_succ]
       refine wpAnyH_ready (rs := [3]) (by kernel_rfl) (by simp) ?_
       refine AllReadyH.cons rfl (fun K hK => ?_) AllReadyH.nil
       go_simp
       refine (unify1_any sb t u _ _ wd0 SN0.out HT0.out HU0.out HFEW.out).mono ?_
       rintro e wd1 ⟨hc, hor⟩
       rcases hor with ⟨rfl, f', hmade, hsub, _⟩ | ⟨rfl, hnever, _⟩
       rotate_left
       · exact absurd HONE.out (hnever HSIG.out.choose fun n t h => by cases h)
       obtain ⟨N, hN⟩ := hmade.1.norm
       have HMP := Lib.hid SN0.out.p.map
       have HT1 := Lib.hid (tyP_chg HMP.out hc HT0.out)
       have HU1 := Lib.hid (tyP_chg HMP.out hc HU0.out)
       have E51 := Lib.hid (ent_chg E50.out hc (fun e => by obtain ⟨es, k, h⟩ := HMP.out; rw [← e, E50.out] at h; cases h))
       have E81 := Lib.hid (ent_chg E80.out hc (fun e => by obtain ⟨es, k, h⟩ := HMP.out; rw [← e, E80.out] at h; cases h))
       have HB1 := Lib.hid (HB0.out.trans (hc.below HB0.out.size fun k hk => by rw [hk]; exact HSB.out))
       have SU1 := Lib.hid hsub
       have HPU := Lib.hid (HPURE.out f' hmade N hN)
       have HF := Lib.hid hmade.1; have HNN := Lib.hid hN
       clear hc hmade hsub hN HMP
       refine hK.out _ _ ⟨E51.out, E81.out⟩ (fun hHeld => ?_)
       clear hK K
       refine wpAnyH_take (i := 4) (v := .bool true) rfl (by kernel_rfl) (by kernel_rfl) (by kernel_rfl) (fun _ _ _ h => h) (Or.inl ⟨by rfl, fun w' hSw => by go_simp⟩) hHeld ?_
       simp only [Act.put, List.getElem_toArray, List.getElem_cons_succ, List.getElem_cons_zero, List.setIfInBounds_toArray, List.set_cons_zero, List.set_cons_succ]
       refine wpAnyH_take (i := 5) (v := .bool true) rfl (by kernel_rfl) (by kernel_rfl) (by kernel_rfl) (fun _ _ _ h => h) (Or.inl ⟨by rfl, fun w' hSw => by go_simp⟩) hHeld ?_
       simp only [Act.put, List.getElem_toArray, List.getElem_cons_succ, List.getElem_cons_zero, List.setIfInBounds_toArray, List.set_cons_zero, List.set_cons_succ]
       refine wpAnyH_take (i := 6) (v := .map (some sb)) rfl (by kernel_rfl) (by kernel_rfl) (by kernel_rfl) (fun _ _ _ h => h) (Or.inl ⟨by go_simp, fun w' hSw => by go_simp⟩) hHeld ?_
       simp only [Act.put, List.getElem_toArray, List.getElem_cons_succ, List.getElem_cons_zero, List.setIfInBounds_toArray, List.set_cons_zero, List.set_cons_succ]
       refine wpAnyH_take (i := 7) (v := .agg #[.int .i64 i5, .string s5, .slice q5 m5 c5]) rfl (by kernel_rfl) (by kernel_rfl) (by kernel_rfl) (fun _ _ _ h => h) (Or.inl ⟨by go_simp, fun w' hSw => by have h0 := ent_cell hSw.1 0 _ rfl; have h1 := ent_cell hSw.1 1 _ rfl; have h2 := ent_cell hSw.1 2 _ rfl; go_simp⟩) hHeld ?_
       simp only [Act.put, List.getElem_toArray, List.getElem_cons_succ, List.getElem_cons_zero, List.setIfInBounds_toArray, List.set_cons_zero, List.set_cons_succ]
       refine wpAnyH_take (i := 9) (v := .map (some sb)) rfl (by kernel_rfl) (by kernel_rfl) (by kernel_rfl) (fun _ _ _ h => h) (Or.inl ⟨by go_simp, fun w' hSw => by go_simp⟩) hHeld ?_
       simp only [Act.put, List.getElem_toArray, List.getElem_cons_succ, List.getElem_cons_zero, List.setIfInBounds_toArray, List.set_cons_zero, List.set_cons_succ]
       refine wpAnyH_take (i := 10) (v := .agg #[.int .i64 i8, .string s8, .slice q8 m8 c8]) rfl (by kernel_rfl) (by kernel_rfl) (by kernel_rfl) (fun _ _ _ h => h) (Or.inl ⟨by go_simp, fun w' hSw => by have h0 := ent_cell hSw.2 0 _ rfl; have h1 := ent_cell hSw.2 1 _ rfl; have h2 := ent_cell hSw.2 2 _ rfl; go_simp⟩) hHeld ?_
       simp only [Act.put, List.getElem_toArray, List.getElem_cons_succ, List.getElem_cons_zero, List.setIfInBounds_toArray, List.set_cons_zero, List.set_cons_succ]
       refine wpAnyH_ready (rs := [8]) (by kernel_rfl) (by simp) ?_
       refine AllReadyH.cons rfl (fun K hK => ?_) AllReadyH.nil
       go_simp
       refine (apply_ok HF.out HNN.out (t := t) SU1.out HT1.out HPU.out.1 HPU.out.2.1).mono ?_
       rintro e wd2 ⟨r2, rfl, hb, hr⟩
       have HR2 := Lib.hid hr; clear hr
       have E52 := Lib.hid (ent_below E51.out hb)
       have E82 := Lib.hid (ent_below E81.out hb)
       have HT2 := Lib.hid (tyP_below HT1.out hb)
       have HU2 := Lib.hid (tyP_below HU1.out hb)
       have SU2 := Lib.hid (SU1.out.below hb)
       have HB2 := Lib.hid (HB1.out.trans (hb.mono HB1.out.size))
       clear hb E51 E81 HT1 HU1 SU1 HB1
       refine hK.out _ _ ⟨E52.out, E82.out⟩ (fun hHeld => ?_)
       clear hK K
       refine wpAnyH_ready (rs := [11]) (by kernel_rfl) (by simp) ?_
       refine AllReadyH.cons rfl (fun K hK => ?_) AllReadyH.nil
       go_simp
       refine (apply_ok HF.out HNN.out (t := u) SU2.out HU2.out HPU.out.1 (by rw [← HPU.out.2.2.1]; exact HPU.out.2.1)).mono ?_
       rintro e wd3 ⟨r3, rfl, hb, hr⟩
       have HX3 := Lib.hid (show TyP wd3 r3 (t.app N) by rw [HPU.out.2.2.1]; exact hr); clear hr
       have HR3 := Lib.hid (tyP_below HR2.out hb)
       have E53 := Lib.hid (ent_below E52.out hb)
       have E83 := Lib.hid (ent_below E82.out hb)
       have HT3 := Lib.hid (tyP_below HT2.out hb)
       have HU3 := Lib.hid (tyP_below HU2.out hb)
       have SU3 := Lib.hid (SU2.out.below hb)
       have HB3 := Lib.hid (HB2.out.trans (hb.mono HB2.out.size))
       clear hb E52 E82 HT2 HU2 SU2 HB2
       refine hK.out _ _ ⟨E53.out, E83.out⟩ (fun hHeld => ?_)
       clear hK K
       refine wpAnyH_ready (rs := [12]) (by kernel_rfl) (by simp) ?_
       refine AllReadyH.cons rfl (fun K hK => ?_) AllReadyH.nil
       go_simp
       refine (like_same HPU.out.2.1 r2 r3 wd3 HR3.out HX3.out (HTB.out wd3 HB3.out)).mono ?_
       rintro e wd4 ⟨rfl, hb⟩
       have E54 := Lib.hid (ent_below E53.out hb)
       have E84 := Lib.hid (ent_below E83.out hb)
       have HT4 := Lib.hid (tyP_below HT3.out hb)
       have HU4 := Lib.hid (tyP_below HU3.out hb)
       have SU4 := Lib.hid (SU3.out.below hb)
       have HB4 := Lib.hid (HB3.out.trans (hb.mono HB3.out.size))
       clear hb E53 E83 HT3 HU3 SU3 HB3
       refine hK.out _ _ ⟨E54.out, E84.out⟩ (fun hHeld => ?_)
       clear hK K
       refine wpAnyH_take (i := 13) (v := .bool true) rfl (by kernel_rfl) (by kernel_rfl) (by kernel_rfl) (fun _ _ _ h => h) (Or.inl ⟨by rfl, fun w' hSw => by go_simp⟩) hHeld ?_
       simp only [Act.put, List.getElem_toArray, List.getElem_cons_succ, List.getElem_cons_zero, List.setIfInBounds_toArray, List.set_cons_zero, List.set_cons_succ]
       refine wpAnyH_take (i := 14) (v := .bool true) rfl (by kernel_rfl) (by kernel_rfl) (by kernel_rfl) (fun _ _ _ h => h) (Or.inl ⟨by rfl, fun w' hSw => by go_simp⟩) hHeld ?_
       simp only [Act.put, List.getElem_toArray, List.getElem_cons_succ, List.getElem_cons_zero, List.setIfInBounds_toArray, List.set_cons_zero, List.set_cons_succ]
       refine wpAnyH_take (i := 15) (v := .map (some sb)) rfl (by kernel_rfl) (by kernel_rfl) (by kernel_rfl) (fun _ _ _ h => h) (Or.inl ⟨by go_simp, fun w' hSw => by go_simp⟩) hHeld ?_
       simp only [Act.put, List.getElem_toArray, List.getElem_cons_succ, List.getElem_cons_zero, List.setIfInBounds_toArray, List.set_cons_zero, List.set_cons_succ]
       refine wpAnyH_take (i := 16) (v := .agg #[.int .i64 i5, .string s5, .slice q5 m5 c5]) rfl (by kernel_rfl) (by kernel_rfl) (by kernel_rfl) (fun _ _ _ h => h) (Or.inl ⟨by go_simp, fun w' hSw => by have h0 := ent_cell hSw.1 0 _ rfl; have h1 := ent_cell hSw.1 1 _ rfl; have h2 := ent_cell hSw.1 2 _ rfl; go_simp⟩) hHeld ?_
       simp only [Act.put, List.getElem_toArray, List.getElem_cons_succ, List.getElem_cons_zero, List.setIfInBounds_toArray, List.set_cons_zero, List.set_cons_succ]
       refine wpAnyH_take (i := 19) (v := .agg #[.int .i64 i8, .string s8, .slice q8 m8 c8]) rfl (by kernel_rfl) (by kernel_rfl) (by kernel_rfl) (fun _ _ _ h => h) (Or.inl ⟨by go_simp, fun w' hSw => by have h0 := ent_cell hSw.2 0 _ rfl; have h1 := ent_cell hSw.2 1 _ rfl; have h2 := ent_cell hSw.2 2 _ rfl; go_simp⟩) hHeld ?_
       simp only [Act.put, List.getElem_toArray, List.getElem_cons_succ, List.getElem_cons_zero, List.setIfInBounds_toArray, List.set_cons_zero, List.set_cons_succ]
       refine wpAnyH_ready (rs := [17]) (by kernel_rfl) (by simp) ?_
       refine AllReadyH.cons rfl (fun K hK => ?_) AllReadyH.nil
       go_simp
       refine (apply_ok HF.out HNN.out (t := t) SU4.out HT4.out HPU.out.1 HPU.out.2.1).mono ?_
       rintro e wd5 ⟨r5, rfl, hb, hr⟩
       have HR5 := Lib.hid hr; clear hr
       have E55 := Lib.hid (ent_below E54.out hb)
       have E85 := Lib.hid (ent_below E84.out hb)
       have HT5 := Lib.hid (tyP_below HT4.out hb)
       have HU5 := Lib.hid (tyP_below HU4.out hb)
       have SU5 := Lib.hid (SU4.out.below hb)
       have HB5 := Lib.hid (HB4.out.trans (hb.mono HB4.out.size))
       clear hb E54 E84 HT4 HU4 SU4 HB4
       refine hK.out _ _ ⟨E55.out, E85.out⟩ (fun hHeld => ?_)
       clear hK K
       refine wpAnyH_ready (rs := [18]) (by kernel_rfl) (by simp) ?_
       refine AllReadyH.cons rfl (fun K hK => ?_) AllReadyH.nil
       go_simp
       refine (rcanon_ok HPU.out.2.1 r5 wd5 HR5.out).mono ?_
       rintro e wd6 ⟨r6, rfl, hb, hr⟩
       have HR6 := Lib.hid (show TyP wd6 r6 (Ux.canon u) by rw [← HPU.out.2.2.2]; exact hr); clear hr
       have E56 := Lib.hid (ent_below E55.out hb)
       have E86 := Lib.hid (ent_below E85.out hb)
       have HT6 := Lib.hid (tyP_below HT5.out hb)
       have HU6 := Lib.hid (tyP_below HU5.out hb)
       have SU6 := Lib.hid (SU5.out.below hb)
       have HB6 := Lib.hid (HB5.out.trans (hb.mono HB5.out.size))
       clear hb E55 E85 HT5 HU5 SU5 HB5
       refine hK.out _ _ ⟨E56.out, E86.out⟩ (fun hHeld => ?_)
       clear hK K
       refine wpAnyH_ready (rs := [20]) (by kernel_rfl) (by simp) ?_
       refine AllReadyH.cons rfl (fun K hK => ?_) AllReadyH.nil
       go_simp
       refine (rcanon_ok HOKU.out _ wd6 HU6.out).mono ?_
       rintro e wd7 ⟨r7, rfl, hb, hr⟩
       have HX7 := Lib.hid hr; clear hr
       have HR7 := Lib.hid (tyP_below HR6.out hb)
       have E57 := Lib.hid (ent_below E56.out hb)
       have E87 := Lib.hid (ent_below E86.out hb)
       have HT7 := Lib.hid (tyP_below HT6.out hb)
       have HU7 := Lib.hid (tyP_below HU6.out hb)
       have SU7 := Lib.hid (SU6.out.below hb)
       have HB7 := Lib.hid (HB6.out.trans (hb.mono HB6.out.size))
       clear hb E56 E86 HT6 HU6 SU6 HB6
       refine hK.out _ _ ⟨E57.out, E87.out⟩ (fun hHeld => ?_)
       clear hK K
       refine wpAnyH_ready (rs := [21]) (by kernel_rfl) (by simp) ?_
       refine AllReadyH.cons rfl (fun K hK => ?_) AllReadyH.nil
       go_simp
       refine (like_same (okT_canon HOKU.out) r6 r7 wd7 HR7.out HX7.out (HTB.out wd7 HB7.out)).mono ?_
       rintro e wd8 ⟨rfl, hb⟩
       have E58 := Lib.hid (ent_below E57.out hb)
       have E88 := Lib.hid (ent_below E87.out hb)
       have HT8 := Lib.hid (tyP_below HT7.out hb)
       have HU8 := Lib.hid (tyP_below HU7.out hb)
       have SU8 := Lib.hid (SU7.out.below hb)
       have HB8 := Lib.hid (HB7.out.trans (hb.mono HB7.out.size))
       clear hb E57 E87 HT7 HU7 SU7 HB7
       refine hK.out _ _ ⟨E58.out, E88.out⟩ (fun hHeld => ?_)
       clear hK K
       refine wpAnyH_take (i := 22) (v := .bool true) rfl (by kernel_rfl) (by kernel_rfl) (by kernel_rfl) (fun _ _ _ h => h) (Or.inl ⟨by rfl, fun w' hSw => by go_simp⟩) hHeld ?_
       simp only [Act.put, List.getElem_toArray, List.getElem_cons_succ, List.getElem_cons_zero, List.setIfInBounds_toArray, List.set_cons_zero, List.set_cons_succ]
       refine wpAnyH_take (i := 23) (v := .bool true) rfl (by kernel_rfl) (by kernel_rfl) (by kernel_rfl) (fun _ _ _ h => h) (Or.inl ⟨by rfl, fun w' hSw => by go_simp⟩) hHeld ?_
       simp only [Act.put, List.getElem_toArray, List.getElem_cons_succ, List.getElem_cons_zero, List.setIfInBounds_toArray, List.set_cons_zero, List.set_cons_succ]
       refine wpAnyH_done (by kernel_rfl) ?_ _
       go_wp2_with fail
       go_ret
       exact ⟨rfl, HB8.out⟩
end Go.Proofs.YthphilkihmnglaaDoor
