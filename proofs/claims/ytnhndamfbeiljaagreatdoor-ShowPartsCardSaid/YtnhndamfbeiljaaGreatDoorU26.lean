/-
  Several texts in one: WPartsW.
-/
import Derived.Test.YtnhndamfbeiljaaGreatDoorU00
import Derived.Test.YtnhndamfbeiljaaGreatDoorU25
import Derived.Test.YtnhndamfbeiljaaGreatDoorU15
import Derived.Test.YtnhndamfbeiljaaGreatDoorU03
set_option linter.unusedVariables false
set_option linter.unusedSimpArgs false
set_option maxHeartbeats 4000000
set_option maxRecDepth 100000
namespace Go.Proofs.YtnhndamfbeiljaaGreatDoor
open Go Go.RowKit
open Go.Lib (hid)
open List renaming getElem_toArray → jPC, getElem_cons_succ → jPD, getElem_cons_zero → jPE, setIfInBounds_toArray → jPF, set_cons_zero → jPG, set_cons_succ → jPH
namespace Sw
theorem progK {w w' : World} {v : Value} {q : Px.Prog} (h : jGF 50 w v q) (hb : Below w.heap.size w w') : jGF 50 w' v q := by
 obtain ⟨dv, fv, rfl, h1, h2⟩ := h; exact ⟨dv, fv, rfl, h1.mono hb (fun u x _ hu => jNQ hu hb), h2.mono hb (fun u x _ hu => defK hu hb)⟩
theorem data4 {w : World} {u : Value} {d : Px.Data} (h : jD2 50 w u d) : ∃ (zp : Int) (zs : ByteArray) (qd : Option Addr) (nd cd : Nat) (qe : Option Addr) (ce : Nat),
 u = .agg #[.int .i64 zp, .string zs, .slice qd nd cd, .slice qe d.cons.length ce] /\ jAI 3 (jEZ 50 w) w (.slice qe d.cons.length ce) d.cons := by
 obtain ⟨nv, cv, rfl, h1, h2⟩ := h; obtain ⟨q1, c1, rfl⟩ := h1.len; obtain ⟨q2, c2, rfl⟩ := h2.len; exact ⟨_, _, _, _, _, _, _, rfl, h2⟩
theorem con3 {w : World} {u : Value} {c : Px.Con} (h : jEZ 50 w u c) : ∃ (yp : Int) (ys : ByteArray) (qf : Option Addr) (cf : Nat),
 u = .agg #[.int .i64 yp, .string ys, .slice qf c.fields.length cf] /\ jAI 3 (jBW 50 w) w (.slice qf c.fields.length cf) c.fields := by
 obtain ⟨av, rfl, h1⟩ := h; obtain ⟨q1, c1, rfl⟩ := h1.len; exact ⟨_, _, _, _, rfl, h1⟩
theorem def10 {w : World} {u : Value} {d : Px.Def} (h : jG5 50 w u d) : ∃ (zp : Int) (zs : ByteArray) (qd : Option Addr) (nd cd : Nat) (zk zx zi : Int) (zt : ByteArray) (qe : Option Addr) (ne ce : Nat) (qf : Option Addr) (nf cf : Nat) (qg : Option Addr) (ng cg : Nat),
 u = .agg #[.int .i64 zp, .string zs, .slice qd nd cd, .int .i64 zk, .int .i64 zx, .string zt, .int .i64 zi, .slice qe ne ce, .slice qf nf cf, .slice qg ng cg] /\ jAU 50 w (.agg #[.int .i64 zk, .int .i64 zx, .string zt, .int .i64 zi, .slice qe ne ce, .slice qf nf cf, .slice qg ng cg]) d.body := by
 obtain ⟨nv, b0, b1, b2, b3, b4, b5, b6, rfl, h1, h2⟩ := h; obtain ⟨q0, c0, rfl⟩ := h1.len; obtain ⟨k2, p2, i2, s2, q2, m2, d2, q3, m3, d3, q4, m4, d4, e2⟩ := jAP 50 w _ _ h2; simp only [Value.agg.injEq, Array.mk.injEq, List.cons.injEq, and_true] at e2; obtain ⟨rfl, rfl, rfl, rfl, rfl, rfl, rfl⟩ := e2; exact ⟨_, _, _, _, _, _, _, _, _, _, _, _, _, _, _, _, _, _, rfl, h2⟩
theorem jHW (a0 : Option Addr) (n c : Nat) (l : List UInt8) (w : World) (hs : SliceAt w (.slice a0 n c) l) (hl : l.length = n) (htab : Lib.TabIs Tryz.prog w "internal/strconv.uint64pow10" .u64 Lib.pow10Tab) :
 Calls Tryz.prog 4 #[.slice a0 n c] w fun e w' => e = .returned (.bool true) /\ Below w.heap.size w w' := by
 have HS := hid hs; have HL := hid hl; have HTAB := hid htab
 clear hs hl htab; go_enter Tryz.func4, Tryz.ntmps4; go_wp2_with fail; refine (jJH _ HTAB.out).mono ?_; rintro e w1 ⟨rfl, hb1⟩; have HB1 := hid hb1; clear hb1
 by_cases hlong : 2000 < n
 . have hl2 : (2000 : Int) < (n : Int) := by omega
   go_wp2_with fail; refine (jJH _ ((Lib.tabBelow_of_tabIs HTAB.out) _ HB1.out)).mono ?_; rintro e w2 ⟨rfl, hb2⟩; have HB2 := bT HB1 hb2; clear hb2
   go_wp2_with fail; go_ret; exact ⟨rfl, HB2.out⟩
 . have hl2 : ¬ (2000 : Int) < (n : Int) := by omega
   go_wp2_with fail; refine (jM7 _ l _ (jD3 HS.out HB1.out)).mono ?_; rintro e w2 ⟨hb2, hres⟩; have HB2 := bT HB1 hb2; clear hb2
   generalize hout : Px.program l = out at *; cases out with
   | lex p =>
     obtain rfl : e = _ := hres; go_wp2_with fail; go_ret; exact ⟨rfl, HB2.out.alloc HB2.out.size _⟩
   | parse p =>
     obtain rfl : e = _ := hres; go_wp2_with fail; go_ret; exact ⟨rfl, HB2.out.alloc HB2.out.size _⟩
   | done q =>
     obtain ⟨v, rfl, hnew⟩ := hres; have hprog := hnew.now
     have hnow : jGF 50 (w2.alloc (.cells v.cells 27)) v q := hnew _ (fun b _ hb => by
      show (w2.heap.push _)[b]? = _
      rw [Array.getElem?_push, if_neg (by omega)])
     clear hnew; have hwt := Px.jI0 l q hout; have hwh := Px.jIU l q hout; have hnm := Px.jMK l q hout; obtain ⟨dv, fv, rfl, hds, hfs⟩ := hprog; obtain ⟨q1, c1, rfl⟩ := hds.len; obtain ⟨q2, c2, rfl⟩ := hfs.len; have hbp := jC9 w2 (.cells #[.slice q1 q.datas.length c1, .slice q2 q.defs.length c2] 27); have EP := hid (jA3 w2 #[.slice q1 q.datas.length c1, .slice q2 q.defs.length c2] 27); have HPR := hid hnow; have HD0 := hid (hds.mono hbp (fun u x _ hu => jNQ hu hbp)); have HF0 := hid (hfs.mono hbp (fun u x _ hu => defK hu hbp)); have HBP := bT HB2 hbp; have HL := hid (show (jBN q.datas ++ jCD q.defs).length <= 102400 by have := hwt; rw [jE7] at this; exact this); have HG := hid (fun d (hd : d ∈ q.defs) => (hwh d hd).good); have HN := hid hnm; have HTB := hid (fun (w' : World) (h : Below w.heap.size w w') => (Lib.tabBelow_of_tabIs HTAB.out) w' h); clear hout hwt hwh hnm hnow hds hfs hbp HB2 HB1 HS; go_upto_region 4 with fail
     generalize hpb : w2.heap.size = pb at *; simp only [Value.cells] at HPR; generalize w2.alloc (.cells #[.slice q1 q.datas.length c1, .slice q2 q.defs.length c2] 27) = wp at *; clear hpb; have y0 := jA EP.out 0 _ rfl; go_wp2_with fail; clear y0; have HR := hid (Below.refl wp.heap.size wp)
     go_loopw [6, 34] (fun sv i wr => ∃ (k : Nat) (S : List UInt8), i = .int .i64 k /\ k <= q.datas.length /\ sv = .string ⟨S.toArray⟩ /\ Hid (S = jBN (q.datas.take k)) /\ Hid (Below w.heap.size w wr) /\ Hid (Below wp.heap.size wp wr)) (fun _ i _ => q.datas.length - (intOf i).toNat)
     case atStart => exact ⟨0, [], rfl, Nat.zero_le _, rfl, hid rfl, HBP, HR⟩
     case round =>
      clear HR; obtain ⟨k, S, rfl, hk, rfl, HS, HB, HP⟩ := hrel; by_cases hlt : k < q.datas.length
      . obtain ⟨d, hd⟩ : ∃ d, q.datas[k]? = some d := ⟨_, List.getElem?_eq_getElem hlt⟩
        have hmem : d ∈ q.datas := List.mem_of_getElem? hd; have HT := hid (jIC hd); have hle1 := jKC q.datas (k + 1); rw [HT.out, <- HS.out] at hle1; have HSZ := hid (show S.length + (Px.jC5 50 d).length + 1 <= 102400 by have := HL.out; simp only [List.length_append, List.length_cons, List.length_nil] at hle1 this; omega)
        rcases HD0.out with ⟨h0, _⟩ | ⟨g, o, c', hv, e1, e2, e3⟩
        . rw [h0] at hlt; simp at hlt
        injection hv with qa _ qb
        subst qa; subst qb
        obtain ⟨u, hu, hsz, hc⟩ := e3 k d hd; obtain ⟨zp, zs, qd, nd, cd, qe, ce, rfl, hcons⟩ := data4 hu; have hcell : ∀ jj z, (Value.agg #[.int .i64 zp, .string zs, .slice qd nd cd, .slice qe d.cons.length ce]).cells[jj]? = some z -> wr.cell? ⟨g, o + k * 4 + jj, none⟩ = some z := fun jj z hz => (HP.out.cell (World.block_lt_of_cell? _ _ (hc jj z hz))).trans (hc jj z hz)
        have x0 : wr.cell? ⟨g, o + k * 4, none⟩ = some (.int .i64 zp) := hcell 0 _ rfl; have x1 : wr.cell? ⟨g, o + k * 4 + 1, none⟩ = some (.string zs) := hcell 1 _ rfl; have x2 : wr.cell? ⟨g, o + k * 4 + 2, none⟩ = some (.slice qd nd cd) := hcell 2 _ rfl; have x3 : wr.cell? ⟨g, o + k * 4 + 3, none⟩ = some (.slice qe d.cons.length ce) := hcell 3 _ rfl; have t1 : (k : Int) < (q.datas.length : Int) := by omega
        have t2 : (q.datas.length : Int) <= (c1 : Int) := by omega
        have t3 := e2; have HU := hid hu; have HCN := hid hcons; clear hu hcons hsz hc hcell e1 e2 e3 hd hle1; go_upto_region 10 with fail
        have EX := hid (jA3 wr #[.int .i64 zp, .string zs, .slice qd nd cd, .slice qe d.cons.length ce] 36); have hbx := jC9 wr (.cells #[.int .i64 zp, .string zs, .slice qd nd cd, .slice qe d.cons.length ce] 36); have HBW := bT HB hbx; have HPW := bT HP hbx; have HD1 := hid (jNQ HU.out HPW.out); clear hbx HB HP HU x0 x1 x2 x3; generalize hq : wr.heap.size = N at *; generalize wr.alloc (.cells #[.int .i64 zp, .string zs, .slice qd nd cd, .slice qe d.cons.length ce] 36) = W1 at *; clear hq; have y0 := jA EX.out 0 _ rfl; have y1 := jA EX.out 1 _ rfl; have y2 := jA EX.out 2 _ rfl; have y3 := jA EX.out 3 _ rfl; go_wp2_with fail; refine (jOA W1 (HTB.out _ HBW.out) _ d HD1.out (HN.out.1 d hmem) (by have := HSZ.out; omega)).mono ?_; rintro e W2 ⟨rfl, hb2⟩; have HB := bT HBW hb2; have HP := bT HPW hb2; have EX2 := hid (jA0 EX.out hb2); clear hb2 y0 y1 y2 y3 HBW HPW EX; have y3 := jA EX2.out 3 _ rfl; obtain ⟨X, hX⟩ : ∃ X, X = Px.jC5 50 d := ⟨_, rfl⟩
        rw [<- hX]; have HX := hid hX; clear hX; have s1 := fun v : World => jCO (w := v) X [10] (by have := HSZ.out; rw [<- HX.out] at this; simp only [List.length_append, List.length_cons, List.length_nil]; omega)
        have s2 := fun v : World => jCO (w := v) S (X ++ [10]) (by have := HSZ.out; rw [<- HX.out] at this; simp only [List.length_append, List.length_cons, List.length_nil]; omega)
        have HS2 := hid (show S ++ (X ++ [10]) = jBN (q.datas.take (k + 1)) by rw [HT.out, <- HS.out, <- HX.out, List.append_assoc]); go_wp2_with fail; clear y3 EX2 HD1; generalize W2 = wz at *
        go_loopw [46] (fun i wr => ∃ j : Nat, i = .int .i64 j /\ j <= d.cons.length /\ Hid (Below w.heap.size w wr) /\ Hid (Below wp.heap.size wp wr)) (fun i _ => d.cons.length - (intOf i).toNat)
        case atStart => exact ⟨0, rfl, Nat.zero_le _, HB, HP⟩
        case round =>
         clear HB HP; obtain ⟨j, rfl, hj, HB, HP⟩ := hrel; by_cases hjl : j < d.cons.length
         . obtain ⟨cn, hcn⟩ : ∃ c, d.cons[j]? = some c := ⟨_, List.getElem?_eq_getElem hjl⟩
           have hcm : cn ∈ d.cons := List.mem_of_getElem? hcn
           rcases HCN.out with ⟨h0, _⟩ | ⟨g, o, c', hv, e1, e2, e3⟩
           . rw [h0] at hjl; simp at hjl
           injection hv with qa _ qb
           subst qa; subst qb
           obtain ⟨u, hu, hsz, hc⟩ := e3 j cn hcn; obtain ⟨yp, ys, qf, cf, rfl, hflds⟩ := con3 hu; have hcell : ∀ jj z, (Value.agg #[.int .i64 yp, .string ys, .slice qf cn.fields.length cf]).cells[jj]? = some z -> wr.cell? ⟨g, o + j * 3 + jj, none⟩ = some z := fun jj z hz => (HP.out.cell (World.block_lt_of_cell? _ _ (hc jj z hz))).trans (hc jj z hz)
           have x0 : wr.cell? ⟨g, o + j * 3, none⟩ = some (.int .i64 yp) := hcell 0 _ rfl; have x1 : wr.cell? ⟨g, o + j * 3 + 1, none⟩ = some (.string ys) := hcell 1 _ rfl; have x2 : wr.cell? ⟨g, o + j * 3 + 2, none⟩ = some (.slice qf cn.fields.length cf) := hcell 2 _ rfl; have u1 : (j : Int) < (d.cons.length : Int) := by omega
           have u2 : (d.cons.length : Int) <= (ce : Int) := by omega
           have u3 := e2; have HFL := hid hflds; clear hu hflds hsz hc hcell e1 e2 e3 hcn; go_upto_region 14 with fail
           have EX := hid (jA3 wr #[.int .i64 yp, .string ys, .slice qf cn.fields.length cf] 40); have hbx := jC9 wr (.cells #[.int .i64 yp, .string ys, .slice qf cn.fields.length cf] 40); have HBW := bT HB hbx; have HPW := bT HP hbx; clear hbx HB HP x0 x1 x2; generalize hq : wr.heap.size = N at *; generalize wr.alloc (.cells #[.int .i64 yp, .string ys, .slice qf cn.fields.length cf] 40) = W1 at *; clear hq; have y2 := jA EX.out 2 _ rfl; go_wp2_with fail; clear y2 EX; generalize W1 = wy at *
           go_loopw [53] (fun i wr => ∃ m : Nat, i = .int .i64 m /\ m <= cn.fields.length /\ Hid (Below w.heap.size w wr) /\ Hid (Below wp.heap.size wp wr)) (fun i _ => cn.fields.length - (intOf i).toNat)
           case atStart => exact ⟨0, rfl, Nat.zero_le _, HBW, HPW⟩
           case round =>
            clear HBW HPW; obtain ⟨m, rfl, hm, HB, HP⟩ := hrel; by_cases hml : m < cn.fields.length
            . obtain ⟨t, ht⟩ : ∃ t, cn.fields[m]? = some t := ⟨_, List.getElem?_eq_getElem hml⟩
              have htm : t ∈ cn.fields := List.mem_of_getElem? ht; have hnt : Px.nmT 50 t := ((HN.out.1 d hmem).2.2 cn hcm).2 t htm; have hl1 : (Px.jBE 50 t).length <= (Px.jDT 50 cn).length := jB7 (List.mem_cons_of_mem _ (List.mem_map_of_mem htm)); have hl2 : (Px.jDT 50 cn).length <= (Px.jC5 50 d).length := jB7 (List.mem_cons_of_mem _ (List.mem_cons_of_mem _ (List.mem_cons_of_mem _ (List.mem_map_of_mem hcm)))); have hlt3 : (Px.jBE 50 t).length <= 800000 := by have := HSZ.out; omega
              clear hl1 hl2
              rcases HFL.out with ⟨h0, _⟩ | ⟨g, o, c', hv, e1, e2, e3⟩
              . rw [h0] at hml; simp at hml
              injection hv with qa _ qb
              subst qa; subst qb
              obtain ⟨u, hu, hsz, hc⟩ := e3 m t ht; obtain ⟨xp, xs, qg, ng, cg, rfl⟩ := jFE 50 _ _ _ hu; have hcell : ∀ jj z, (Value.agg #[.int .i64 xp, .string xs, .slice qg ng cg]).cells[jj]? = some z -> wr.cell? ⟨g, o + m * 3 + jj, none⟩ = some z := fun jj z hz => (HP.out.cell (World.block_lt_of_cell? _ _ (hc jj z hz))).trans (hc jj z hz)
              have x0 : wr.cell? ⟨g, o + m * 3, none⟩ = some (.int .i64 xp) := hcell 0 _ rfl; have x1 : wr.cell? ⟨g, o + m * 3 + 1, none⟩ = some (.string xs) := hcell 1 _ rfl; have x2 : wr.cell? ⟨g, o + m * 3 + 2, none⟩ = some (.slice qg ng cg) := hcell 2 _ rfl; have v1 : (m : Int) < (cn.fields.length : Int) := by omega
              have v2 : (cn.fields.length : Int) <= (cf : Int) := by omega
              have v3 := e2; have HU := hid hu; clear hu hsz hc hcell e1 e2 e3 ht; go_upto_region 17 with fail
              have EX := hid (jA3 wr #[.int .i64 xp, .string xs, .slice qg ng cg] 42); have hbx := jC9 wr (.cells #[.int .i64 xp, .string xs, .slice qg ng cg] 42); have HBW := bT HB hbx; have HPW := bT HP hbx; have HE := hid (jCK HU.out HPW.out); clear hbx HB HP HU x0 x1 x2; generalize hq : wr.heap.size = N at *; generalize wr.alloc (.cells #[.int .i64 xp, .string xs, .slice qg ng cg] 42) = W1 at *; clear hq; have x0 := jA EX.out 0 _ rfl; have x1 := jA EX.out 1 _ rfl; have x2 := jA EX.out 2 _ rfl; refine wp_region_held_drew (S := fun (u : World) => Below W1.heap.size W1 u) (by kernel_rfl) (show Below W1.heap.size W1 W1.drew from (Below.refl _ _).drew) (fun hHeld => ?_); refine wT 0 (.agg #[.int .i64 xp, .string xs, .slice qg ng cg]) rfl (Or.inl ⟨by rfl, fun w' hSw => by have hq : Below W1.heap.size W1 w' := hSw; have z0 := (hq.cell (World.block_lt_of_cell? W1 _ x0)).trans x0; have z1 := (hq.cell (World.block_lt_of_cell? W1 _ x1)).trans x1; have z2 := (hq.cell (World.block_lt_of_cell? W1 _ x2)).trans x2; clear x0 x1 x2; go_simp⟩) hHeld ?_; refine wT 2 (.agg #[.int .i64 xp, .string xs, .slice qg ng cg]) rfl (Or.inl ⟨by rfl, fun w' hSw => by have hq : Below W1.heap.size W1 w' := hSw; have z0 := (hq.cell (World.block_lt_of_cell? W1 _ x0)).trans x0; have z1 := (hq.cell (World.block_lt_of_cell? W1 _ x1)).trans x1; have z2 := (hq.cell (World.block_lt_of_cell? W1 _ x2)).trans x2; clear x0 x1 x2; go_simp⟩) hHeld ?_; simp only [Act.put, jPC, jPD, jPE, jPF, jPG, jPH]; clear x0 x1 x2; have hd : Below W1.heap.size W1 W1.drew := (Below.refl _ _).drew; have HD := hid hd; clear hd; generalize W1.drew = w4 at HD hHeld ⊢; refine wR 1 rfl (fun K hK => ?_); go_simp; refine (jO8 50 w4 (HTB.out _ (HBW.out.trans (HD.out.mono HBW.out.size))) _ t (jCK HE.out HD.out) hnt hlt3).mono ?_; rintro e w5 ⟨rfl, hb5⟩; have HD5 := bT HD hb5; clear hb5; refine hK.out _ _ HD5.out (fun hHeld => ?_); clear hK K
              refine wR 3 rfl (fun K hK => ?_); go_simp; refine (_root_.Go.Proofs.YtnhndamfbeiljaaGreatDoor.jGG 50 _ t w5 (jCK HE.out HD5.out) hlt3).mono ?_; rintro e w6 ⟨rfl, hb6⟩; have HD6 := bT HD5 hb6; clear hb6; refine hK.out _ _ HD6.out (fun hHeld => ?_); clear hK K
              generalize Px.jBE 50 t = TX at *; refine wR 4 rfl (fun K hK => ?_); go_simp; refine hK.out _ _ HD6.out (fun hHeld => ?_); clear hK K
              refine wpAnyH_done (by kernel_rfl) ?_ _; have HB2 := hid (HBW.out.trans (HD6.out.mono HBW.out.size)); have HP2 := hid (HPW.out.trans (HD6.out.mono HPW.out.size)); go_wp2_with fail; exact ⟨⟨m + 1, by go_num, by omega, HB2, HP2⟩, by simp [intOf]; omega⟩
            . obtain rfl : m = cn.fields.length := by omega
              have hlt0 : ¬ ((cn.fields.length : Int) < (cn.fields.length : Int)) := by omega
              go_wp2_with fail; exact ⟨⟨j + 1, by go_num, by omega, HB, HP⟩, by simp [intOf]; omega⟩
         . obtain rfl : j = d.cons.length := by omega
           have hlt0 : ¬ ((d.cons.length : Int) < (d.cons.length : Int)) := by omega
           go_wp2_with fail; exact ⟨⟨k + 1, _, by go_num, by omega, rfl, HS2, HB, HP⟩, by simp [intOf]; omega⟩
      . obtain rfl : k = q.datas.length := by omega
        have hlt0 : ¬ ((q.datas.length : Int) < (q.datas.length : Int)) := by omega
        have HSD := hid (show S = jBN q.datas by have := HS.out; rwa [List.take_length] at this); have y1 := (HP.out.cell (World.block_lt_of_cell? wp _ (jA EP.out 1 _ rfl))).trans (jA EP.out 1 _ rfl); clear hlt HS; go_wp2_with fail; clear y1 hlt0; obtain ⟨wa, hwa⟩ : ∃ x, x = wr := ⟨wr, rfl⟩
        subst hwa
        go_loopw [6, 68] (fun sv i wr => ∃ (k : Nat) (Z : List UInt8), i = .int .i64 k /\ k <= q.defs.length /\ sv = .string ⟨Z.toArray⟩ /\ Hid (Z = jBN q.datas ++ jCD (q.defs.take k)) /\ Hid (Below w.heap.size w wr) /\ Hid (Below wp.heap.size wp wr)) (fun _ i _ => q.defs.length - (intOf i).toNat)
        case atStart => exact ⟨0, S, rfl, Nat.zero_le _, rfl, hid (by rw [HSD.out]; simp [jCD]), HB, HP⟩
        case round =>
         clear HB HP HSD; obtain ⟨k, S, rfl, hk, rfl, HS, HB, HP⟩ := hrel; by_cases hlt : k < q.defs.length
         . obtain ⟨d, hd⟩ : ∃ d, q.defs[k]? = some d := ⟨_, List.getElem?_eq_getElem hlt⟩
           have hmem : d ∈ q.defs := List.mem_of_getElem? hd; have HT := hid (jJ3 hd); have hle1 := jLH q.defs (k + 1)
           have HSZ := hid (show S.length + (Px.jCL 50 d).length + 1 <= 102400 by
            have h1 := HL.out; rw [HT.out] at hle1; rw [HS.out]
            simp only [List.length_append, List.length_cons, List.length_nil] at hle1 h1 ⊢; omega)
           rcases HF0.out with ⟨h0, _⟩ | ⟨g, o, c', hv, e1, e2, e3⟩
           . rw [h0] at hlt; simp at hlt
           injection hv with qa _ qb
           subst qa; subst qb
           obtain ⟨u, hu, hsz, hc⟩ := e3 k d hd; obtain ⟨zp, zs, qd, nd, cd, zk, zx, zi, zt, qe, ne, ce, qf, nf, cf, qg, ng, cg, rfl, hbody⟩ := def10 hu; have hcell : ∀ jj z, (Value.agg #[.int .i64 zp, .string zs, .slice qd nd cd, .int .i64 zk, .int .i64 zx, .string zt, .int .i64 zi, .slice qe ne ce, .slice qf nf cf, .slice qg ng cg]).cells[jj]? = some z -> wr.cell? ⟨g, o + k * 10 + jj, none⟩ = some z := fun jj z hz => (HP.out.cell (World.block_lt_of_cell? _ _ (hc jj z hz))).trans (hc jj z hz)
           have x0 : wr.cell? ⟨g, o + k * 10, none⟩ = some (.int .i64 zp) := hcell 0 _ rfl; have x1 : wr.cell? ⟨g, o + k * 10 + 1, none⟩ = some (.string zs) := hcell 1 _ rfl; have x2 : wr.cell? ⟨g, o + k * 10 + 2, none⟩ = some (.slice qd nd cd) := hcell 2 _ rfl; have x3 : wr.cell? ⟨g, o + k * 10 + 3, none⟩ = some (.int .i64 zk) := hcell 3 _ rfl; have x4 : wr.cell? ⟨g, o + k * 10 + 4, none⟩ = some (.int .i64 zx) := hcell 4 _ rfl; have x5 : wr.cell? ⟨g, o + k * 10 + 5, none⟩ = some (.string zt) := hcell 5 _ rfl; have x6 : wr.cell? ⟨g, o + k * 10 + 6, none⟩ = some (.int .i64 zi) := hcell 6 _ rfl; have x7 : wr.cell? ⟨g, o + k * 10 + 7, none⟩ = some (.slice qe ne ce) := hcell 7 _ rfl; have x8 : wr.cell? ⟨g, o + k * 10 + 8, none⟩ = some (.slice qf nf cf) := hcell 8 _ rfl; have x9 : wr.cell? ⟨g, o + k * 10 + 9, none⟩ = some (.slice qg ng cg) := hcell 9 _ rfl; have t1 : (k : Int) < (q.defs.length : Int) := by omega
           have t2 : (q.defs.length : Int) <= (c2 : Int) := by omega
           have t3 := e2; have HU := hid hu; have HBD := hid hbody; clear hu hbody hsz hc hcell e1 e2 e3 hd hle1; go_upto_region 25 with fail
           have EX := hid (jA3 wr #[.int .i64 zp, .string zs, .slice qd nd cd, .int .i64 zk, .int .i64 zx, .string zt, .int .i64 zi, .slice qe ne ce, .slice qf nf cf, .slice qg ng cg] 49); have hbx := jC9 wr (.cells #[.int .i64 zp, .string zs, .slice qd nd cd, .int .i64 zk, .int .i64 zx, .string zt, .int .i64 zi, .slice qe ne ce, .slice qf nf cf, .slice qg ng cg] 49); have HBW := bT HB hbx; have HPW := bT HP hbx; have HD1 := hid (defK HU.out HPW.out); have HE := hid (jFQ HBD.out HPW.out); clear hbx HB HP HU HBD x0 x1 x2 x3 x4 x5 x6 x7 x8 x9; generalize hq : wr.heap.size = N at *; generalize wr.alloc (.cells #[.int .i64 zp, .string zs, .slice qd nd cd, .int .i64 zk, .int .i64 zx, .string zt, .int .i64 zi, .slice qe ne ce, .slice qf nf cf, .slice qg ng cg] 49) = W1 at *; clear hq; have y0 := jA EX.out 0 _ rfl; have y1 := jA EX.out 1 _ rfl; have y2 := jA EX.out 2 _ rfl; have y3 := jA EX.out 3 _ rfl; have y4 := jA EX.out 4 _ rfl; have y5 := jA EX.out 5 _ rfl; have y6 := jA EX.out 6 _ rfl; have y7 := jA EX.out 7 _ rfl; have y8 := jA EX.out 8 _ rfl; have y9 := jA EX.out 9 _ rfl; go_wp2_with fail; refine (showDef2 W1 (HTB.out _ HBW.out) _ d HD1.out (HG.out d hmem) (HN.out.2 d hmem) (by have := HSZ.out; omega)).mono ?_; rintro e W2 ⟨rfl, hb2⟩
           have hle : (Px.jAE 50 d.body).length <= 800000 := by
            have h1 : (Px.jAE 50 d.body).length <= (Px.jCL 50 d).length := jB7 (by simp); have := HSZ.out; omega
           have HBW := bT HBW hb2; have HPW := bT HPW hb2; have EX := hid (jA0 EX.out hb2); have HE := hid (jFQ HE.out hb2); clear hb2 HD1 y0 y1 y2 y3 y4 y5 y6 y7 y8 y9; obtain ⟨X, hX⟩ : ∃ X, X = Px.jCL 50 d := ⟨_, rfl⟩
           rw [<- hX]; have HX := hid hX; clear hX; have s1 := fun v : World => jCO (w := v) X [10] (by have := HSZ.out; rw [<- HX.out] at this; simp only [List.length_append, List.length_cons, List.length_nil]; omega)
           have s2 := fun v : World => jCO (w := v) S (X ++ [10]) (by have := HSZ.out; rw [<- HX.out] at this; simp only [List.length_append, List.length_cons, List.length_nil]; omega)
           have HS2 := hid (show S ++ (X ++ [10]) = jBN q.datas ++ jCD (q.defs.take (k + 1)) by rw [HT.out, HS.out, <- HX.out]; simp only [List.append_assoc]); go_upto_region 26 with fail
           clear s1 s2; generalize W2 = W1 at *; have x0 := jA EX.out 0 _ rfl; have x1 := jA EX.out 1 _ rfl; have x2 := jA EX.out 2 _ rfl; have x3 := jA EX.out 3 _ rfl; have x4 := jA EX.out 4 _ rfl; have x5 := jA EX.out 5 _ rfl; have x6 := jA EX.out 6 _ rfl; have x7 := jA EX.out 7 _ rfl; have x8 := jA EX.out 8 _ rfl; have x9 := jA EX.out 9 _ rfl; refine wp_region_held_drew (S := fun (u : World) => Below W1.heap.size W1 u) (by kernel_rfl) (show Below W1.heap.size W1 W1.drew from (Below.refl _ _).drew) (fun hHeld => ?_); refine wT 0 (.pointer (some ⟨N, 3, none⟩)) rfl (Or.inl ⟨by rfl, fun w' hSw => by go_simp⟩) hHeld ?_; refine wT 1 (.agg #[.int .i64 zk, .int .i64 zx, .string zt, .int .i64 zi, .slice qe ne ce, .slice qf nf cf, .slice qg ng cg]) rfl (Or.inl ⟨by rfl, fun w' hSw => by have hq : Below W1.heap.size W1 w' := hSw; have z3 := (hq.cell (World.block_lt_of_cell? W1 _ x3)).trans x3; have z4 := (hq.cell (World.block_lt_of_cell? W1 _ x4)).trans x4; have z5 := (hq.cell (World.block_lt_of_cell? W1 _ x5)).trans x5; have z6 := (hq.cell (World.block_lt_of_cell? W1 _ x6)).trans x6; have z7 := (hq.cell (World.block_lt_of_cell? W1 _ x7)).trans x7; have z8 := (hq.cell (World.block_lt_of_cell? W1 _ x8)).trans x8; have z9 := (hq.cell (World.block_lt_of_cell? W1 _ x9)).trans x9; clear x0 x1 x2 x3 x4 x5 x6 x7 x8 x9; go_simp⟩) hHeld ?_; refine wT 3 (.pointer (some ⟨N, 3, none⟩)) rfl (Or.inl ⟨by rfl, fun w' hSw => by go_simp⟩) hHeld ?_; refine wT 4 (.agg #[.int .i64 zk, .int .i64 zx, .string zt, .int .i64 zi, .slice qe ne ce, .slice qf nf cf, .slice qg ng cg]) rfl (Or.inl ⟨by rfl, fun w' hSw => by have hq : Below W1.heap.size W1 w' := hSw; have z3 := (hq.cell (World.block_lt_of_cell? W1 _ x3)).trans x3; have z4 := (hq.cell (World.block_lt_of_cell? W1 _ x4)).trans x4; have z5 := (hq.cell (World.block_lt_of_cell? W1 _ x5)).trans x5; have z6 := (hq.cell (World.block_lt_of_cell? W1 _ x6)).trans x6; have z7 := (hq.cell (World.block_lt_of_cell? W1 _ x7)).trans x7; have z8 := (hq.cell (World.block_lt_of_cell? W1 _ x8)).trans x8; have z9 := (hq.cell (World.block_lt_of_cell? W1 _ x9)).trans x9; clear x0 x1 x2 x3 x4 x5 x6 x7 x8 x9; go_simp⟩) hHeld ?_; simp only [Act.put, jPC, jPD, jPE, jPF, jPG, jPH]; have hd : Below W1.heap.size W1 W1.drew := (Below.refl _ _).drew; have HD := hid hd; clear hd; generalize W1.drew = w4 at HD hHeld ⊢; refine wR 2 rfl (fun K hK => ?_); go_simp; refine (jO9 50 w4 (HTB.out _ (HBW.out.trans (HD.out.mono HBW.out.size))) _ d.body (jFQ HE.out HD.out) (HG.out d hmem) (HN.out.2 d hmem).2.2 hle).mono ?_; rintro e w5 ⟨rfl, hb5⟩; have HD5 := bT HD hb5; clear hb5; refine hK.out _ _ HD5.out (fun hHeld => ?_); clear hK K
           refine wR 5 rfl (fun K hK => ?_); go_simp; refine (jKY 50 _ d.body w5 (jFQ HE.out HD5.out) (HG.out d hmem) hle (HTB.out _ (HBW.out.trans (HD5.out.mono HBW.out.size)))).mono ?_; rintro e w6 ⟨rfl, hb6⟩; have HD6 := bT HD5 hb6; clear hb6; refine hK.out _ _ HD6.out (fun hHeld => ?_); clear hK K
           have HLE := hid hle; clear hle; obtain ⟨TX, hTX⟩ : ∃ T, T = Px.jAE 50 d.body := ⟨_, rfl⟩
           rw [<- hTX]; clear hTX; refine wR 6 rfl (fun K hK => ?_); go_simp; refine hK.out _ _ HD6.out (fun hHeld => ?_); clear hK K
           refine wR 7 rfl (fun K hK => ?_); go_simp; refine hK.out _ _ HD6.out (fun hHeld => ?_); clear hK K
           refine wR 8 rfl (fun K hK => ?_); go_simp; refine hK.out _ _ HD6.out (fun hHeld => ?_); clear hK K
           refine wR 9 rfl (fun K hK => ?_); go_simp; have z3 := (HD6.out.cell (World.block_lt_of_cell? W1 _ x3)).trans x3; have z4 := (HD6.out.cell (World.block_lt_of_cell? W1 _ x4)).trans x4; have z5 := (HD6.out.cell (World.block_lt_of_cell? W1 _ x5)).trans x5; have z6 := (HD6.out.cell (World.block_lt_of_cell? W1 _ x6)).trans x6; have z7 := (HD6.out.cell (World.block_lt_of_cell? W1 _ x7)).trans x7; have z8 := (HD6.out.cell (World.block_lt_of_cell? W1 _ x8)).trans x8; have z9 := (HD6.out.cell (World.block_lt_of_cell? W1 _ x9)).trans x9; go_simp; refine hK.out _ _ HD6.out (fun hHeld => ?_); clear hK K
           clear z3 z4 z5 z6 z7 z8 z9; refine wR 10 rfl (fun K hK => ?_); go_simp; refine (pats_any 50 d.body _ w6 (jFQ HE.out HD6.out) (HG.out d hmem) (HN.out.2 d hmem).2.2 HLE.out (HTB.out _ (HBW.out.trans (HD6.out.mono HBW.out.size)))).mono ?_; rintro e w7 ⟨rfl, hb7⟩; have HD7 := bT HD6 hb7; clear hb7; refine hK.out _ _ HD7.out (fun hHeld => ?_); clear hK K
           refine wR 11 rfl (fun K hK => ?_); go_simp; refine hK.out _ _ HD7.out (fun hHeld => ?_); clear hK K
           refine wR 12 rfl (fun K hK => ?_); go_simp; refine hK.out _ _ HD7.out (fun hHeld => ?_); clear hK K
           refine wpAnyH_done (by kernel_rfl) ?_ _; have HB2 := hid (HBW.out.trans (HD7.out.mono HBW.out.size)); have HP2 := hid (HPW.out.trans (HD7.out.mono HPW.out.size)); go_wp2_with fail; exact ⟨⟨k + 1, _, by go_num, by omega, rfl, HS2, HB2, HP2⟩, by simp [intOf]; omega⟩
         . obtain rfl : k = q.defs.length := by omega
           have hlt0 : ¬ ((q.defs.length : Int) < (q.defs.length : Int)) := by omega
           have HSA := hid (show S = Px.jC0 50 q by have := HS.out; rw [List.take_length] at this; rw [jE7]; exact this); have y0 := (HP.out.cell (World.block_lt_of_cell? wp _ (jA EP.out 0 _ rfl))).trans (jA EP.out 0 _ rfl); have y1 := (HP.out.cell (World.block_lt_of_cell? wp _ (jA EP.out 1 _ rfl))).trans (jA EP.out 1 _ rfl); have hlp : (Px.jC0 50 q).length <= 800000 := by have := HL.out; rw [jE7]; omega
           have HC := hid (jJU 50 _ q wr (progK HPR.out HP.out) HG.out hlp (HTB.out _ HB.out)); rw [<- HSA.out] at HC; clear hlp hlt HS; go_wp2_with fail; refine HC.out.mono ?_; rintro e W2 ⟨rfl, hb2⟩; go_wp2_with fail; go_ret; exact ⟨by simp, HB.out.trans (hb2.mono HB.out.size)⟩
end Sw
open Sw
theorem jIT (w : World) (a0 : Option Addr) (len0 cap0 : Nat) (z0 : List Int) (w0 : IsRow .u8 w a0 len0 cap0 z0) (hL : laidMetH Tryz.prog jID w) :
 Calls Tryz.prog 4 #[.slice a0 len0 cap0] w fun e w' => e = .returned (.bool true) /\ Below w.heap.size w w' := by
 obtain ⟨_, t0, l0, _⟩ := row_src w0; exact jHW a0 len0 cap0 _ w t0 l0 (jOI hL)
end Go.Proofs.YtnhndamfbeiljaaGreatDoor
