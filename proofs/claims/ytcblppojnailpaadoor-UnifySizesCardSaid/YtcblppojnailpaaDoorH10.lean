/-
  Several texts in one: USizS, UOwn, UJoin.
-/
import Derived.Test.YtcblppojnailpaaDoorH09
import Derived.Test.YtcblppojnailpaaDoorH06
import Derived.Test.YtcblppojnailpaaDoorH08
import Derived.BigRegion
namespace Go.Proofs.YtcblppojnailpaaDoor
open Go Go.RowKit
set_option linter.unusedVariables false
set_option linter.unusedSimpArgs false
namespace Ux
/-- What stands for all made one with it stands for nothing still. -/
theorem told_root {f f' : Map} {g : Gr} (hg : GInv f g) (ht : Tells f g f') {i n : Nat} (hi : i < g.n) (hD : g.D (g.rep i) = .v n) : f' n = none := by
 have h6 : f n = none := hg.free (g.rep i) (hg.rlt i hi) n hD
 cases h : f' n with
 | none => rfl
 | some t =>
   rcases ht.only n t h with h8 | ⟨j, hj, h8, h9, _⟩
   · rw [h6] at h8; cases h8
   · have := hg.uniq j (g.rep i) hj (hg.rlt i hi) n h8 hD
     subst this
     exact absurd (hg.rr i hi) h9
/-- What each part comes to is what what is told makes of it. -/
theorem term_norm {f f' : Map} {g : Gr} {rk : Nat → Nat} (hg : GInv f g) (hc : Cong g []) (hr : Ranked g rk) {K : Nat} (hK : ∀ i, i < g.n → rk (g.rep i) < K) (ht : Tells f g f') {N : Sub} (hN : Norm f' N) {i : Nat} (hi : i < g.n) : (g.D i).app N = termN g K i :=
 term_app hg hr hK (tells_one hg hc hr ht hN.sol) (fun i hi n hD => by rw [hN n, told_root hg ht hi hD]) _ i (Nat.le_refl _) hi
end Ux
theorem own_nums {w : World} {lo n : Nat} {v : Value} {L : List Nat} (h : w.ownsRow lo 3 1 v n (nums L)) (hn : n = L.length) (hp : 0 < n) :
 ∃ (b cp : Nat) (cur : Array Value), v = .slice (some ⟨b, 0, none⟩) L.length cp ∧ lo ≤ b ∧ w.heap[b]? = some (.cells cur 3 (0, 0)) ∧ (∀ (k x : Nat), L[k]? = some x → cur[k]? = some (Value.int .i64 (x : Int))) ∧ L.length ≤ cp ∧ (cp : Int) ≤ 9223372036854775807 := by
 subst hn
 obtain ⟨p, c, rfl⟩ := own_slice h
 obtain ⟨g, cur, rfl, h1, h2, h3, h4, h5, h6⟩ := own_open h hp
 refine ⟨g, c, cur, rfl, h1, h5, fun k x hx => h6 k _ ?_, h3, h4⟩
 unfold nums
 rw [List.getElem?_map, hx]; rfl
set_option maxHeartbeats 4000000 in
set_option maxRecDepth 100000 in
theorem sSize_any (f : Ux.Map) (hf : Ux.Fine f) (N : Ux.Sub) (hN : Ux.Norm f N) (sb : Nat) (Us : List LKey) (t : Ux.Ty) (v : Value) (most : Nat) (w : World) (hs : SubAt (· ∈ Us) w sb f) (hus : ∀ x ∈ Us, x.1 < w.heap.size ∧ x.1 ≠ sb) (hd : ∀ n, f n ≠ none → n < 1000000) (ht : TyQ (· ∈ Us) w v t) (hfew : llen Us ≤ 100000) (hm : most ≤ 1000000) :
 Calls Tryd.prog 26 #[.map (some sb), v, .int .i64 (most : Int)] w (fun e w' => e = .returned (.int .i64 ((min (t.app N).sz (most + 1) : Nat) : Int)) ∧ Below w.heap.size w w') := by
 obtain ⟨ka, sa, qa, ma, ca, rfl⟩ := tyQ_sh ht
 have HS := Lib.hid hs; have HUS := Lib.hid hus; have HT := Lib.hid ht; have HFEW := Lib.hid hfew; have HD := Lib.hid hd; have HN := Lib.hid hN; have HF := Lib.hid hf
 clear hs hus ht hfew hd hN hf
 go_enter Tryd.func26, Tryd.ntmps26
 have HB1 := Lib.hid (show Below w.heap.size w (w.alloc (.cells #[.int .i64 ka, .string sa, .slice qa ma ca] 30)) from (Below.refl _ _).alloc (Nat.le_refl _) _)
 have EA := Lib.hid (ent_new w #[.int .i64 ka, .string sa, .slice qa ma ca] 30)
 go_upto_region 1 with fail
 generalize (w.alloc (.cells #[.int .i64 ka, .string sa, .slice qa ma ca] 30)) = w1 at EA HB1 ⊢
 have hsl : sb < w.heap.size := by obtain ⟨L, h1, _⟩ := HS.out; exact h1.lt
 have hs1 := HS.out.keep (HB1.out.block _ hsl) fun x hx => HB1.out.block _ (HUS.out x hx).1
 have HSL := Lib.hid hsl
 clear hsl
 have hgc := graph_any (· ∈ Us) f sb w1 hs1 (fun x hx => by have := (HUS.out x hx).1; have := HB1.out.size; omega) HD.out
 have HGCL := Lib.hid hgc
 clear hs1 hgc
 go_wp2_with fail
 refine HGCL.out.mono ?_
 rintro e w2 ⟨fc, fb, sc, vb, lb, gb, rfl, hb2, hraw⟩
 have HB2 := Lib.hid hb2
 have HB12 := Lib.hid (HB1.out.trans (hb2.mono HB1.out.size))
 have hl := hraw.low
 have hgst := hraw.gst HF.out HFEW.out (fun x hx => by have := (HUS.out x hx).1; have := HB1.out.size; omega) hraw.apart
 obtain ⟨C, hCe⟩ : ∃ C : GCx, C = ⟨w2.heap.size, 0, 0, 0, gb, vb, lb, fc, fb, sc, sb, Us, f⟩ := ⟨_, rfl⟩
 rw [← hCe] at hgst
 have hCf : C.gb = gb ∧ C.vb = vb ∧ C.lb = lb ∧ C.fb = fb ∧ C.U = Us ∧ C.f = f ∧ C.y0 = w2.heap.size := by rw [hCe]; exact ⟨rfl, rfl, rfl, rfl, rfl, rfl, rfl⟩
 have HCF := Lib.hid hCf
 have HOK := Lib.hid hgst.1
 have HG2 := Lib.hid hgst.2.1
 have HLO := Lib.hid hgst.2.2
 have HLW := Lib.hid hl
 have y0 := ent_cell (ent_below EA.out hb2) 0 _ rfl
 have y1 := ent_cell (ent_below EA.out hb2) 1 _ rfl
 have y2 := ent_cell (ent_below EA.out hb2) 2 _ rfl
 have hnum := number_any C HOK.out 0 (by omega) [] (fun _ => none) id (.slice none 0 0) (.agg #[.int .i64 ka, .string sa, .slice qa ma ca]) t w2 HG2.out (by rw [HCF.out.2.2.2.2.1]; exact tyQ_keep HT.out fun x hx => HB12.out.block _ (HUS.out x hx).1)
 rw [HCF.out.1] at hnum
 have HNUM := Lib.hid hnum
 clear hb2 hraw hl hgst hCf hCe hnum
 go_wp2_with fail
 refine HNUM.out.mono ?_
 clear y0 y1 y2
 rintro e w3 ⟨i, ps1, pv1, rfl, g3, ch3, l3, ⟨p1, hp1, hD1⟩, hps3⟩
 rcases hps3 with rfl | ⟨p, rfl, rfl, c1, c2⟩
 · simp at hp1
 have hg3 := g3.slack (e' := 2) (by omega)
 have hin := inside_any C HOK.out HLO.out ([] : List Prt).length ([] : List Prt).length ([] : List Prt).length ([] ++ [p]) (fun _ => none) id pv1 w3 hg3 (by simp) (fun x hx => by
  have hx' : x < ([] ++ [p]).length := hx
  simp at hx'; exact .inl (by simp; omega)) (fun q hq => by simp at hq; rw [hq]; exact c2)
 rw [HCF.out.1] at hin
 have HIN := Lib.hid hin
 have HNK := Lib.hid (show Chg (GKeep C (.slice none 0 0)) w2 w3 from ch3.mono fun b _ hb => hb.gk)
 have HL3 := Lib.hid l3
 have HD1 := Lib.hid (show ((mkGr ([] ++ [p]) (fun _ => none) id).D ([] : List Prt).length).app N = t.app N by rw [(gr_at hp1).1]; exact NumOf.sol (f := C.f) hD1 (by rw [HCF.out.2.2.2.2.2.1]; exact HN.out.sol))
 clear g3 ch3 l3 hp1 hD1 c1 c2 hg3 hin
 go_wp2_with fail
 refine HIN.out.mono ?_
 rintro e w4 ⟨z, ps, kl, pv, L, W, lv, wv, him, hres⟩
 have HIM := Lib.hid him
 have HW4 := Lib.hid (gk_trans HNK.out HL3.out him.chg)
 have hlow : C.gb < w2.heap.size ∧ C.vb < w2.heap.size ∧ C.lb < w2.heap.size ∧ C.fb < w2.heap.size := by
  have h1 := HOK.out.low; have h2 := HCF.out; omega
 have hge : w.heap.size ≤ C.gb ∧ w.heap.size ≤ C.vb ∧ w.heap.size ≤ C.lb ∧ w.heap.size ≤ C.fb := by
  have h1 := HLW.out; have h2 := HCF.out; have h3 := HB1.out.size; omega
 have HGE := Lib.hid hge
 have HLC := Lib.hid hlow
 clear him hlow hge HIN
 have hrid : ∀ i, (mkGr ps kl id).rep i = i := fun _ => rfl
 rcases hres with ⟨rfl, hin8⟩ | ⟨rfl, hgrow, hno⟩
 rotate_left
 · exfalso
   refine hno N ⟨?_, fun _ _ => rfl⟩
   rw [HCF.out.2.2.2.2.2.1]; exact HN.out.sol
 have HINS := Lib.hid hin8
 clear hin8
 have hcong : Ux.Cong (mkGr ps kl id) [] := fun i _ hne => absurd rfl hne
 have hrk := HINS.out.ranked HIM.out.gst hcong rfl rfl
 obtain ⟨K, hK⟩ := HIM.out.gst.bound hrk
 have hs0 : ([] : List Prt).length ∈ L := by simpa using HINS.out.start
 have h0l : ([] : List Prt).length < ps.length := Nat.lt_of_lt_of_le (by simp) HINS.out.grow.len
 have hall : ∀ x ∈ L, _ := fun x hx => Rch.sz HIM.out.gst hrk hK (HINS.out.rch x (List.mem_append.2 (.inl hx))) h0l rfl
 obtain ⟨L0, hL0⟩ := last_is (by simpa using HINS.out.nd) hs0 fun x hx => (hall x hx).2.2
 obtain ⟨b, cp, cur, rfl, hb1, hb2, hb3, hb4, hb5⟩ := own_nums HIM.out.lrow rfl (List.length_pos_of_mem hs0)
 have hsz := size_any (C.at z) (HOK.out.at HLO.out z) HLO.out ps kl id pv L L0 _ _ most b cp cur w4 HIM.out.gst (HIM.out.gst.szOk HINS.out.lok hrk hK) hL0 (fun x hx => (hall x hx).2.1)
  ⟨by show b ≠ C.gb; have := HLC.out; have := HNK.out.size; omega, by show b ≠ C.vb; have := HLC.out; have := HNK.out.size; omega, by show b ≠ C.lb; have := HLC.out; have := HNK.out.size; omega, by show b ≠ C.fb; have := HLC.out; have := HNK.out.size; omega⟩ hb2 hb3 ⟨hb4, hb5⟩ hm
 rw [show (C.at z).gb = C.gb from rfl, HCF.out.1] at hsz
 have hm0 : (Ux.termN (mkGr ps kl id) K ([] : List Prt).length).sz = (t.app N).sz := by
  have ht : Ux.Tells C.f (mkGr ps kl id) f := by
   rw [HCF.out.2.2.2.2.2.1]
   exact ⟨fun n t h => h, fun i _ n _ hne => absurd rfl hne, fun n t h => .inl h⟩
  rw [← Ux.term_norm (g := mkGr ps kl id) HIM.out.gst.inv hcong hrk hK ht HN.out h0l, HINS.out.grow.D (rep := id) (rep' := id) (by simp), HD1.out]
 rw [hm0] at hsz
 have HSZ := Lib.hid hsz
 have HW4' := Lib.hid (show Below w.heap.size w w4 from HB12.out.trans (HW4.out.below (B := w.heap.size) HB12.out.size fun k hk => by
  have := HGE.out
  rcases hk with hk | hk | hk | hk | hk
  · omega
  · omega
  · omega
  · omega
  · cases hk))
 have HLPV := Lib.hid (show ∀ g, pv.ownBlock = some g → w.heap.size ≤ g from fun g hg => by
  have h1 := HB12.out.size
  have h2 := HNK.out.size
  rcases HIM.out.loc with e | e
  · rw [e] at hg
    rcases HL3.out with e2 | e2
    · rw [e2] at hg; cases hg
    · have := e2 g hg; omega
  · have := e g hg; omega)
 clear hsz hm0 hb1 hb2 hb3 hb4 hb5 hL0 hall h0l hs0 hK hrk hcong hrid HIM HINS
 go_wp2_with fail
 refine HSZ.out.mono ?_
 rintro e w5 ⟨r, bb, Z, ps5, kl5, pv5, rfl, s1, s2, _, _, _, s3, _⟩
 have HW5 := Lib.hid (show Below w.heap.size w w5 from HW4'.out.trans (s3.below (B := w.heap.size) HW4'.out.size fun k hk => by
  have := HGE.out
  rcases hk with hk | hk | hk | hk | hk
  · have : k = C.gb := hk; omega
  · have : k = C.vb := hk; omega
  · have : k = C.lb := hk; omega
  · have : k = C.fb := hk; omega
  · exact HLPV.out k hk))
 clear s3
 cases bb with
 | true =>
   have h1 := s1 rfl
   have HR := Lib.hid (show r = min (t.app N).sz (most + 1) by rw [h1.2]; omega)
   clear s1 s2 h1
   go_wp2_with fail
   go_ret
   exact ⟨by rw [← HR.out]; rfl, HW5.out⟩
 | false =>
   have h1 := s2 rfl
   have HR := Lib.hid (show most + 1 = min (t.app N).sz (most + 1) by omega)
   clear s1 s2 h1
   have hmI : (most : Int) ≤ 1000000 := by omega
   go_wp2_with fail
   go_ret
   exact ⟨by rw [← HR.out]; rfl, HW5.out⟩
end Go.Proofs.YtcblppojnailpaaDoor
namespace Go.Proofs.YtcblppojnailpaaDoor
open Go Go.RowKit
set_option linter.unusedVariables false
set_option linter.unusedSimpArgs false
theorem lookC_var {Q : LKey → Prop} {L0 mb db : Nat} (h1 : mb < L0 ∧ db < L0) (hq : ∀ x, Q x → x.1 < L0 ∧ x.1 ≠ mb ∧ x.1 ≠ db) : LookC Q Ux.Ty.v L0 mb db (fun _ => False) 28 #[] (fun _ => True) := by
 refine ⟨enters_of Tryd.func28 (by kernel_rfl) rfl, fun w n _ _ => ?_, fun _ _ _ _ => trivial, (fun b hb => hb.elim), fun x hx => ⟨(hq x hx).1, (hq x hx).2.1, (hq x hx).2.2, fun h => h⟩, h1⟩
 show Calls Tryd.prog 28 #[.int .i64 (n : Int)] w _
 refine (var_any n w).mono ?_
 rintro e w' ⟨rfl, hb⟩
 exact ⟨_, .v n, rfl, rfl, tyQ_v.2 ⟨_, _, _, _, rfl⟩, trivial, .of_below hb⟩
/-- What joined's maker holds. -/
structure OwnM (Q : LKey → Prop) (mb db : Nat) (c : Asg) (n : Nat) (w : World) : Prop where
 mks : MkS Q Ux.Ty.v c mb db (.func (.func 28) #[] #[]) n w
 made : MkM c [] w
 old : ∀ B ys, c B = some ys → B < w.heap.size ∧ B ≠ mb ∧ B ≠ db
/-- A type is made anew: its lists are new ones, or such as were made before. -/
theorem ownTyp_any {Q : LKey → Prop} {mb db : Nat} {c0 : Asg} {n0 : Nat} {t : Ux.Ty} {v : Value} {w : World} (h : OwnM Q mb db c0 n0 w) (ht : TyQ Q w v t) (hd : mb < w.heap.size ∧ db < w.heap.size) (hq : ∀ x, Q x → x.1 < w.heap.size ∧ x.1 ≠ mb ∧ x.1 ≠ db) (hM : 2 * n0 + 2 * t.sz + 2 ≤ 100000000000) :
 Calls Tryd.prog 37 #[.pointer (some ⟨mb, 0, none⟩), v] w (fun e w' => ∃ r c n, e = .returned r ∧ OwnM Q mb db c n w' ∧ TyQ (fun x => ∃ ys, c x.1 = some ys) w' r t ∧ c0.le c ∧ (∀ B, c B ≠ none → c0 B = none → w.heap.size ≤ B) ∧ Chg (fun b => b = mb ∨ b = db) w w' ∧ n ≤ n0 + t.sz) := by
 have hid := Ux.app_id t
 refine (mkTyp_any Q Ux.Ty.v mb db (fun _ => False) 28 #[] (fun _ => True) c0 n0 t v w (lookC_var hd hq) trivial h.mks h.made (fun B ys hB => ⟨(h.old B ys hB).1, (h.old B ys hB).2.1, (h.old B ys hB).2.2, fun h => h⟩) ht (by rw [hid]; exact hM)).mono ?_
 rintro e w' ⟨r, c, n, rfl, hr, hw, hm, hn⟩
 rw [hid] at hr hn
 refine ⟨r, c, n, rfl, ⟨hw.mks, hm, fun B ys hB => ?_⟩, right_ty (fun B ys h => by have := hm B ys h; rw [posOf_nil] at this; exact this) _ _ hr, hw.le, fun B h1 h2 => by have := (hw.new B h1 h2).1; omega, hw.chg.mono fun k _ hk => by rcases hk with h | h | h; exact .inl h; exact .inr h; exact h.elim, hn⟩
 obtain ⟨cs, e, _⟩ := (hm B ys hB).ex
 refine ⟨ent_lt e, ?_⟩
 cases hc0 : c0 B with
 | some zs => exact (h.old B zs hc0).2
 | none =>
   have := (hw.new B (by rw [hB]; simp) hc0).1
   omega
end Go.Proofs.YtcblppojnailpaaDoor
namespace Go.Proofs.YtcblppojnailpaaDoor
open Go Go.RowKit
set_option linter.unusedVariables false
set_option linter.unusedSimpArgs false
set_option maxHeartbeats 4000000 in
set_option maxRecDepth 100000 in
theorem join_any {D0 : Ux.Ty} (c : GCx) (hC : c.Ok) (Goal : Ux.Sub → Prop) (i0 j0 : Nat) (ps0 : List Prt) (kl0 : LKey → Option (List Nat)) (rep0 : Nat → Nat) (pv0 : Value) (w : World) (h : GSt c 2 w ps0 kl0 rep0 pv0) (hi : i0 < ps0.length) (hj : j0 < ps0.length)
 (hcong : Ux.Cong (mkGr ps0 kl0 rep0) [(i0, j0)]) (hgoal : ∀ σ, (Ux.KS c.f (mkGr ps0 kl0 rep0) σ ∧ ((mkGr ps0 kl0 rep0).D i0).app σ = ((mkGr ps0 kl0 rep0).D j0).app σ) ↔ Goal σ) (hpar : Ux.Par (mkGr ps0 kl0 rep0) i0 j0) (hst : ∀ p ∈ ps0, p.st = 0) (hD0 : (mkGr ps0 kl0 rep0).D i0 = D0) :
 Calls Tryd.prog 49 #[.pointer (some ⟨c.gb, 0, none⟩), .int .i64 i0, .int .i64 j0] w (JoinPost D0 c Goal i0 j0 pv0 w) := by
 have hms : jmeas c ps0.length rep0 1 ≤ 30000000000 := by
  have h1 := hC.few
  have h2 := roots_le rep0 ps0.length
  have h3 : ps0.length ≤ 2 + llen c.U := by
   obtain ⟨ls, c1, c2, _, c4⟩ := h.cnt
   have := llen_sub c1 c2; omega
  unfold jmeas
  have h4 : 2 + llen c.U - ps0.length + roots rep0 ps0.length ≤ 2 + llen c.U := by omega
  have h5 := Nat.mul_le_mul_right (llen c.U + 2) h4
  have h6 : (2 + llen c.U) * (llen c.U + 2) ≤ 100002 * 100002 := Nat.mul_le_mul (by omega) (by omega)
  omega
 have HG0 := Lib.hid h
 have HOLO := Lib.hid (show c.y0 ≤ w.heap.size from h.size.1)
 have HZZ := Lib.hid (Nat.le_refl w.heap.size)
 have HZ := Lib.hid (show c.y0 ≤ w.heap.size ∧ c.z1 ≤ w.heap.size ∧ c.z2 < w.heap.size from h.size)
 have HIJ := Lib.hid (⟨hcong, hgoal, hpar, hst⟩ : _ ∧ _ ∧ _ ∧ _)
 have HD0 := Lib.hid hD0
 clear hD0
 have HMS := Lib.hid hms
 clear h hcong hgoal hpar hst hms
 go_enter Tryd.func49, Tryd.ntmps49
 go_upto_region 2 with fail
 have hb1 : Below w.heap.size w (w.alloc (.cells #[.int .i64 i0, .int .i64 j0] 132)) := (Below.refl _ _).alloc (Nat.le_refl _) _
 have HL : Hid (JL D0 c Goal i0 j0 w.heap.size w pv0 (jmeas c ps0.length rep0 1) (.slice (some ⟨w.heap.size, 0, none⟩) 1 1) (w.alloc (.cells #[.int .i64 i0, .int .i64 j0] 132))) := Lib.hid (by
  refine ⟨ps0, kl0, rep0, pv0, [(i0, j0)], HG0.out.below hC hb1, ⟨rfl, .inr ⟨_, 1, _, rfl, Nat.le_refl _, ent_new w _ _, Nat.le_refl _, by decide, rfl, rfl⟩⟩, .of_below hb1, .inl rfl, ⟨HIJ.out.1, .pair (by simp)⟩, fun σ => ?_, fun q hq => ?_, ⟨HIJ.out.2.2.1, hi, hj, HD0.out⟩, HIJ.out.2.2.2, Nat.le_refl _, HMS.out⟩
  · rw [← HIJ.out.2.1 σ]; simp
  · rw [List.mem_singleton.1 hq]; exact ⟨hi, hj⟩)
 clear hb1
 generalize w.alloc (.cells #[.int .i64 i0, .int .i64 j0] 132) = w1 at HL ⊢
 go_loopg [7] (jmeas c ps0.length rep0 1) (fun k ov wr => Hid (JL D0 c Goal i0 j0 w.heap.size w pv0 k ov wr))
 case atStart => exact HL
 case round =>
  clear HL HG0 HIJ HMS hi hj
  obtain ⟨ps, kl, rep, pv, P, k1, k2, k3, k4, k5, k6, k7, k8, k9, k10⟩ := hrel.out
  clear hrel
  obtain ⟨p7, c7, rfl⟩ := own_slice k2
  cases P with
  | nil =>
    have HK := Lib.hid (⟨k1, k3, k4, k5, k6, k8, k9⟩ : GSt c 2 wr ps kl rep pv ∧ _ ∧ _ ∧ _ ∧ _ ∧ _ ∧ _)
    clear k1 k2 k3 k4 k5 k6 k7 k8 k9 k10
    go_wp2_with fail
    go_ret
    obtain ⟨k1, k3, k4, k5, k6, k8, k9⟩ := HK.out
    exact ⟨ps, kl, rep, pv, true, rfl, k1, k3, k4, k9, fun _ => ⟨⟨k5.1, Ux.eqv_nil k5.2⟩, fun σ => by rw [← k6 σ]; simp, k8⟩, fun e => by cases e⟩
  | cons q r =>
    obtain ⟨kk, hkk⟩ : ∃ kk, kk = r.length := ⟨_, rfl⟩
    have hl1 : (q :: r).length = kk + 1 := by rw [hkk]; rfl
    rw [hl1] at k2 ⊢
    obtain ⟨ob, cur, rfl, hob, hobl, hk2, hk3, hgo, hcell⟩ := own_open k2 (by omega)
    have hk1 : (kk : Int) + 1 ≤ (c7 : Int) := by omega
    have hk4 : wrap64 ((kk : Int) + 1 - 1) = (kk : Int) := by unfold wrap64; omega
    have o0 := hcell _ _ (prc_top q r).1
    have o1 := hcell _ _ (prc_top q r).2
    rw [← hkk] at o0 o1
    have hpob : ¬ pv.ownBlock = some ob := own_ne k1.own hgo fun cs e => by injection e with _ e _; cases e
    have HOE := Lib.hid (⟨hgo, o0, o1, hpob⟩ : wr.heap[ob]? = some (.cells cur 132 (0, 0)) ∧ cur[kk * 2]? = some (Value.int .i64 (q.1 : Int)) ∧ cur[kk * 2 + 1]? = some (Value.int .i64 (q.2 : Int)) ∧ ¬ pv.ownBlock = some ob)
    have HG := Lib.hid k1
    have HLT := Lib.hid (k7 q (by simp))
    have HO := Lib.hid k2
    have HK := Lib.hid (⟨k3, k4, k5, k6, k7, k8, k9, k10⟩ : Chg (GKeep c pv0) w wr ∧ (pv.ownBlock = pv0.ownBlock ∨ ∀ g, pv.ownBlock = some g → w.heap.size ≤ g) ∧ (Ux.Cong (mkGr ps kl rep) (q :: r) ∧ Ux.Eqv (mkGr ps kl rep) (q :: r) i0 j0) ∧ _ ∧ _ ∧ _ ∧ _ ∧ _)
    have HKK := Lib.hid hkk
    have hkk0 : (kk : Int) < (kk : Int) + 1 := by omega
    clear k1 k2 k3 k4 k5 k6 k7 k8 k9 k10 hgo hcell o0 o1 hpob hkk hl1 hk2
    go_wp2_with fail
    refine wp_region_held_drew (S := fun (u : World) => Chg (fun b => pv.ownBlock = some b) wr u) (by kernel_rfl) ((Chg.drew _)) (fun hHeld => ?_)
    refine wpAnyH_take (i := 0) (v := .pointer (some ⟨c.gb, 0, none⟩)) rfl (by kernel_rfl) (by kernel_rfl) (by kernel_rfl) (fun _ _ _ h => h) (Or.inl ⟨by rfl, fun w' hSw => by go_simp⟩) hHeld ?_
    refine wpAnyH_take (i := 1) (v := .slice (some ⟨ob, 0, none⟩) (kk + 1) c7) rfl (by kernel_rfl) (by kernel_rfl) (by kernel_rfl) (fun _ _ _ h => h) (Or.inl ⟨by rfl, fun w' hSw => by go_simp⟩) hHeld ?_
    refine wpAnyH_take (i := 2) (v := .int .i64 (kk : Int)) rfl (by kernel_rfl) (by kernel_rfl) (by kernel_rfl) (fun _ _ _ h => h) (Or.inl ⟨by rfl, fun w' hSw => by go_simp⟩) hHeld ?_
    refine wpAnyH_take (i := 3) (v := .pointer (some ⟨ob, kk * 2, none⟩)) rfl (by kernel_rfl) (by kernel_rfl) (by kernel_rfl) (fun _ _ _ h => h) (Or.inl ⟨by rfl, fun w' hSw => by go_simp⟩) hHeld ?_
    refine wpAnyH_take (i := 4) (v := .pointer (some ⟨ob, kk * 2, none⟩)) rfl (by kernel_rfl) (by kernel_rfl) (by kernel_rfl) (fun _ _ _ h => h) (Or.inl ⟨by rfl, fun w' hSw => by go_simp⟩) hHeld ?_
    refine wpAnyH_take (i := 5) (v := .int .i64 (q.1 : Int)) rfl (by kernel_rfl) (by kernel_rfl) (by kernel_rfl) (fun _ _ _ h => h) (Or.inl ⟨by rfl, fun w' hSw => by have h := ent_cell (ent_chg HOE.out.1 hSw HOE.out.2.2.2) _ _ HOE.out.2.1; go_simp⟩) hHeld ?_
    refine wpAnyH_take (i := 7) (v := .pointer (some ⟨c.gb, 0, none⟩)) rfl (by kernel_rfl) (by kernel_rfl) (by kernel_rfl) (fun _ _ _ h => h) (Or.inl ⟨by rfl, fun w' hSw => by go_simp⟩) hHeld ?_
    refine wpAnyH_take (i := 8) (v := .slice (some ⟨ob, 0, none⟩) (kk + 1) c7) rfl (by kernel_rfl) (by kernel_rfl) (by kernel_rfl) (fun _ _ _ h => h) (Or.inl ⟨by rfl, fun w' hSw => by go_simp⟩) hHeld ?_
    refine wpAnyH_take (i := 9) (v := .int .i64 (kk : Int)) rfl (by kernel_rfl) (by kernel_rfl) (by kernel_rfl) (fun _ _ _ h => h) (Or.inl ⟨by rfl, fun w' hSw => by go_simp⟩) hHeld ?_
    refine wpAnyH_take (i := 10) (v := .pointer (some ⟨ob, kk * 2, none⟩)) rfl (by kernel_rfl) (by kernel_rfl) (by kernel_rfl) (fun _ _ _ h => h) (Or.inl ⟨by rfl, fun w' hSw => by go_simp⟩) hHeld ?_
    refine wpAnyH_take (i := 11) (v := .pointer (some ⟨ob, kk * 2 + 1, none⟩)) rfl (by kernel_rfl) (by kernel_rfl) (by kernel_rfl) (fun _ _ _ h => h) (Or.inl ⟨by rfl, fun w' hSw => by go_simp⟩) hHeld ?_
    refine wpAnyH_take (i := 12) (v := .int .i64 (q.2 : Int)) rfl (by kernel_rfl) (by kernel_rfl) (by kernel_rfl) (fun _ _ _ h => h) (Or.inl ⟨by rfl, fun w' hSw => by have h := ent_cell (ent_chg HOE.out.1 hSw HOE.out.2.2.2) _ _ HOE.out.2.2.1; go_simp⟩) hHeld ?_
    try simp only [Act.put, List.getElem_toArray, List.getElem_cons_succ, List.getElem_cons_zero, List.setIfInBounds_toArray, List.set_cons_zero, List.set_cons_succ]
    refine wpAnyH_ready (rs := [6]) (by kernel_rfl) (by simp) ?_
    refine AllReadyH.cons rfl (fun K hK => ?_) AllReadyH.nil
    go_simp
    refine (end_any c hC 2 ps kl rep pv q.1 HLT.out.1 wr.drew (HG.out.below hC ((Below.refl _ _).drew))).mono ?_
    rintro e w4 ⟨rfl, ps4, g4, s4, st4, ch4⟩
    replace ch4 : Chg (fun b => pv.ownBlock = some b) wr w4 := (Chg.drew wr).trans ch4
    have HG4 := Lib.hid g4; have HS4 := Lib.hid s4; have HST4 := Lib.hid st4; have HC4 := Lib.hid ch4
    clear g4 s4 st4 ch4
    refine hK.out _ _ HC4.out (fun hHeld => ?_)
    clear hK K
    refine wpAnyH_ready (rs := [13]) (by kernel_rfl) (by simp) ?_
    refine AllReadyH.cons rfl (fun K hK => ?_) AllReadyH.nil
    go_simp
    refine (end_any c hC 2 ps4 kl rep pv q.2 (by rw [HS4.out.1]; exact HLT.out.2) w4 HG4.out).mono ?_
    rintro e w5 ⟨rfl, ps5, g5, s5, st5, ch5⟩
    have HG5 := Lib.hid g5; have HS5 := Lib.hid (HS4.out.trans s5); have HC5 := Lib.hid (HC4.out.trans ch5)
    have HST5 := Lib.hid (show ∀ (j : Nat) (p p' : Prt), ps[j]? = some p → ps5[j]? = some p' → p'.st = p.st from fun j p p' h1 h2 => by
     obtain ⟨a, b, h3⟩ := HS4.out.2 j p h1
     exact (st5 j _ p' h3 h2).trans (HST4.out j p _ h1 h3))
    clear g5 s5 st5 ch5
    refine hK.out _ _ HC5.out (fun hHeld => ?_)
    clear hK K
    refine wpAnyH_take (i := 14) (v := .int .i64 (rep q.1 : Nat)) rfl (by kernel_rfl) (by kernel_rfl) (by kernel_rfl) (fun _ _ _ h => h) (Or.inl ⟨by rfl, fun w' hSw => by go_simp⟩) hHeld ?_
    simp only [Act.put, List.getElem_toArray, List.getElem_cons_succ, List.getElem_cons_zero, List.setIfInBounds_toArray, List.set_cons_zero, List.set_cons_succ]
    refine wpAnyH_take (i := 15) (v := .int .i64 (rep q.2 : Nat)) rfl (by kernel_rfl) (by kernel_rfl) (by kernel_rfl) (fun _ _ _ h => h) (Or.inl ⟨by rfl, fun w' hSw => by go_simp⟩) hHeld ?_
    simp only [Act.put, List.getElem_toArray, List.getElem_cons_succ, List.getElem_cons_zero, List.setIfInBounds_toArray, List.set_cons_zero, List.set_cons_succ]
    refine wpAnyH_done (by kernel_rfl) ?_ _
    obtain ⟨i, hi⟩ : ∃ i, i = rep q.1 := ⟨_, rfl⟩
    obtain ⟨j, hj⟩ : ∃ j, j = rep q.2 := ⟨_, rfl⟩
    rw [← hi, ← hj]
    have HI := Lib.hid hi; have HJ := Lib.hid hj
    clear hi hj
    have hinv := HG.out.inv
    have hgr := HS5.out.gr kl rep
    have hil : i < ps.length := by rw [HI.out]; exact hinv.rlt _ HLT.out.1
    have hjl : j < ps.length := by rw [HJ.out]; exact hinv.rlt _ HLT.out.2
    have hir : rep i = i := by rw [HI.out]; exact hinv.rr _ HLT.out.1
    have hjr : rep j = j := by rw [HJ.out]; exact hinv.rr _ HLT.out.2
    have HIJ := Lib.hid (⟨hil, hjl, hir, hjr⟩ : i < ps.length ∧ j < ps.length ∧ rep i = i ∧ rep j = j)
    have HGR := Lib.hid hgr
    have hof : ∀ b, (Value.slice (some ⟨ob, 0, none⟩) (kk + 1) c7).ownBlock = some b → ¬ pv.ownBlock = some b := fun b hb => by injection hb with hb; subst hb; exact HOE.out.2.2.2
    have HO5 := Lib.hid (own_chg HO.out HC5.out hof)
    clear hinv hgr hil hjl hir hjr hof HG4 HS4 HST4 HC4
    have HOC : Hid (w5.ownsRow w.heap.size 132 2 (.slice (some ⟨ob, 0, none⟩) kk c7) kk (prc r)) := Lib.hid (by
     have := own_cut HO5.out (m := kk) (by omega)
     rw [prc, List.take_append_of_le_length (by rw [prc_len, ← HKK.out]; exact Nat.le_refl _), List.take_of_length_le (by rw [prc_len, ← HKK.out]; exact Nat.le_refl _)] at this
     exact this)
    by_cases hij : i = j
    · have hb : ((i : Int) == (j : Int)) = true := by simp [hij]
      have HE := Lib.hid hij
      clear hij
      go_wp2_with fail
      obtain ⟨k3, k4, k5, k6, k7, k8, k9, k10, k11⟩ := HK.out
      have hkk := HKK.out
      go_roundg (jmeas c ps.length rep kk)
      case measure =>
       simp only [jmeas, List.length_cons] at k10 ⊢
       omega
      case rel =>
       have hrq : rep q.1 = rep q.2 := by rw [← HI.out, ← HJ.out]; exact HE.out
       refine Lib.hid ⟨ps5, kl, rep, pv, r, HG5.out, by rw [← hkk]; exact HOC.out, (k3.then HC5.out fun x hx e => ?_), k4, by rw [HGR.out]; exact ⟨Ux.cong_skip k5.1 hrq, eqv_skip k5.2 hrq⟩, fun σ => ?_, fun y hy => by rw [HS5.out.1]; exact k7 y (by simp [hy]), ⟨by rw [HGR.out]; exact k8.1, by rw [HS5.out.1]; exact k8.2.1, by rw [HS5.out.1]; exact k8.2.2.1, by rw [HGR.out]; exact k8.2.2.2⟩, fun p hp => ?_, by rw [HS5.out.1, ← hkk]; exact Nat.le_refl _, ?_⟩
       · rcases k4 with e2 | e2
         · exact .inr (.inr (.inr (.inr (e2 ▸ e))))
         · have := e2 x e; omega
       · rw [HGR.out, ← k6 σ]
         constructor
         · rintro ⟨a1, a2⟩
           refine ⟨a1, fun y hy => ?_⟩
           rcases List.mem_cons.1 hy with rfl | hy
           · have h1 := a1.2 y.1 HLT.out.1
             have h2 := a1.2 y.2 HLT.out.2
             rw [h1, h2]
             show ((mkGr ps kl rep).D (rep y.1)).app σ = ((mkGr ps kl rep).D (rep y.2)).app σ
             rw [hrq]
           · exact a2 y hy
         · rintro ⟨a1, a2⟩
           exact ⟨a1, fun y hy => a2 y (by simp [hy])⟩
       · obtain ⟨jj, hjj⟩ := List.mem_iff_getElem?.1 hp
         obtain ⟨p0, a1, a2⟩ := HS5.out.back hjj
         rw [HST5.out jj p0 p a1 hjj]; exact k9 p0 (List.mem_of_getElem? a1)
       · simp only [jmeas, List.length_cons] at k10 ⊢
         omega
    have hb : ((i : Int) == (j : Int)) = false := by simp; omega
    have hlen5 := HS5.out.1
    obtain ⟨pi, hpi⟩ : ∃ pi, ps5[i]? = some pi := ⟨_, List.getElem?_eq_getElem (by have := HIJ.out.1; omega)⟩
    obtain ⟨pj, hpj⟩ : ∃ pj, ps5[j]? = some pj := ⟨_, List.getElem?_eq_getElem (by have := HIJ.out.2.1; omega)⟩
    obtain ⟨pp, pc, hpv⟩ := own_slice HG5.out.own
    subst hpv
    have ho5 := HG5.out.own
    rw [hlen5] at ho5
    obtain ⟨pb, pcur, rfl, hpb, hpbl, hpk2, hpk3, hpe, hpcell⟩ := own_open ho5 (by have := HIJ.out.1; omega)
    have g1 := ent_cell HG5.out.gcell 1 _ rfl
    rw [hlen5] at g1
    have a0 := ent_cell hpe _ _ (hpcell (i * 5) (.int .i64 pi.k) (by have := pcells_at 0 hpi (by decide); rw [Nat.add_zero] at this; rw [this]; rfl))
    have a1 := ent_cell hpe _ _ (hpcell (i * 5 + 1) (.string pi.s) (by rw [pcells_at 1 hpi (by decide)]; rfl))
    have a2 := ent_cell hpe _ _ (hpcell (i * 5 + 2) (.slice pi.q pi.m pi.c) (by rw [pcells_at 2 hpi (by decide)]; rfl))
    have b0 := ent_cell hpe _ _ (hpcell (j * 5) (.int .i64 pj.k) (by have := pcells_at 0 hpj (by decide); rw [Nat.add_zero] at this; rw [this]; rfl))
    have b1 := ent_cell hpe _ _ (hpcell (j * 5 + 1) (.string pj.s) (by rw [pcells_at 1 hpj (by decide)]; rfl))
    have b2 := ent_cell hpe _ _ (hpcell (j * 5 + 2) (.slice pj.q pj.m pj.c) (by rw [pcells_at 2 hpj (by decide)]; rfl))
    have hi1 : (i : Int) < (ps.length : Int) := by have := HIJ.out.1; omega
    have hj1 : (j : Int) < (ps.length : Int) := by have := HIJ.out.2.1; omega
    have hp2 : (ps.length : Int) ≤ (pc : Int) := by omega
    have HPE := Lib.hid hpe
    have HPI := Lib.hid hpi; have HPJ := Lib.hid hpj
    have HNE := Lib.hid hij
    have gl := ent_lt HG5.out.gcell
    have HLEN5 := Lib.hid hlen5
    clear hlen5 ho5 hpk2 hpe hpcell hpi hpj hij
    go_upto_region 7 with fail
    go_cut [11, 12] (fun va vb wx => ∃ ba bb : Nat, va = .pointer (some ⟨ba, 0, none⟩) ∧ vb = .pointer (some ⟨bb, 0, none⟩) ∧ Hid (Below w5.heap.size w5 wx) ∧ Hid (wx.heap[ba]? = some (.cells #[.int .i64 pi.k, .string pi.s, .slice pi.q pi.m pi.c] 30 (0, 0))) ∧ Hid (wx.heap[bb]? = some (.cells #[.int .i64 pj.k, .string pj.s, .slice pj.q pj.m pj.c] 30 (0, 0))))
    case first =>
     go_region
     · go_wp2_with fail
       go_meet
       have e1 := ent_new (w5.alloc (.cells #[.int .i64 pi.k, .string pi.s, .slice pi.q pi.m pi.c] 30)) #[.int .i64 pj.k, .string pj.s, .slice pj.q pj.m pj.c] 30
       have e2 := ent_alloc (ent_new w5 #[.int .i64 pi.k, .string pi.s, .slice pi.q pi.m pi.c] 30) (.cells #[.int .i64 pj.k, .string pj.s, .slice pj.q pj.m pj.c] 30)
       simp only [World.size_alloc] at e1
       exact ⟨_, _, rfl, rfl, Lib.hid ((((Below.refl _ _).alloc (Nat.le_refl _) _).alloc (by simp) _).drew), Lib.hid e2, Lib.hid e1⟩
     · go_wp2_with fail
       go_meet
       have e1 := ent_new (w5.alloc (.cells #[.int .i64 pj.k, .string pj.s, .slice pj.q pj.m pj.c] 30)) #[.int .i64 pi.k, .string pi.s, .slice pi.q pi.m pi.c] 30
       have e2 := ent_alloc (ent_new w5 #[.int .i64 pj.k, .string pj.s, .slice pj.q pj.m pj.c] 30) (.cells #[.int .i64 pi.k, .string pi.s, .slice pi.q pi.m pi.c] 30)
       simp only [World.size_alloc] at e1
       exact ⟨_, _, rfl, rfl, Lib.hid ((((Below.refl _ _).alloc (Nat.le_refl _) _).alloc (by simp) _).drew), Lib.hid e1, Lib.hid e2⟩
    case rest =>
     rename World => w6
     obtain ⟨ba, bb, rfl, rfl, HB6, HBA, HBB⟩ := hcut
     clear a0 a1 a2 b0 b1 b2 g1 gl
     have HG6 := Lib.hid (HG5.out.below hC HB6.out)
     have HPE6 := Lib.hid (ent_below HPE.out HB6.out)
     have y0 := ent_cell HBA.out 0 _ rfl
     have y1 := ent_cell HBA.out 1 _ rfl
     have y2 := ent_cell HBA.out 2 _ rfl
     have hty5 := HG6.out.ty pi (List.mem_of_getElem? HPI.out)
     have hty5' := HG6.out.ty pj (List.mem_of_getElem? HPJ.out)
     have HKS := Lib.hid (show jmeas c ps5.length rep (kk + 1) ≤ gk ∧ gk ≤ 30000000000 by have := HK.out.2.2.2.2.2.2.2; rw [List.length_cons, ← HKK.out] at this; rw [HS5.out.1]; exact this)
     have HCH6 := Lib.hid (show Chg (GKeep c pv0) w w6 from (HK.out.1.then HC5.out fun x hx e => by
      rcases HK.out.2.1 with e2 | e2
      · exact .inr (.inr (.inr (.inr (e2 ▸ e))))
      · have := e2 x e; omega).trans (.of_below HB6.out))
     have HO6 := Lib.hid (own_kept HOC.out HB6.out)
     have HDI := Lib.hid (gr_at (kl := kl) (rep := rep) HPI.out).1
     have HDJ := Lib.hid (gr_at (kl := kl) (rep := rep) HPJ.out).1
     have hQ := HLT.out
     rw [← HS5.out.1] at hQ
     have HQ := Lib.hid hQ
     have hij5 := HIJ.out
     rw [← HS5.out.1] at hij5
     have HIJ5 := Lib.hid hij5
     have HPS := Lib.hid (show (Ux.Cong (mkGr ps5 kl rep) (q :: r) ∧ Ux.Eqv (mkGr ps5 kl rep) (q :: r) i0 j0) ∧ (∀ σ, (Ux.KS c.f (mkGr ps5 kl rep) σ ∧ ∀ y ∈ q :: r, ((mkGr ps5 kl rep).D y.1).app σ = ((mkGr ps5 kl rep).D y.2).app σ) ↔ Goal σ) ∧ (∀ y ∈ q :: r, y.1 < ps5.length ∧ y.2 < ps5.length) ∧ ParB D0 ps5 kl rep i0 j0 ∧ ∀ p ∈ ps5, p.st = 0 by
      rw [HGR.out, HS5.out.1]
      exact ⟨HK.out.2.2.1, HK.out.2.2.2.1, HK.out.2.2.2.2.1, ⟨by rw [HGR.out]; exact HK.out.2.2.2.2.2.1.1, by rw [HS5.out.1]; exact HK.out.2.2.2.2.2.1.2.1, by rw [HS5.out.1]; exact HK.out.2.2.2.2.2.1.2.2.1, by rw [HGR.out]; exact HK.out.2.2.2.2.2.1.2.2.2⟩, st_same HK.out.2.2.2.2.2.2.1 HS5.out HST5.out⟩)
     have hp5 : (ps5.length : Int) ≤ (pc : Int) := by rw [HS5.out.1]; exact hp2
     have hi5 : (i : Int) < (ps5.length : Int) := by rw [HS5.out.1]; exact hi1
     have hj5 : (j : Int) < (ps5.length : Int) := by rw [HS5.out.1]; exact hj1
     have HLOC := Lib.hid HK.out.2.1
     clear hQ hij5 hi1 hj1 hp2
     have HTI := Lib.hid hty5; have HTJ := Lib.hid hty5'
     clear hty5 hty5'
     cases hDi : pi.D with
     | v vi =>
       have hki : pi.k = (vi : Int) := by
        have h1 := HTI.out; rw [hDi] at h1
        obtain ⟨s', q', m1, c', e⟩ := tyQ_v.1 h1
        simp only [Prt.ag, Value.agg.injEq, Array.mk.injEq, List.cons.injEq, Value.int.injEq] at e; omega
       have hd : decide ((0 : Int) ≤ pi.k) = true := by rw [hki]; simp
       have HVI := Lib.hid hDi
       clear hki hDi
       go_wp2_with fail
       refine (isVar_any pi.k (.string pi.s) (.slice pi.q pi.m pi.c) w6).mono ?_
       rintro e w7 ⟨rfl, hb7⟩
       have HG7 := Lib.hid (HG6.out.below hC hb7)
       have HO7 := Lib.hid (own_kept HO6.out hb7)
       have HCH7 := Lib.hid (HCH6.out.trans (.of_below hb7))
       have HP7 := Lib.hid (ent_below HPE6.out hb7)
       clear hb7 y0 y1 y2
       have g1 := ent_cell HG7.out.gcell 1 _ rfl
       have x3 : w7.cell? ⟨pb, i * 5 + 3, none⟩ = some (.int .i64 pi.tt) := by
        obtain ⟨_, cur', he, _, _, _, _, he2, hcl⟩ := own_open HG7.out.own (by have := HIJ5.out.1; omega)
        injection he with he; injection he with he _ _; subst he
        exact ent_cell he2 _ _ (hcl _ _ (by rw [pcells_at 3 HPI.out (by decide)]; rfl))
       have xf := ent_free HP7.out
       go_wp2_with fail
       obtain ⟨hJ, hpos⟩ := jl_next (q := q) hC HG7.out HO7.out HKK.out HCH7.out HLOC.out HPI.out HIJ5.out.2.1 HIJ5.out.2.2.1 HIJ5.out.2.2.2 HNE.out
        ⟨(jl_var HG7.out.inv HPS.out.1.1 HPS.out.2.1 HQ.out HIJ5.out.1 HIJ5.out.2.1 HIJ5.out.2.2.1 HIJ5.out.2.2.2 HNE.out (HDI.out.trans HVI.out) (.inl ⟨HI.out.symm, HJ.out.symm⟩)).1, eqv_link HPS.out.1.2 (.inl ⟨HI.out.symm, HJ.out.symm⟩) HIJ5.out.2.2.2 fun _ h => h⟩
        (jl_var HG7.out.inv HPS.out.1.1 HPS.out.2.1 HQ.out HIJ5.out.1 HIJ5.out.2.1 HIJ5.out.2.2.1 HIJ5.out.2.2.2 HNE.out (HDI.out.trans HVI.out) (.inl ⟨HI.out.symm, HJ.out.symm⟩)).2 HPS.out.2.2.1 HPS.out.2.2.2.1 HPS.out.2.2.2.2 HKS.out
       go_roundg (gk - 1)
       case measure => omega
       case rel => exact Lib.hid hJ
     | a nmi xsi =>
       obtain ⟨hki, hsi, hmi⟩ : pi.k < 0 ∧ pi.s = ⟨nmi.toArray⟩ ∧ pi.m = xsi.length := by
        have h1 := HTI.out; rw [hDi] at h1
        obtain ⟨k', av, hk', e, hr⟩ := tyQ_a.1 h1
        simp only [Prt.ag, Value.agg.injEq, Array.mk.injEq, List.cons.injEq, Value.int.injEq, Value.string.injEq, and_true, true_and] at e
        obtain ⟨e0, e1, rfl⟩ := e
        obtain ⟨_, _, e⟩ := hr.len
        injection e with _ e _
        exact ⟨by omega, e1, e⟩
       have hdi : decide ((0 : Int) ≤ pi.k) = false := by simp; omega
       have HVI := Lib.hid hDi; have HSI := Lib.hid hsi; have HMI := Lib.hid hmi
       clear hki hDi hsi hmi
       cases hDj : pj.D with
       | v vj =>
         have hkj : pj.k = (vj : Int) := by
          have h1 := HTJ.out; rw [hDj] at h1
          obtain ⟨s', q', m1, c', e⟩ := tyQ_v.1 h1
          simp only [Prt.ag, Value.agg.injEq, Array.mk.injEq, List.cons.injEq, Value.int.injEq] at e; omega
         have hdj : decide ((0 : Int) ≤ pj.k) = true := by rw [hkj]; simp
         have HVJ := Lib.hid hDj
         clear hkj hDj
         go_wp2_with fail
         refine (isVar_any pi.k (.string pi.s) (.slice pi.q pi.m pi.c) w6).mono ?_
         rintro e w7a ⟨rfl, hb7a⟩
         have z0 := ent_cell (ent_below HBB.out hb7a) 0 _ rfl
         have z1 := ent_cell (ent_below HBB.out hb7a) 1 _ rfl
         have z2 := ent_cell (ent_below HBB.out hb7a) 2 _ rfl
         have HG7a := Lib.hid (HG6.out.below hC hb7a)
         have HO7a := Lib.hid (own_kept HO6.out hb7a)
         have HCH7a := Lib.hid (HCH6.out.trans (.of_below hb7a))
         have HP7a := Lib.hid (ent_below HPE6.out hb7a)
         clear hb7a y0 y1 y2
         go_wp2_with fail
         refine (isVar_any pj.k (.string pj.s) (.slice pj.q pj.m pj.c) w7a).mono ?_
         rintro e w7 ⟨rfl, hb7⟩
         have HG7 := Lib.hid (HG7a.out.below hC hb7)
         have HO7 := Lib.hid (own_kept HO7a.out hb7)
         have HCH7 := Lib.hid (HCH7a.out.trans (.of_below hb7))
         have HP7 := Lib.hid (ent_below HP7a.out hb7)
         clear hb7 z0 z1 z2
         have g1 := ent_cell HG7.out.gcell 1 _ rfl
         have x3 : w7.cell? ⟨pb, j * 5 + 3, none⟩ = some (.int .i64 pj.tt) := by
          obtain ⟨_, cur', he, _, _, _, _, he2, hcl⟩ := own_open HG7.out.own (by have := HIJ5.out.1; omega)
          injection he with he; injection he with he _ _; subst he
          exact ent_cell he2 _ _ (hcl _ _ (by rw [pcells_at 3 HPJ.out (by decide)]; rfl))
         have xf := ent_free HP7.out
         go_wp2_with fail
         have hV := jl_var HG7.out.inv HPS.out.1.1 HPS.out.2.1 HQ.out HIJ5.out.2.1 HIJ5.out.1 HIJ5.out.2.2.2 HIJ5.out.2.2.1 (Ne.symm HNE.out) (HDJ.out.trans HVJ.out) (.inr ⟨HI.out.symm, HJ.out.symm⟩)
         obtain ⟨hJ, hpos⟩ := jl_next (q := q) hC HG7.out HO7.out HKK.out HCH7.out HLOC.out HPJ.out HIJ5.out.1 HIJ5.out.2.2.2 HIJ5.out.2.2.1 (Ne.symm HNE.out) ⟨hV.1, eqv_link HPS.out.1.2 (.inr ⟨HI.out.symm, HJ.out.symm⟩) HIJ5.out.2.2.1 fun _ h => h⟩ hV.2 HPS.out.2.2.1 HPS.out.2.2.2.1 HPS.out.2.2.2.2 HKS.out
         go_roundg (gk - 1)
         case measure => omega
         case rel => exact Lib.hid hJ
       | a nmj xsj =>
         obtain ⟨hkj, hsj, hmj⟩ : pj.k < 0 ∧ pj.s = ⟨nmj.toArray⟩ ∧ pj.m = xsj.length := by
          have h1 := HTJ.out; rw [hDj] at h1
          obtain ⟨k', av, hk', e, hr⟩ := tyQ_a.1 h1
          simp only [Prt.ag, Value.agg.injEq, Array.mk.injEq, List.cons.injEq, Value.int.injEq, Value.string.injEq, and_true, true_and] at e
          obtain ⟨e0, e1, rfl⟩ := e
          obtain ⟨_, _, e⟩ := hr.len
          injection e with _ e _
          exact ⟨by omega, e1, e⟩
         have hdj : decide ((0 : Int) ≤ pj.k) = false := by simp; omega
         have HVJ := Lib.hid hDj; have HSJ := Lib.hid hsj; have HMJ := Lib.hid hmj
         clear hkj hDj
         go_wp2_with fail
         refine (isVar_any pi.k (.string pi.s) (.slice pi.q pi.m pi.c) w6).mono ?_
         rintro e w7a ⟨rfl, hb7a⟩
         have z0 := ent_cell (ent_below HBB.out hb7a) 0 _ rfl
         have z1 := ent_cell (ent_below HBB.out hb7a) 1 _ rfl
         have z2 := ent_cell (ent_below HBB.out hb7a) 2 _ rfl
         have HG7a := Lib.hid (HG6.out.below hC hb7a)
         have HO7a := Lib.hid (own_kept HO6.out hb7a)
         have HCH7a := Lib.hid (HCH6.out.trans (.of_below hb7a))
         have HP7a := Lib.hid (ent_below HPE6.out hb7a)
         have HBA7a := Lib.hid (ent_below HBA.out hb7a)
         have HBB7a := Lib.hid (ent_below HBB.out hb7a)
         clear hb7a y0 y1 y2 hsj hmj
         go_wp2_with fail
         refine (isVar_any pj.k (.string pj.s) (.slice pj.q pj.m pj.c) w7a).mono ?_
         rintro e w7 ⟨rfl, hb7⟩
         have HG7 := Lib.hid (HG7a.out.below hC hb7)
         have HO7 := Lib.hid (own_kept HO7a.out hb7)
         have HCH7 := Lib.hid (HCH7a.out.trans (.of_below hb7))
         have HP7 := Lib.hid (ent_below HP7a.out hb7)
         have y1 := ent_cell (ent_below HBA7a.out hb7) 1 _ rfl
         have y2 := ent_cell (ent_below HBA7a.out hb7) 2 _ rfl
         have z1' := ent_cell (ent_below HBB7a.out hb7) 1 _ rfl
         have z2' := ent_cell (ent_below HBB7a.out hb7) 2 _ rfl
         rw [HSI.out] at y1
         rw [HMI.out] at y2
         rw [HSJ.out] at z1'
         rw [HMJ.out] at z2'
         clear hb7 z0 z1 z2
         by_cases hnm : nmi = nmj
         · by_cases hln : xsi.length = xsj.length
           · have hb2 : ((xsi.length : Int) != (xsj.length : Int)) = false := by simp; omega
             have hb1 : (nmi != nmj) = false := by simp [hnm]
             have hb3 : (nmi == nmj) = true := by simp [hnm]
             have HE := Lib.hid (⟨hnm, hln⟩ : nmi = nmj ∧ xsi.length = xsj.length)
             clear hln hnm
             have g1 := ent_cell HG7.out.gcell 1 _ rfl
             have x3 : w7.cell? ⟨pb, i * 5 + 3, none⟩ = some (.int .i64 pi.tt) := by
              obtain ⟨_, cur', he, _, _, _, _, he2, hcl⟩ := own_open HG7.out.own (by have := HIJ5.out.1; omega)
              injection he with he; injection he with he _ _; subst he
              exact ent_cell he2 _ _ (hcl _ _ (by rw [pcells_at 3 HPI.out (by decide)]; rfl))
             have xf := ent_free HP7.out
             go_upto_region 9 with fail
             have hlk := HG7.out.link hC HPI.out HIJ5.out.2.1 HIJ5.out.2.2.1 HIJ5.out.2.2.2 HNE.out rfl
             have hset : Chg (· = pb) w7 (w7.setCell ⟨pb, i * 5 + 3, none⟩ (.int .i64 (j : Int))) := Chg.set (R := (· = pb)) (p := ⟨pb, i * 5 + 3, none⟩) rfl _
             have hob7 := HO7.out
             have hpob : ¬ ob = pb := fun e => by
              rcases hob7.2 with ⟨h0, _⟩ | ⟨g', cap', cur', h0, _, hg', _⟩
              · cases h0
              · injection h0 with h0; injection h0 with h0; injection h0 with h0 _ _; subst h0; subst e
                exact own_ne HG7.out.own hg' (fun cs e => by injection e with _ e _; cases e) rfl
             have HG8 := Lib.hid hlk
             have HO8 := Lib.hid (own_chg hob7 hset fun b hb e => hpob (by injection hb with hb; exact hb.trans e))
             have HCH8 := Lib.hid (HCH7.out.then hset fun x hx e => by
              subst e
              rcases HLOC.out with e2 | e2
              · exact .inr (.inr (.inr (.inr (e2 ▸ rfl))))
              · have := e2 x rfl; omega)
             have HPJ8 := Lib.hid (show (ps5.set i { pi with tt := j, st := pi.st })[j]? = some pj by rw [List.getElem?_set_ne HNE.out]; exact HPJ.out)
             have HPI8 := Lib.hid (show (ps5.set i { pi with tt := j, st := pi.st })[i]? = some { pi with tt := j, st := pi.st } from List.getElem?_set_self HIJ5.out.1)
             have HSM := Lib.hid (Same.set HPI.out j pi.st)
             clear g1 x3 xf y1 y2 z1' z2' hlk hset hob7 hpob hb1 hb2 hb3 hdi hdj
             generalize w7.setCell ⟨pb, i * 5 + 3, none⟩ (.int .i64 (j : Int)) = w8 at HG8 HO8 HCH8 ⊢
             go_wp2_with fail
             refine (args_any c hC _ kl _ _ j pj HPJ8.out w8 HG8.out).mono ?_
             rintro e w9 ⟨v9, ks9, ex9, kl9, pv9, rfl, n1, n2, n3, n4, n5, n6, n7, n8⟩
             have HN9 := Lib.hid (⟨n4, n6, n7, n8⟩ : kidsOf kl9 pj = some ks9 ∧ (∀ x ls, kl x = some ls → kl9 x = some ls) ∧ (∀ q ∈ ex9, q.st = 0) ∧ _)
             have HG9 := Lib.hid n1
             have HV9 := Lib.hid n5
             have HCH9 := Lib.hid (gk_trans HCH8.out HLOC.out n2)
             have HLOC9 := Lib.hid (loc_trans HCH8.out.size HLOC.out n3)
             have HO9 := Lib.hid (own_gk hC HG8.out HO8.out HOLO.out n2)
             clear n1 n2 n3 n4 n5 n6 n7 n8
             have HPI9 := Lib.hid (show (ps5.set i { pi with tt := j, st := pi.st } ++ ex9)[i]? = some { pi with tt := j, st := pi.st } by rw [List.getElem?_append_left (by rw [List.length_set]; exact HIJ5.out.1)]; exact HPI8.out)
             go_wp2_with fail
             refine (args_any c hC _ kl9 _ pv9 i _ HPI9.out w9 HG9.out).mono ?_
             rintro e w10 ⟨v10, ks10, ex10, kl10, pv10, rfl, n1, n2, n3, n4, n5, n6, n7, n8⟩
             have HN10 := Lib.hid (⟨n4, n6, n7, n8⟩ : kidsOf kl10 { pi with tt := j, st := pi.st } = some ks10 ∧ (∀ x ls, kl9 x = some ls → kl10 x = some ls) ∧ (∀ q ∈ ex10, q.st = 0) ∧ _)
             have HG10 := Lib.hid n1
             have HV10 := Lib.hid n5
             have HV9' := Lib.hid (HV9.out.keep fun b cur hb hcur => n2.block _ (ent_lt hcur) (HG9.out.gkint hC hb hcur (by decide)))
             have HCH10 := Lib.hid (gk_trans HCH9.out HLOC9.out n2)
             have HLOC10 := Lib.hid (loc_trans HCH9.out.size HLOC9.out n3)
             have HO10 := Lib.hid (own_gk hC HG9.out HO9.out HOLO.out n2)
             clear n1 n2 n3 n4 n5 n6 n7 n8 HV9 HO9 HO8
             obtain ⟨q9, cap9, rfl, c9a, c9b, c9c⟩ := HV9'.out.cell
             obtain ⟨q10, cap10, rfl, c10a, c10b, c10c⟩ := HV10.out.cell
             have HC9 := Lib.hid c9c; have HC10 := Lib.hid c10c
             clear c9c c10c
             go_wp2_with fail
             have hkl10 := kids_len HG10.out HN10.out.1
             have hU := hC.few
             have hks : ks9.length = ks10.length := by
              have hin := HG10.out.inv
              obtain ⟨hl1, _⟩ := hin.kid i (by have := HIJ5.out.1; simp [mkGr]; omega) nmi xsi ks10 ((gr_at (i := i) (p := { pi with tt := j, st := pi.st }) (by rw [List.getElem?_append_left (List.getElem?_eq_some_iff.1 HPI9.out).1]; exact HPI9.out)).1.trans HVI.out) ((gr_at (i := i) (p := { pi with tt := j, st := pi.st }) (by rw [List.getElem?_append_left (List.getElem?_eq_some_iff.1 HPI9.out).1]; exact HPI9.out)).2.trans HN10.out.1)
              have hpj10 : (ps5.set i { pi with tt := j, st := pi.st } ++ ex9 ++ ex10)[j]? = some pj := by
               rw [List.append_assoc, List.getElem?_append_left (List.getElem?_eq_some_iff.1 HPJ8.out).1]; exact HPJ8.out
              obtain ⟨hl2, _⟩ := hin.kid j (by have := HIJ5.out.2.1; simp [mkGr]; omega) nmj xsj ks9 ((gr_at hpj10).1.trans HVJ.out) ((gr_at hpj10).2.trans (kidsOf_more HN10.out.2.1 HN9.out.1))
              rw [hl1, hl2]; exact HE.out.2.symm
             have hkr : kk ≤ 30000000000 := by have := HKS.out; unfold jmeas at this; omega
             have HPJ0 : Hid (PJ c w w.heap.size (ps5.set i { pi with tt := j, st := pi.st } ++ ex9 ++ ex10) kl10 (linkR rep i j) pv10 pv0 r ks10 ks9 (.slice q10 ks10.length cap10) (.slice q9 ks9.length cap9) 0 (.slice (some ⟨ob, 0, none⟩) kk c7) w10) := Lib.hid ⟨HG10.out, by rw [waits_zero, Nat.add_zero, ← HKK.out]; exact HO10.out, HV10.out, HV9'.out, HCH10.out⟩
             clear c9a c9b HC9 HC10 HG10 HO10 HCH10 HV10 HV9'
             go_loopw [7, 77] (fun ov iv wx => ∃ m : Nat, iv = .int .i64 (m : Int) ∧ m ≤ ks10.length ∧ Hid (PJ c w w.heap.size (ps5.set i { pi with tt := j, st := pi.st } ++ ex9 ++ ex10) kl10 (linkR rep i j) pv10 pv0 r ks10 ks9 (.slice q10 ks10.length cap10) (.slice q9 ks9.length cap9) m ov wx)) (fun _ iv _ => ks10.length - (intOf iv).toNat)
             case atStart => exact ⟨0, rfl, Nat.zero_le _, HPJ0⟩
             case round =>
              clear HPJ0
              obtain ⟨m, rfl, hm, HPJ1⟩ := hrel
              by_cases hmk : m = ks10.length
              · subst hmk
                go_wp2_with fail
                obtain ⟨hJL, hk0⟩ := jl_lists hC HG5.out.inv HG5.out.outr HPI.out HPJ.out HIJ5.out.2.2.1 HIJ5.out.2.2.2 HNE.out HI.out.symm HJ.out.symm HPS.out.1 HPS.out.2.1 HPS.out.2.2.1 HPS.out.2.2.2.1 HPS.out.2.2.2.2 HVI.out HVJ.out HE.out HN9.out HN10.out HPJ1.out HLOC10.out (by rw [← HKK.out]; exact HKS.out)
                go_roundg (gk - 1)
                case measure => omega
                case rel => exact Lib.hid hJL
              · have hm1 := jq_lt hm hmk
                have hm2 := jq_lt2 hm hmk hks
                obtain ⟨a, hka⟩ : ∃ a, ks10[m]? = some a := ⟨_, List.getElem?_eq_getElem (jq_s hm hmk)⟩
                obtain ⟨b, hkb⟩ : ∃ b, ks9[m]? = some b := ⟨_, List.getElem?_eq_getElem (hks ▸ jq_s hm hmk)⟩
                obtain ⟨x1, x2, e1, _, _, hc1⟩ := HPJ1.out.2.2.1.cell
                obtain ⟨x3, x4, e2, _, _, hc2⟩ := HPJ1.out.2.2.2.1.cell
                injection e1 with e1 f1 f2; injection e2 with e2 f3 f4
                clear f1 f2 f3 f4
                obtain ⟨b1, hb1, hd1⟩ := hc1 m a hka
                obtain ⟨b2, hb2, hd2⟩ := hc2 m b hkb
                rw [← e1] at hb1; rw [← e2] at hb2
                subst hb1; subst hb2
                clear hc1 hc2 e1 e2
                obtain ⟨p7, c7', rfl⟩ := own_slice HPJ1.out.2.1
                have HKA := Lib.hid hka; have HKB := Lib.hid hkb
                have hw1 := jq_w hm hkl10 hU
                have hn : r.length + m ≤ 100000000000 := jq_n hkr HKK.out hm hkl10 hU
                have hsz : w.heap.size ≤ wr.heap.size := HPJ1.out.2.2.2.2.size
                have HOW := Lib.hid HPJ1.out.2.1
                have HM := Lib.hid hm; have HMK := Lib.hid hmk; have HKS2 := Lib.hid hks; have HKR := Lib.hid hkr; have HKL := Lib.hid hkl10; have HUU := Lib.hid hU
                clear hka hkb hm hmk hks hkr hkl10 hU
                go_wp2_with (at_builtin; refine wpList_append_new eltTwo wr rfl (.tmp 82) (.tmp 89) rfl w.heap.size (.slice p7 (r.length + m) c7') (r.length + m) _ rfl HOW.out #[.int .i64 (a : Int), .int .i64 (b : Int)] 132 rfl rfl (by intro u hu; simp only [List.mem_cons, List.not_mem_nil, or_false] at hu; rcases hu with rfl | rfl <;> rfl) hn hsz ?_)
                intro v9 w11 hown9 hch9 hloc9
                obtain ⟨p9, c9, rfl⟩ := own_slice hown9
                have HP2 := Lib.hid (HPJ1.out.step hC HZ.out HZZ.out HKA.out HKB.out hown9 hch9)
                clear hown9 hch9 hloc9 hd1 hd2 hsz
                go_wp2_with fail
                go_roundw
                case measure => rw [hw1]; exact jq_d HM.out HMK.out
                case rel => exact ⟨m + 1, by rw [hw1], jq_s HM.out HMK.out, HP2⟩
           · have hb2 : ((xsi.length : Int) != (xsj.length : Int)) = true := by simp; omega
             have hb1 : (nmi != nmj) = false := by simp [hnm]
             have hb3 : (nmi == nmj) = true := by simp [hnm]
             have HE := Lib.hid hln
             clear hln hnm
             go_wp2_with fail
             go_ret
             exact ⟨ps5, kl, rep, _, false, rfl, HG7.out, HCH7.out, HLOC.out, HPS.out.2.2.2.2, (fun e => by cases e), fun _ σ => jl_not HPS.out.2.1 HQ.out (HDI.out.trans HVI.out) (HDJ.out.trans HVJ.out) HI.out.symm HJ.out.symm (.inr HE.out) σ⟩
         · have hb1 : (nmi != nmj) = true := by simp [hnm]
           have hb3 : (nmi == nmj) = false := by simp [hnm]
           have HE := Lib.hid hnm
           clear hnm
           go_wp2_with fail
           go_ret
           exact ⟨ps5, kl, rep, _, false, rfl, HG7.out, HCH7.out, HLOC.out, HPS.out.2.2.2.2, (fun e => by cases e), fun _ σ => jl_not HPS.out.2.1 HQ.out (HDI.out.trans HVI.out) (HDJ.out.trans HVJ.out) HI.out.symm HJ.out.symm (.inl HE.out) σ⟩
end Go.Proofs.YtcblppojnailpaaDoor
