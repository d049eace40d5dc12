/-
  Several texts in one: UIns, UJdP, USzG, USizP, USizW, UEnd3, UTellP, UGph, UGphW.
-/
import Derived.Test.YtcblppojnailpaaDoorH08
import Derived.BigRegion
import Derived.Test.YtcblppojnailpaaDoorH05
import Derived.Test.YtcblppojnailpaaDoorH06
import Derived.Test.YtcblppojnailpaaDoorH07
import Derived.Test.YtcblppojnailpaaDoorH04
namespace Go.Proofs.YtcblppojnailpaaDoor
open Go Go.RowKit
set_option linter.unusedVariables false
set_option linter.unusedSimpArgs false
set_option maxHeartbeats 4000000 in
set_option maxRecDepth 100000 in
theorem inside_any (c : GCx) (hC : c.Ok) (hL : Lows c) (i0 j0 si : Nat) (ps0 : List Prt) (kl0 : LKey → Option (List Nat)) (rep : Nat → Nat) (pv0 : Value) (w : World) (h : GSt c 2 w ps0 kl0 rep pv0) (hi : si < ps0.length) (hpar : Ux.Par (mkGr ps0 kl0 rep) i0 j0) (hst : ∀ p ∈ ps0, p.st = 0) :
 Calls Tryd.prog 45 #[.pointer (some ⟨c.gb, 0, none⟩), .int .i64 si] w (InsPost c ps0 kl0 rep pv0 i0 j0 (rep si) w) := by
 have HG0 := Lib.hid h
 have HPAR := Lib.hid hpar
 have HST := Lib.hid hst
 have HLO := Lib.hid (show c.y0 ≤ w.heap.size ∧ c.z1 ≤ w.heap.size ∧ c.z2 < w.heap.size from h.size)
 have HSI := Lib.hid (⟨h.inv.rlt _ hi, h.inv.rr _ hi⟩ : rep si < ps0.length ∧ rep (rep si) = rep si)
 clear h hpar hst
 go_enter Tryd.func45, Tryd.ntmps45
 go_wp2_with fail
 refine (end_any c hC 2 ps0 kl0 rep pv0 si hi w HG0.out).mono ?_
 rintro e w1 ⟨rfl, ps1, g1, s1, st1, ch1⟩
 have HS1 := Lib.hid s1
 obtain ⟨q, hq⟩ : ∃ q, ps1[rep si]? = some q := ⟨_, List.getElem?_eq_getElem (by rw [HS1.out.1]; exact HSI.out.1)⟩
 have HQ := Lib.hid hq
 have HG1 := Lib.hid g1
 have HST1 := Lib.hid (st_same HST.out s1 st1)
 have HC1 := Lib.hid (show Chg (GKeep c pv0) w w1 from ch1.mono fun k _ hk => .inr (.inr (.inr (.inr hk))))
 clear s1 st1 ch1 g1 hq
 obtain ⟨s0, hs0⟩ : ∃ s0, s0 = rep si := ⟨_, rfl⟩
 rw [← hs0] at HQ HSI ⊢
 have HS0 := Lib.hid hs0
 clear hs0
 go_wp2_with fail
 refine (begin_any c hC ps1 kl0 rep pv0 s0 q HQ.out w1 HG1.out).mono ?_
 rintro e w2 ⟨v, ks, ex, kl', pv', rfl, n1, n2, n3, n4, n5, n6, n7, n8⟩
 obtain ⟨q2, cap2, rfl, _, _, _⟩ := n5.cell
 have HIS := Lib.hid (InS.begin0 HS1.out HST1.out n1 HQ.out HSI.out.2 rfl n6 n4 n7 n8 HPAR.out)
 have HKL := Lib.hid (imeas_start c hC s0 ks (kids_len n1 n4))
 have HG2 := Lib.hid n1
 have HC2 := Lib.hid (gk_trans HC1.out (.inl rfl) n2)
 have HL2 := Lib.hid (loc_trans HC1.out.size (.inl rfl) n3)
 have HV2 := Lib.hid n5
 clear n1 n2 n3 n4 n5 n6 n7 n8
 go_upto_region 3 with fail
 have hb3 : Below w2.heap.size w2 (w2.alloc (.cells #[.int .i64 (s0 : Int), .slice q2 ks.length cap2] 127)) := (Below.refl _ _).alloc (Nat.le_refl _) _
 have HIM : Hid (IM c rep w pv0 c.z2 (ps1.set s0 { q with tt := q.tt, st := 1 } ++ ex) kl' pv' [] [⟨s0, ks, .slice q2 ks.length cap2⟩] (.slice none 0 0) (.slice (some ⟨w2.heap.size, 0, none⟩) 1 1) (w2.alloc (.cells #[.int .i64 (s0 : Int), .slice q2 ks.length cap2] 127))) := Lib.hid
  ⟨HG2.out.below hC hb3, own_none _ _ _ _ (Nat.le_trans HC2.out.size hb3.size), ⟨rfl, .inr ⟨_, 1, _, rfl, HC2.out.size, ent_new w2 _ _, Nat.le_refl _, by decide, rfl, rfl⟩⟩, fun s hs => by
   rw [List.mem_singleton.1 hs]
   exact (HV2.out.keep fun b cur _ hcur => hb3.block _ (ent_lt hcur)).rest, HC2.out.trans (.of_below hb3), HL2.out, ⟨(fun b hb => by cases hb), .inr HLO.out.2.2⟩⟩
 have HIL : Hid (IL c ps0 kl0 rep i0 j0 s0 w pv0 (imeas c [] [(s0, ks)]) (.slice none 0 0) (.slice (some ⟨w2.heap.size, 0, none⟩) 1 1) (w2.alloc (.cells #[.int .i64 (s0 : Int), .slice q2 ks.length cap2] 127))) := Lib.hid ⟨_, _, _, _, _, _, HIM.out, HIS.out, Nat.le_refl _, HKL.out⟩
 clear hb3 HIM HIS HG2 HC2 HL2 HV2 HG1 HC1 HS1 HST1 HQ
 generalize w2.alloc (.cells #[.int .i64 (s0 : Int), .slice q2 ks.length cap2] 127) = w3 at HIL ⊢
 go_loopg [6, 7] (imeas c [] [(s0, ks)]) (fun k lv wv wr => Hid (IL c ps0 kl0 rep i0 j0 s0 w pv0 k lv wv wr))
 case atStart => exact HIL
 case round =>
  clear HIL HKL HST HPAR HG0
  obtain ⟨z, ps, kl, pv, L, W, hM, hS, hk⟩ := hrel.out
  clear hrel
  obtain ⟨pl, cl, rfl⟩ := own_slice hM.lrow
  obtain ⟨pw, cw, rfl⟩ := own_slice hM.wrow
  have HM := Lib.hid hM
  have HSS := Lib.hid hS
  have HK := Lib.hid hk
  cases W with
  | nil =>
    clear hM hS hk
    go_wp2_with fail
    go_ret2
    exact ⟨z, ps, kl, pv, L, [], _, _, HM.out, .inl ⟨rfl, by rw [← HS0.out]; exact HSS.out⟩⟩
  | cons s r =>
    obtain ⟨p, rest, v⟩ := s
    obtain ⟨kk, hkk⟩ : ∃ kk, kk = r.length := ⟨_, rfl⟩
    have hl1 : (⟨p, rest, v⟩ :: r : List Stp).length = kk + 1 := by rw [hkk]; rfl
    have hwr := hM.wrow
    rw [hl1] at hwr ⊢
    obtain ⟨wb, cur, rfl, hwb, hwbl, hk2, hk3, hgo, hcell⟩ := own_open hwr (by omega)
    clear HM
    rw [hl1] at hM
    have HM := Lib.hid hM
    have hk1 : (kk : Int) + 1 ≤ (cw : Int) := by omega
    have hk4 : wrap64 ((kk : Int) + 1 - 1) = (kk : Int) := by
     have h1 := hS.lens; have h2 := hM.gst.few2; have h3 := hC.few
     have h4 : (wpr (⟨p, rest, v⟩ :: r)).length = kk + 1 := by rw [← hl1]; simp [wpr]
     have h5 : llen (c.at z).U = llen c.U := rfl
     unfold wrap64; omega
    have hkk0 : (0 : Int) < (kk : Int) + 1 := by omega
    have o0 := hcell _ _ (wcells_top ⟨p, rest, v⟩ r).1
    have o1 := hcell _ _ (wcells_top ⟨p, rest, v⟩ r).2
    rw [← hkk] at o0 o1
    have x0 := ent_cell hgo _ _ o0
    have x1 := ent_cell hgo _ _ o1
    have HGO := Lib.hid hgo
    have HO := Lib.hid (⟨o0, o1⟩ : _ ∧ _)
    have HKK := Lib.hid hkk
    have HWR := Lib.hid hwr
    have HRS := Lib.hid (hM.rests _ (by simp : (⟨p, rest, v⟩ : Stp) ∈ ⟨p, rest, v⟩ :: r))
    clear hM hS hk hgo hcell o0 o1 hl1 hwr hk2
    cases rest with
    | nil =>
      obtain ⟨q0, cap0, hv⟩ := HRS.out.form
      have hv' : v = .slice q0 0 cap0 := hv
      subst hv'
      clear hv hkk
      go_upto_region 6 with fail
      obtain ⟨pp, pc, rfl⟩ := own_slice HM.out.gst.own
      have hpl : p < ps.length := HSS.out.top.1
      obtain ⟨pb, pcur, rfl, hpb, hpbl, hpk2, hpk3, hpe, hpcell⟩ := own_open HM.out.gst.own (by omega)
      obtain ⟨y, hy⟩ : ∃ y, ps[p]? = some y := ⟨_, List.getElem?_eq_getElem hpl⟩
      have x4 := ent_cell hpe _ _ (hpcell (p * 5 + 4) (.int .i64 y.st) (by rw [pcells_at 4 hy (by decide)]; rfl))
      have xf := ent_free hpe
      have g1 := ent_cell HM.out.gst.gcell 1 _ rfl
      have hp1 : (p : Int) < (ps.length : Int) := by omega
      have hp2 : (ps.length : Int) ≤ (pc : Int) := by omega
      have hne : ¬ wb = pb := fun e => own_ne HM.out.gst.own HGO.out (fun cs e => by injection e with _ e _; cases e) (by rw [e]; rfl)
      have HY := Lib.hid hy
      clear hpe hpcell hy hpl hpk2
      go_region
      have hdr : Below (wr.setCell ⟨pb, p * 5 + 4, none⟩ (.int .i64 2)).heap.size (wr.setCell ⟨pb, p * 5 + 4, none⟩ (.int .i64 2)) ((wr.setCell ⟨pb, p * 5 + 4, none⟩ (.int .i64 2)).drew) := (Below.refl _ _).drew
      have hg4 := (HM.out.gst.state (hC.at hL z) HY.out 2 rfl).below (hC.at hL z) hdr
      have hc4 : Chg (GKeep c (.slice (some ⟨pb, 0, none⟩) ps.length pc)) wr ((wr.setCell ⟨pb, p * 5 + 4, none⟩ (.int .i64 2)).drew) := ((Chg.set (R := (· = pb)) (p := ⟨pb, p * 5 + 4, none⟩) rfl _).mono fun k _ hk => .inr (.inr (.inr (.inr (by rw [hk]; rfl))))).trans (.of_below hdr)
      have HM4 := Lib.hid (HM.out.parts hg4 hc4 (.inl rfl) hC HLO.out.1)
      have HS4 := Lib.hid (HSS.out.pop HY.out)
      have HGO4 := Lib.hid (ent_below (ent_other HGO.out pb (p * 5 + 4) (.int .i64 2) hne) hdr)
      clear hg4 hc4 hdr g1 x4 xf x0 x1 hne
      generalize (wr.setCell ⟨pb, p * 5 + 4, none⟩ (.int .i64 2)).drew = w4 at HM4 HGO4 ⊢
      have x0 := ent_cell HGO4.out _ _ HO.out.1
      have hn : L.length ≤ 100000000000 := by have h1 := HSS.out.lens; have h2 := HM.out.gst.few2; have h3 := hC.few; have h5 : llen (c.at z).U = llen c.U := rfl; omega
      have hsz : w.heap.size ≤ w4.heap.size := HM4.out.chg.size
      go_wp2_with (at_builtin; refine wpList_append_new eltInt w4 rfl (.tmp 40) (.tmp 45) rfl w.heap.size (.slice pl L.length cl) L.length _ rfl HM4.out.lrow #[.int .i64 (p : Int)] 3 rfl rfl (by intro u hu; simp only [List.mem_cons, List.not_mem_nil, or_false] at hu; subst hu; rfl) hn hsz ?_)
      intro v5 w5 hown5 hch5 hloc5
      obtain ⟨p5, c5, rfl⟩ := own_slice hown5
      obtain ⟨z', hm5⟩ := HM4.out.list hC hL ⟨HLO.out.1, HLO.out.2.1⟩ (p := p) hch5 hown5 hloc5
      have HM5 := Lib.hid hm5
      clear hown5 hch5 hloc5 hm5 x0 hsz
      go_wp2_with fail
      go_roundg (gk - 1)
      case measure =>
       have h1 := HK.out
       have h2 := imeas_pop c L p (wpr r)
       have h3 : imeas c L (wpr (⟨p, [], .slice q0 0 cap0⟩ :: r)) = imeas c L ((p, []) :: wpr r) := rfl
       omega
      case rel =>
       have hkk := HKK.out
       subst hkk
       have hcut := own_cut HM5.out.wrow (m := r.length) (by simp)
       rw [wcells_take] at hcut
       have h1 := HK.out
       have h2 := imeas_pop c L p (wpr r)
       have h3 : imeas c L (wpr (⟨p, [], .slice q0 0 cap0⟩ :: r)) = imeas c L ((p, []) :: wpr r) := rfl
       exact Lib.hid ⟨z', _, _, _, L ++ [p], r, HM5.out.way hC hL ⟨HLO.out.1, HLO.out.2.1⟩ (.refl _ _) hcut fun s hs => HM5.out.rests s (List.mem_cons_of_mem _ hs), HS4.out, by omega, by omega⟩
    | cons x rest =>
      obtain ⟨b, o, cap, p', hv, hxc, HRT, hsl⟩ := HRS.out.tail
      have hv' : v = .slice (some ⟨b, o, none⟩) (rest.length + 1) cap := hv
      subst hv'
      have hne0 : (((rest.length : Int) + 1) == 0) = false := by simp; omega
      have hpos : (0 : Int) < (rest.length : Int) + 1 := by omega
      have HRTT := Lib.hid HRT
      have HSL := Lib.hid hsl
      have hxl : x < ps.length := HSS.out.next HM.out.gst
      have HXL := Lib.hid hxl
      clear hv HRT hsl hkk hxl
      go_wp2_with fail
      refine (end_any (c.at z) (hC.at hL z) 2 ps kl rep pv x HXL.out wr HM.out.gst).mono ?_
      rintro e w4 ⟨rfl, ps4, g4, s4, st4, ch4⟩
      have HM4 := Lib.hid (HM.out.parts g4 (ch4.mono fun k _ hk => .inr (.inr (.inr (.inr hk)))) (.inl rfl) hC HLO.out.1)
      have HS4 := Lib.hid (HSS.out.same s4 st4)
      have HC4 := Lib.hid ch4
      have HGO4 := Lib.hid (ent_chg HGO.out ch4 (own_ne HM.out.gst.own HGO.out fun cs e => by injection e with _ e _; cases e))
      clear g4 s4 st4 ch4 x0 x1 hxc
      obtain ⟨y, hy⟩ : ∃ y, y = rep x := ⟨_, rfl⟩
      rw [← hy]
      have HY := Lib.hid hy
      clear hy
      have x0 := ent_cell HGO4.out _ _ HO.out.1
      have x1 := ent_cell HGO4.out _ _ HO.out.2
      have xf := ent_free HGO4.out
      have hsl := HSL.out w4
      go_upto_region 11 with fail
      have hset : Chg (fun k => (Value.slice (some ⟨wb, 0, none⟩) (kk + 1) cw).ownBlock = some k) w4 (w4.setCell ⟨wb, kk * 2 + 1, none⟩ (.slice p' rest.length (cap - 1))) := Chg.set (R := fun k => (Value.slice (some ⟨wb, 0, none⟩) (kk + 1) cw).ownBlock = some k) (p := ⟨wb, kk * 2 + 1, none⟩) rfl _
      have hwr4 := HM4.out.wrow
      rw [show (⟨p, x :: rest, .slice (some ⟨b, o, none⟩) (rest.length + 1) cap⟩ :: r : List Stp).length = kk + 1 by rw [HKK.out]; rfl] at hwr4
      have hsto := (hwr4.stored (kk * 2 + 1) (.slice p' rest.length (cap - 1))).1
      rw [HKK.out] at hsto
      rw [wcells_set p (x :: rest) rest] at hsto
      rw [← HKK.out] at hsto
      have hm5 := HM4.out.way hC hL ⟨HLO.out.1, HLO.out.2.1⟩ (W' := ⟨p, rest, .slice p' rest.length (cap - 1)⟩ :: r) hset (by rw [show (⟨p, rest, .slice p' rest.length (cap - 1)⟩ :: r : List Stp).length = kk + 1 by rw [HKK.out]; rfl]; exact hsto) (fun s hs => by
       rcases List.mem_cons.1 hs with e | hs
       · subst e
         exact HRTT.out.keep fun b cur hb hcur => HC4.out.block _ (ent_lt hcur) (own_ne HM.out.gst.own hcur fun cs e => by injection e with _ e _; cases e)
       · exact HM4.out.rests s (List.mem_cons_of_mem _ hs))
      have HM5 := Lib.hid hm5
      clear hset hsto hwr4 hm5 x0 x1 xf hsl HGO HGO4
      generalize w4.setCell ⟨wb, kk * 2 + 1, none⟩ (.slice p' rest.length (cap - 1)) = w5 at HM5 ⊢
      have hyl : y < ps4.length := by rw [HY.out]; exact HM4.out.gst.inv.rlt _ (HS4.out.next HM4.out.gst)
      obtain ⟨q, hq⟩ : ∃ q, ps4[y]? = some q := ⟨_, List.getElem?_eq_getElem hyl⟩
      obtain ⟨pp, pc, rfl⟩ := own_slice HM5.out.gst.own
      obtain ⟨pb, pcur, rfl, hpb, hpbl, hpk2, hpk3, hpe, hpcell⟩ := own_open HM5.out.gst.own (by omega)
      have x4 := ent_cell hpe _ _ (hpcell (y * 5 + 4) (.int .i64 q.st) (by rw [pcells_at 4 hq (by decide)]; rfl))
      have g1 := ent_cell HM5.out.gst.gcell 1 _ rfl
      have hp1 : (y : Int) < (ps4.length : Int) := by omega
      have hp2 : (ps4.length : Int) ≤ (pc : Int) := by omega
      have HQ := Lib.hid hq
      obtain ⟨t2, t1, t0⟩ := HS4.out.st y q hq
      clear hpe hpcell hq hyl hpk2
      by_cases hyW : y ∈ (wpr (⟨p, x :: rest, .slice (some ⟨b, o, none⟩) (rest.length + 1) cap⟩ :: r)).map (·.1)
      · have hst := t1 hyW
        rw [hst] at x4
        have HYW := Lib.hid hyW
        clear t0 t1 t2 hyW hst
        go_wp2_with fail
        go_ret2
        exact ⟨z, ps4, kl, _, L, _, _, _, HM5.out, .inr ⟨rfl, HS4.out.grow, HS4.out.ring (c := c.at z) HM4.out.gst (by rw [← HY.out]; exact HYW.out)⟩⟩
      · by_cases hyL : y ∈ L
        · have hst := t2 hyL
          rw [hst] at x4
          have HYL := Lib.hid hyL
          clear t0 t1 t2 hyW hyL hst
          go_wp2_with fail
          go_roundg (gk - 1)
          case measure =>
           have h1 := HK.out
           have h2 := imeas_skip c L p x rest (wpr r)
           have h3 : imeas c L (wpr (⟨p, x :: rest, .slice (some ⟨b, o, none⟩) (rest.length + 1) cap⟩ :: r)) = imeas c L ((p, x :: rest) :: wpr r) := rfl
           omega
          case rel =>
           have h1 := HK.out
           have h2 := imeas_skip c L p x rest (wpr r)
           have h3 : imeas c L (wpr (⟨p, x :: rest, .slice (some ⟨b, o, none⟩) (rest.length + 1) cap⟩ :: r)) = imeas c L ((p, x :: rest) :: wpr r) := rfl
           exact Lib.hid ⟨z, _, _, _, L, ⟨p, rest, .slice p' rest.length (cap - 1)⟩ :: r, HM5.out, HS4.out.skip (by rw [← HY.out]; exact HYL.out), by show imeas c L ((p, rest) :: wpr r) ≤ _; omega, by omega⟩
        · have hst := t0 hyL hyW
          rw [hst] at x4
          have HYL := Lib.hid hyL; have HYW := Lib.hid hyW
          clear t0 t1 t2 hyW hyL hst
          go_wp2_with fail
          refine (begin_any (c.at z) (hC.at hL z) ps4 kl rep _ y q HQ.out w5 HM5.out.gst).mono ?_
          rintro e w6 ⟨v6, ks6, ex6, kl6, pv6, rfl, n1, n2, n3, n4, n5, n6, n7, n8⟩
          obtain ⟨q6, cap6, rfl, _, _, _⟩ := n5.cell
          have HM6 := Lib.hid (HM5.out.parts n1 n2 n3 hC HLO.out.1)
          have hs6 := (InS.push HM4.out.gst n1 HS4.out (q := q) (ks := ks6) (ex := ex6) (by rw [← HY.out]; exact HQ.out) (by rw [← HY.out]; exact HYL.out) (by rw [← HY.out]; exact HYW.out) (by rw [← HY.out]) n6 n4 n7 n8)
          rw [← HY.out] at hs6
          have HS6 := Lib.hid hs6
          have HR6 := Lib.hid n5.rest
          have HK6 := Lib.hid (kids_len n1 n4)
          have HF6 := Lib.hid n1.few2
          clear n1 n2 n3 n4 n5 n6 n7 n8 x4 g1 hs6
          have hn : kk + 1 ≤ 100000000000 := by have h1 := HSS.out.lens; have h2 := HM.out.gst.few2; have h3 := hC.few; have h5 : llen (c.at z).U = llen c.U := rfl; have h4 : (wpr (⟨p, x :: rest, .slice (some ⟨b, o, none⟩) (rest.length + 1) cap⟩ :: r)).length = kk + 1 := (by rw [HKK.out]; simp [wpr]); omega
          have hsz : w.heap.size ≤ w6.heap.size := HM6.out.chg.size
          have hrow : w6.ownsRow w.heap.size 127 2 (.slice (some ⟨wb, 0, none⟩) (kk + 1) cw) (kk + 1) (wcells (⟨p, rest, .slice p' rest.length (cap - 1)⟩ :: r)) := by
           have := HM6.out.wrow
           rw [show (⟨p, rest, .slice p' rest.length (cap - 1)⟩ :: r : List Stp).length = kk + 1 by rw [HKK.out]; rfl] at this
           exact this
          have HROW := Lib.hid hrow
          clear hrow
          go_wp2_with (at_builtin; refine wpList_append_new eltStep w6 rfl (.tmp 80) (.tmp 84) rfl w.heap.size (.slice (some ⟨wb, 0, none⟩) (kk + 1) cw) (kk + 1) _ rfl HROW.out #[.int .i64 (y : Int), .slice q6 ks6.length cap6] 127 rfl rfl (by intro u hu; simp only [List.mem_cons, List.not_mem_nil, or_false] at hu; rcases hu with rfl | rfl <;> rfl) hn hsz ?_)
          intro v9 w9 hown9 hch9 hloc9
          obtain ⟨p9, c9, rfl⟩ := own_slice hown9
          have HM9 := Lib.hid (HM6.out.way hC hL ⟨HLO.out.1, HLO.out.2.1⟩ (W' := ⟨y, ks6, .slice q6 ks6.length cap6⟩ :: ⟨p, rest, .slice p' rest.length (cap - 1)⟩ :: r) hch9 (by
           have : (⟨y, ks6, .slice q6 ks6.length cap6⟩ :: ⟨p, rest, .slice p' rest.length (cap - 1)⟩ :: r : List Stp).length = kk + 1 + 1 := by rw [HKK.out]; rfl
           rw [this]; exact hown9) fun s hs => by
            rcases List.mem_cons.1 hs with e | hs
            · subst e; exact HR6.out
            · exact HM6.out.rests s hs)
          clear hown9 hch9 hloc9 hsz
          go_wp2_with fail
          have hms : imeas c L ((y, ks6) :: (p, rest) :: wpr r) + 1 ≤ imeas c L ((p, x :: rest) :: wpr r) := by
           have h1 := HS6.out.lens
           have h2 := HF6.out
           have h5 : llen (c.at z).U = llen c.U := rfl
           have h6 := HK6.out
           rw [h5] at h2 h6
           simp only [List.length_cons] at h1
           exact imeas_push c L p x y rest ks6 (wpr r) (Nat.le_trans h1 h2) h6
          have hms2 : imeas c L (wpr (⟨p, x :: rest, .slice (some ⟨b, o, none⟩) (rest.length + 1) cap⟩ :: r)) = imeas c L ((p, x :: rest) :: wpr r) := rfl
          have hms3 := HK.out
          go_roundg (gk - 1)
          case measure => omega
          case rel =>
           exact Lib.hid ⟨z, _, _, _, L, ⟨y, ks6, .slice q6 ks6.length cap6⟩ :: ⟨p, rest, .slice p' rest.length (cap - 1)⟩ :: r, HM9.out, HS6.out, by show imeas c L ((y, ks6) :: (p, rest) :: wpr r) ≤ _; omega, by omega⟩
end Go.Proofs.YtcblppojnailpaaDoor
namespace Go.Proofs.YtcblppojnailpaaDoor
open Go Go.RowKit
set_option linter.unusedVariables false
set_option linter.unusedSimpArgs false
theorem jd_start {f : Ux.Map} {ta tb : Ux.Ty} {ps1 ps2 : List Prt} {i j : Nat} {kl : LKey → Option (List Nat)} (h1 : ∃ p, ps1[i]? = some p ∧ NumOf f ta p.D) (h2 : ps1 = [] ∨ ∃ p : Prt, ps1 = [] ++ [p] ∧ i = ([] : List Prt).length ∧ p.tt = i ∧ p.st = 0) (h3 : ∃ p, ps2[j]? = some p ∧ NumOf f tb p.D) (h4 : ps2 = ps1 ∨ ∃ p : Prt, ps2 = ps1 ++ [p] ∧ j = ps1.length ∧ p.tt = j ∧ p.st = 0) :
 i < ps2.length ∧ j < ps2.length ∧ Ux.Cong (mkGr ps2 kl id) [(i, j)] ∧ (∀ σ, (Ux.KS f (mkGr ps2 kl id) σ ∧ ((mkGr ps2 kl id).D i).app σ = ((mkGr ps2 kl id).D j).app σ) ↔ (Ux.Sol f σ ∧ ta.app σ = tb.app σ)) ∧ Ux.Par (mkGr ps2 kl id) i j ∧ (∀ p ∈ ps2, p.st = 0) ∧ ∀ σ, Ux.Sol f σ → ((mkGr ps2 kl id).D i).app σ = ta.app σ := by
 obtain ⟨p1, a1, a2⟩ := h1
 obtain ⟨p2, b1, b2⟩ := h3
 rcases h2 with rfl | ⟨p, rfl, rfl, c1, c2⟩
 · simp at a1
 have a3 : ps2[([] : List Prt).length]? = some p1 := by
  rcases h4 with rfl | ⟨p', rfl, _⟩
  · exact a1
  · rw [List.getElem?_append_left (List.getElem?_eq_some_iff.1 a1).1]; exact a1
 refine ⟨(List.getElem?_eq_some_iff.1 a3).1, (List.getElem?_eq_some_iff.1 b1).1, fun x _ hne => absurd rfl hne, fun σ => ?_, fun x hx => ?_, ?_, fun σ k1 => by rw [(gr_at a3).1]; exact a2.sol k1⟩
 · rw [(gr_at a3).1, (gr_at b1).1]
   constructor
   · rintro ⟨⟨k1, _⟩, k2⟩
     exact ⟨k1, by rw [← a2.sol k1, ← b2.sol k1]; exact k2⟩
   · rintro ⟨k1, k2⟩
     exact ⟨⟨k1, fun _ _ => rfl⟩, by rw [a2.sol k1, b2.sol k1]; exact k2⟩
 · have hx' : x < ps2.length := hx
   rcases h4 with rfl | ⟨p', rfl, rfl, _⟩
   · simp at hx'; exact .inl (by simp; omega)
   · simp at hx' ⊢; rcases Nat.lt_or_ge x 1 with h | h
     · exact .inl (by omega)
     · exact .inr (.inl (by omega))
 · rcases h4 with rfl | ⟨p', rfl, _, _, d⟩
   · intro y hy; simp at hy; rw [hy]; exact c2
   · intro y hy; simp at hy; rcases hy with hy | hy
     · rw [hy]; exact c2
     · rw [hy]; exact d
theorem InS.ranked {c : GCx} {e : Nat} {w : World} {ps0 ps : List Prt} {kl0 kl : LKey → Option (List Nat)} {rep : Nat → Nat} {pv : Value} {i0 j0 s0 : Nat} {L : List Nat} (h : InS ps0 kl0 rep i0 j0 s0 ps kl L []) (hg : GSt c e w ps kl rep pv) (hc : Ux.Cong (mkGr ps kl rep) []) (ha : rep i0 = s0) (hb : rep j0 = s0) : Ux.Ranked (mkGr ps kl rep) (fun x => L.idxOf x) := by
 have hs : s0 ∈ L := by simpa using h.start
 exact Ux.ranked_of hg.inv hg.klt (by simpa using h.nd) h.lok (Ux.all_in hg.inv hc h.lok h.par (by show rep i0 ∈ L; rw [ha]; exact hs) (by show rep j0 ∈ L; rw [hb]; exact hs))
/-- What joined answers. -/
def JdPost (f : Ux.Map) (gb vb lb fb sb ub : Nat) (ta tb : Ux.Ty) (w : World) (en : Ending) (w' : World) : Prop :=
 ∃ (lv : Value) (b : Bool), en = .returned (.tuple #[lv, .bool b]) ∧ Chg (fun k => k = gb ∨ k = vb ∨ k = lb ∨ k = fb) w w' ∧ (b = false → ∀ σ, ¬ (Ux.Sol f σ ∧ ta.app σ = tb.app σ)) ∧
  (b = true → ∃ (c : GCx) (z : Nat) (ps : List Prt) (kl : LKey → Option (List Nat)) (rep : Nat → Nat) (pv : Value) (L : List Nat) (lo : Nat), c.gb = gb ∧ c.vb = vb ∧ c.lb = lb ∧ c.fb = fb ∧ c.f = f ∧ c.sb = sb ∧ (∀ x ∈ c.U, x.1 ≠ sb) ∧ llen c.U ≤ ub ∧ c.Ok ∧ Lows c ∧ GSt (c.at z) 2 w' ps kl rep pv ∧ w'.ownsRow lo 3 1 lv L.length (nums L) ∧ (lv.ownBlock = some z ∨ z < lo) ∧ w.heap.size ≤ lo ∧ (∀ g, pv.ownBlock = some g → w.heap.size ≤ g) ∧
    Ux.Cong (mkGr ps kl rep) [] ∧ Ux.Ranked (mkGr ps kl rep) (fun x => L.idxOf x) ∧ Ux.LOk (mkGr ps kl rep) L ∧ L.Nodup ∧ (∀ x, x < ps.length → rep x ∈ L) ∧ (∀ σ, Ux.KS f (mkGr ps kl rep) σ ↔ (Ux.Sol f σ ∧ ta.app σ = tb.app σ)) ∧ ∃ i, i < ps.length ∧ rep i ∈ L ∧ (∀ σ, Ux.Sol f σ → ((mkGr ps kl rep).D i).app σ = ta.app σ) ∧ ∀ x ∈ L, Rch (mkGr ps kl rep) (rep i) x)
end Go.Proofs.YtcblppojnailpaaDoor
namespace Go.Proofs.YtcblppojnailpaaDoor
namespace Ux
set_option linter.unusedVariables false
set_option linter.unusedSimpArgs false
theorem term_v {g : Gr} {K i n : Nat} (hK : 0 < K) (h : g.D (g.rep i) = .v n) : termN g K i = .v n := by
 obtain ⟨k, rfl⟩ : ∃ k, K = k + 1 := ⟨K - 1, by omega⟩
 rw [termN, h]
theorem term_a {f : Map} {g : Gr} {rk : Nat → Nat} (hg : GInv f g) (hr : Ranked g rk) {K i : Nat} (hi : i < g.n) (hK : rk (g.rep i) < K) {nm : List UInt8} {xs : List Ty} (h : g.D (g.rep i) = .a nm xs) {ks : List Nat} (hk : g.kids (g.rep i) = some ks) :
 termN g K i = .a nm (ks.map (termN g K)) := by
 obtain ⟨k, rfl⟩ : ∃ k, K = k + 1 := ⟨K - 1, by omega⟩
 rw [termN, h]
 simp only [hk, Option.getD_some]
 congr 1
 refine List.map_congr_left fun c hc => ?_
 obtain ⟨ks', h1, h2⟩ := hr.kids i hi nm xs h
 rw [hk] at h1
 cases h1
 obtain ⟨h3, h4⟩ := h2 c hc
 exact (termN_stays hg hr k c h3 (by omega) (k + 1) (by omega)).symm
/-- What makes all that was made one so, and leaves what stands for nothing, makes of each part what it comes to. -/
theorem term_app {f : Map} {g : Gr} {rk : Nat → Nat} (hg : GInv f g) (hr : Ranked g rk) {K : Nat} (hK : ∀ i, i < g.n → rk (g.rep i) < K) {N : Sub} (hN : KS f g N) (hv : ∀ i, i < g.n → ∀ n, g.D (g.rep i) = .v n → N n = .v n) :
 ∀ (r i : Nat), rk (g.rep i) ≤ r → i < g.n → (g.D i).app N = termN g K i := by
 intro r
 induction r with
 | zero =>
   intro i h hi
   rw [hN.2 i hi]
   cases hD : g.D (g.rep i) with
   | v n => rw [term_v (by have := hK i hi; omega) hD, app_v, hv i hi n hD]
   | a nm xs =>
     obtain ⟨ks, h1, h2⟩ := hr.kids i hi nm xs hD
     have hks : ks = [] := by
      cases ks with
      | nil => rfl
      | cons c r => have := (h2 c (by simp)).2; omega
     have hl := (hg.kid (g.rep i) (hg.rlt i hi) nm xs ks hD h1).1
     rw [hks] at hl
     have hxs : xs = [] := List.length_eq_zero_iff.1 (by simpa using hl.symm)
     rw [term_a hg hr hi (hK i hi) hD h1, hks, hxs, app_a]
     rfl
 | succ r ih =>
   intro i h hi
   rw [hN.2 i hi]
   cases hD : g.D (g.rep i) with
   | v n => rw [term_v (by have := hK i hi; omega) hD, app_v, hv i hi n hD]
   | a nm xs =>
     obtain ⟨ks, h1, h2⟩ := hr.kids i hi nm xs hD
     obtain ⟨hl, hk⟩ := hg.kid (g.rep i) (hg.rlt i hi) nm xs ks hD h1
     rw [term_a hg hr hi (hK i hi) hD h1, app_a]
     congr 1
     refine list_ext_get (by simp [hl]) fun k x y hx hy => ?_
     rw [List.getElem?_map] at hx hy
     obtain ⟨x0, hx0, rfl⟩ := Option.map_eq_some_iff.1 hx
     obtain ⟨c, hc, rfl⟩ := Option.map_eq_some_iff.1 hy
     obtain ⟨h3, h4⟩ := hk k x0 c hx0 hc
     rw [← h4 N hN.1]
     have h5 := (h2 c (List.mem_of_getElem? hc)).2
     exact ih c (by omega) h3
/-- How many parts a part has. -/
theorem term_sz {f : Map} {g : Gr} {rk : Nat → Nat} (hg : GInv f g) (hr : Ranked g rk) {K i : Nat} (hi : i < g.n) (hK : rk (g.rep i) < K) {nm : List UInt8} {xs : List Ty} (h : g.D (g.rep i) = .a nm xs) {ks : List Nat} (hk : g.kids (g.rep i) = some ks) :
 (termN g K i).sz = 1 + (ks.map fun c => (termN g K (g.rep c)).sz).sum := by
 rw [term_a hg hr hi hK h hk, sz_a, List.map_map]
 congr 2
 refine List.map_congr_left fun c hc => ?_
 show (termN g K c).sz = _
 rw [termN_rep hg K c (by
  obtain ⟨ks', h1, h2⟩ := hr.kids i hi nm xs h
  rw [hk] at h1
  cases h1
  exact (h2 c hc).1)]
end Ux
end Go.Proofs.YtcblppojnailpaaDoor
namespace Go.Proofs.YtcblppojnailpaaDoor
open Go Go.RowKit
set_option linter.unusedVariables false
set_option linter.unusedSimpArgs false
/-- How many parts parts have, each behind those that are in it. -/
def SzOk (g : Ux.Gr) (L : List Nat) (s : Nat → Nat) : Prop :=
 ∀ (k x : Nat), L[k]? = some x → x < g.n ∧ g.rep x = x ∧ ∃ ks, g.kids x = some ks ∧ s x = 1 + (ks.map fun c => s (g.rep c)).sum ∧ ∀ c ∈ ks, c < g.n ∧ ∃ m, m < k ∧ L[m]? = some (g.rep c)
section
variable {c : GCx} {e : Nat} {w : World} {ps ps' : List Prt} {kl kl' : LKey → Option (List Nat)} {rep : Nat → Nat} {pv : Value} {L : List Nat} {s : Nat → Nat} {rk : Nat → Nat}
theorem SzOk.grow (h : SzOk (mkGr ps kl rep) L s) (hg : Grow ps kl ps' kl') : SzOk (mkGr ps' kl' rep) L s := by
 intro k x hx
 obtain ⟨h1, h2, ks, h3, h4, h5⟩ := h k x hx
 exact ⟨Nat.lt_of_lt_of_le h1 hg.len, h2, ks, hg.kids h1 h3, h4, fun cc hcc => ⟨Nat.lt_of_lt_of_le (h5 cc hcc).1 hg.len, (h5 cc hcc).2⟩⟩
theorem GSt.bound (h : GSt c e w ps kl rep pv) (hr : Ux.Ranked (mkGr ps kl rep) rk) : ∃ K, ∀ i, i < ps.length → rk (rep i) < K := by
 have key : ∀ m : Nat, ∃ B : Nat, ∀ i, i < m → rk (rep i) < B := by
  intro m
  induction m with
  | zero => exact ⟨0, fun i h => by omega⟩
  | succ m ih =>
    obtain ⟨B, h⟩ := ih
    refine ⟨max B (rk (rep m) + 1), fun i hi => ?_⟩
    by_cases e : i = m
    · subst e; omega
    · have := h i (by omega); omega
 exact key ps.length
theorem GSt.kids_var (h : GSt c e w ps kl rep pv) {x n : Nat} (hx : x < ps.length) (hD : (mkGr ps kl rep).D x = .v n) : (mkGr ps kl rep).kids x = some [] := by
 have hat := List.getElem?_eq_getElem hx
 have := gr_at (kl := kl) (rep := rep) hat
 rw [this.2]
 unfold kidsOf
 rw [if_pos (h.free _ (List.mem_of_getElem? hat) n (this.1 ▸ hD)).2]
/-- What parts come to, counted. -/
theorem GSt.szOk (h : GSt c e w ps kl rep pv) (hl : Ux.LOk (mkGr ps kl rep) L) (hr : Ux.Ranked (mkGr ps kl rep) rk) {K : Nat} (hK : ∀ i, i < ps.length → rk (rep i) < K) : SzOk (mkGr ps kl rep) L fun x => (Ux.termN (mkGr ps kl rep) K x).sz := by
 intro k x hx
 obtain ⟨h1, h2, h3⟩ := hl k x hx
 have h1' : x < ps.length := h1
 have h2' : rep x = x := h2
 refine ⟨h1, h2, ?_⟩
 cases hD : (mkGr ps kl rep).D x with
 | v n =>
   refine ⟨[], h.kids_var h1' hD, ?_, fun cc hcc => by cases hcc⟩
   show (Ux.termN (mkGr ps kl rep) K x).sz = _
   rw [Ux.term_v (n := n) (by have := hK x h1'; omega) (by rw [h2]; exact hD)]
   simp [Ux.Ty.sz]
 | a nm xs =>
   obtain ⟨ks, h4, h5⟩ := h3 nm xs hD
   refine ⟨ks, h4, ?_, fun cc hcc => ⟨h.klt x ks h1' h4 cc hcc, h5 cc hcc⟩⟩
   exact Ux.term_sz h.inv hr h1' (hK x h1') (nm := nm) (xs := xs) (by rw [h2]; exact hD) (by rw [h2]; exact h4)
/-- What is in a part has no more parts, and stands lower. -/
theorem Rch.sz (h : GSt c e w ps kl rep pv) (hr : Ux.Ranked (mkGr ps kl rep) rk) {K : Nat} (hK : ∀ i, i < ps.length → rk (rep i) < K) {s0 x : Nat} (hx : Rch (mkGr ps kl rep) s0 x) (h0 : s0 < ps.length) (h1 : rep s0 = s0) :
 (x < ps.length ∧ rep x = x) ∧ (Ux.termN (mkGr ps kl rep) K x).sz ≤ (Ux.termN (mkGr ps kl rep) K s0).sz ∧ (x = s0 ∨ rk x < rk s0) := by
 induction hx with
 | start => exact ⟨⟨h0, h1⟩, Nat.le_refl _, .inl rfl⟩
 | @step y cc nm xs ks _ h2 h3 h4 h5 h6 ih =>
   obtain ⟨⟨i1, i2⟩, i3, i4⟩ := ih
   have hr1 : (mkGr ps kl rep).rep y = y := i2
   obtain ⟨ks', a1, a2⟩ := hr.kids y h2 nm xs (by rw [hr1]; exact h3)
   rw [hr1, h4] at a1
   injection a1 with a1
   subst a1
   have a3 := (a2 cc h5).2
   rw [hr1] at a3
   have hsz := Ux.term_sz h.inv hr h2 (hK y i1) (nm := nm) (xs := xs) (by rw [hr1]; exact h3) (by rw [hr1]; exact h4)
   have hge := Ux.sum_ge (fun c => (Ux.termN (mkGr ps kl rep) K ((mkGr ps kl rep).rep c)).sz) h5
   refine ⟨⟨h.inv.rlt cc h6, h.inv.rr cc h6⟩, by omega, .inr ?_⟩
   rcases i4 with e | e
   · rw [← e]; exact a3
   · omega
/-- The last of all that is in a part is that part. -/
theorem last_is (hn : L.Nodup) {s0 : Nat} (h0 : s0 ∈ L) (hx : ∀ x ∈ L, x = s0 ∨ L.idxOf x < L.idxOf s0) : ∃ L0, L = L0 ++ [s0] := by
 rcases List.eq_nil_or_concat L with rfl | ⟨L0, y, rfl⟩
 · cases h0
 · refine ⟨L0, ?_⟩
   rw [List.concat_eq_append] at *
   rcases hx y (by simp) with e | e
   · rw [e]
   · have hy : y ∉ L0 := fun hy => (List.nodup_append.1 hn).2.2 y hy y (by simp) rfl
     have h1 : (L0 ++ [y]).idxOf y = L0.length := by rw [List.idxOf_append, if_neg hy]; simp
     have h2 : (L0 ++ [y]).idxOf s0 < (L0 ++ [y]).length := List.idxOf_lt_length_iff.2 h0
     rw [List.length_append, List.length_singleton] at h2
     omega
end
/-- What stands in memory while parts' parts are counted: the first k of L have their numbers. -/
structure SzM (c : GCx) (Z n most : Nat) (s : Nat → Nat) (L : List Nat) (rep : Nat → Nat) (w0 : World) (pv0 : Value) (ps : List Prt) (kl : LKey → Option (List Nat)) (k : Nat) (ps' : List Prt) (kl' : LKey → Option (List Nat)) (pv' : Value) (cur : Array Value) (w : World) : Prop where
 gst : GSt (c.at Z) 2 w ps' kl' rep pv'
 grow : Grow ps kl ps' kl'
 len : ps'.length = n
 chg : Chg (GKeep c pv0) w0 w
 loc : pv'.ownBlock = pv0.ownBlock ∨ ∀ g, pv'.ownBlock = some g → w0.heap.size ≤ g
 cell : w.heap[Z]? = some (.cells cur 3 (0, 0))
 csz : cur.size = n
 done : ∀ (j x : Nat), j < k → L[j]? = some x → cur[x]? = some (.int .i64 (s x : Int)) ∧ s x ≤ most
 zl : w0.heap.size ≤ Z ∧ c.y0 ≤ w0.heap.size ∧ c.z1 ≤ w0.heap.size
section
variable {c : GCx} {Z n most : Nat} {s : Nat → Nat} {L : List Nat} {rep : Nat → Nat} {w0 w w' : World} {pv0 pv' pv2 : Value} {ps ps' ps2 : List Prt} {kl kl' kl2 : LKey → Option (List Nat)} {k : Nat} {cur : Array Value}
theorem SzM.zno (h : SzM c Z n most s L rep w0 pv0 ps kl k ps' kl' pv' cur w) (hC : c.Ok) (hl : Lows c) : ¬ GKeep (c.at Z) pv' Z := by
 have := hC.low
 have := h.zl
 exact h.gst.gk (hC.at hl Z) (.inr (.inr rfl)) (show Z ≠ c.gb by omega) (show Z ≠ c.vb by omega) (show Z ≠ c.lb by omega) (show Z ≠ c.fb by omega)
/-- The graph's calls leave the numbers. -/
theorem SzM.next (h : SzM c Z n most s L rep w0 pv0 ps kl k ps' kl' pv' cur w) (hC : c.Ok) (hl : Lows c) (hg : GSt (c.at Z) 2 w' ps2 kl2 rep pv2) (hgr : Grow ps' kl' ps2 kl2) (hlen : ps2.length = n) (hch : Chg (GKeep (c.at Z) pv') w w') (hloc : pv2.ownBlock = pv'.ownBlock ∨ ∀ g, pv2.ownBlock = some g → w.heap.size ≤ g) :
 SzM c Z n most s L rep w0 pv0 ps kl k ps2 kl2 pv2 cur w' :=
 ⟨hg, h.grow.trans hgr, hlen, gk_trans h.chg h.loc hch, loc_trans h.chg.size h.loc hloc, ent_chg h.cell hch (h.zno hC hl), h.csz, h.done, h.zl⟩
/-- One more has its number. -/
theorem SzM.put (h : SzM c Z n most s L rep w0 pv0 ps kl k ps' kl' pv' cur w) (hC : c.Ok) (hl : Lows c) {x : Nat} (hx : L[k]? = some x) (hxn : x < n) (hle : s x ≤ most) :
 SzM c Z n most s L rep w0 pv0 ps kl (k + 1) ps' kl' pv' (cur.setIfInBounds x (.int .i64 (s x : Int))) (w.setCell ⟨Z, x, none⟩ (.int .i64 (s x : Int))) := by
 have hch : Chg (· = Z) w (w.setCell ⟨Z, x, none⟩ (.int .i64 (s x : Int))) := Chg.set (R := (· = Z)) (p := ⟨Z, x, none⟩) rfl _
 have hz := h.zl
 have hzl := ent_lt h.cell
 refine ⟨h.gst.shift (hC.at hl Z) hl hch (fun b hb => ⟨hb, by subst hb; show c.y0 ≤ b; omega, by subst hb; show c.z1 ≤ b; omega⟩) (g := Z) (.inl rfl) (by simpa using hzl), h.grow, h.len, h.chg.then hch fun b hb e => by omega, h.loc, ent_set h.cell x _, by rw [Array.size_setIfInBounds]; exact h.csz, fun j y hj hy => ?_, h.zl⟩
 rw [Array.getElem?_setIfInBounds]
 by_cases e : x = y
 · subst e
   rw [if_pos rfl, if_pos (by rw [h.csz]; exact hxn)]
   exact ⟨rfl, hle⟩
 · rw [if_neg e]
   rcases Nat.lt_or_ge j k with h1 | h1
   · exact h.done j y h1 hy
   · obtain rfl : j = k := by omega
     rw [hx] at hy; injection hy with hy; exact absurd hy e
end
/-- What size answers. -/
def SizePost (c : GCx) (ps : List Prt) (kl : LKey → Option (List Nat)) (rep : Nat → Nat) (pv : Value) (m0 most : Nat) (w : World) (en : Ending) (w' : World) : Prop :=
 ∃ (r : Nat) (b : Bool) (Z : Nat) (ps' : List Prt) (kl' : LKey → Option (List Nat)) (pv' : Value), en = .returned (.tuple #[.int .i64 (r : Int), .bool b]) ∧ (b = true → m0 ≤ most ∧ r = m0) ∧ (b = false → most < m0) ∧
  GSt (c.at Z) 2 w' ps' kl' rep pv' ∧ Grow ps kl ps' kl' ∧ ps'.length = ps.length ∧ Chg (GKeep c pv) w w' ∧ (pv'.ownBlock = pv.ownBlock ∨ ∀ g, pv'.ownBlock = some g → w.heap.size ≤ g)
end Go.Proofs.YtcblppojnailpaaDoor
namespace Go.Proofs.YtcblppojnailpaaDoor
open Go Go.RowKit
set_option linter.unusedVariables false
set_option linter.unusedSimpArgs false
theorem sum_take_le (f : Nat → Nat) : ∀ (ks : List Nat) (j : Nat), ((ks.take j).map f).sum ≤ (ks.map f).sum
 | [], j => by simp
 | x :: r, 0 => by simp
 | x :: r, j + 1 => by rw [List.take_succ_cons]; simp only [List.map_cons, List.sum_cons]; have := sum_take_le f r j; omega
theorem sum_take_next (f : Nat → Nat) {ks : List Nat} {j x : Nat} (h : ks[j]? = some x) : ((ks.take (j + 1)).map f).sum = ((ks.take j).map f).sum + f x := by
 rw [List.take_add_one, h]; simp
def SzS (c : GCx) (Z n most : Nat) (s : Nat → Nat) (L : List Nat) (rep : Nat → Nat) (w0 : World) (pv0 : Value) (ps : List Prt) (kl : LKey → Option (List Nat)) (k : Nat) (w : World) : Prop :=
 ∃ ps' kl' pv' cur, SzM c Z n most s L rep w0 pv0 ps kl k ps' kl' pv' cur w
set_option maxHeartbeats 4000000 in
set_option maxRecDepth 100000 in
theorem size_any (c : GCx) (hC : c.Ok) (hl : Lows c) (ps : List Prt) (kl : LKey → Option (List Nat)) (rep : Nat → Nat) (pv : Value) (L L0 : List Nat) (s : Nat → Nat) (s0 most b cp : Nat) (cur0 : Array Value) (w : World) (h : GSt c 2 w ps kl rep pv) (hS : SzOk (mkGr ps kl rep) L s) (hL : L = L0 ++ [s0]) (hle : ∀ x ∈ L, s x ≤ s s0)
 (hb : b ≠ c.gb ∧ b ≠ c.vb ∧ b ≠ c.lb ∧ b ≠ c.fb) (hcell : w.heap[b]? = some (.cells cur0 3 (0, 0))) (hcur : ∀ (k x : Nat), L[k]? = some x → cur0[k]? = some (Value.int .i64 (x : Int))) (hcp : L.length ≤ cp ∧ (cp : Int) ≤ 9223372036854775807) (hm : most ≤ 1000000) :
 Calls Tryd.prog 44 #[.pointer (some ⟨c.gb, 0, none⟩), .slice (some ⟨b, 0, none⟩) L.length cp, .int .i64 (most : Int)] w (SizePost c ps kl rep pv (s s0) most w) := by
 obtain ⟨pp, pc, rfl⟩ := own_slice h.own
 obtain ⟨n, hn⟩ : ∃ n, n = ps.length := ⟨_, rfl⟩
 obtain ⟨N, hN⟩ : ∃ N, N = L.length := ⟨_, rfl⟩
 rw [← hN] at hcp ⊢
 have hnb : n ≤ 100002 := by have h1 := h.few2; have h2 := hC.few; omega
 have hlv : ∀ wr, Chg (GKeep c (.slice pp ps.length pc)) w wr → wr.heap[b]? = some (.cells cur0 3 (0, 0)) := fun wr hch => ent_chg hcell hch fun hr => by
  rcases hr with hr | hr | hr | hr | hr
  · exact hb.1 hr
  · exact hb.2.1 hr
  · exact hb.2.2.1 hr
  · exact hb.2.2.2 hr
  · exact own_ne h.own hcell (fun cs e => by injection e with _ e _; cases e) hr
 have HG := Lib.hid h
 have HLV := Lib.hid hlv
 have HS := Lib.hid hS
 have HLE := Lib.hid hle
 have HCUR := Lib.hid hcur
 have HLL := Lib.hid hL
 have HN := Lib.hid hN
 have HNN := Lib.hid hn
 have g1 := ent_cell h.gcell 1 _ rfl
 rw [← hn] at g1
 obtain ⟨zs, hzs, hmake⟩ := madeInts n (by omega) w
 have HZS := Lib.hid hzs
 clear h hlv hS hle hcur hL hN hn hzs hcell hb
 go_enter Tryd.func44, Tryd.ntmps44
 go_upto_region 3 with fail
 have hb1 : Below w.heap.size w (w.alloc (.cells zs 3)) := (Below.refl _ _).alloc (Nat.le_refl _) _
 have HM : Hid (SzS c w.heap.size n most s L rep w (.slice pp ps.length pc) ps kl 0 (w.alloc (.cells zs 3))) := Lib.hid ⟨ps, kl, _, zs,
  HG.out.shift hC hl (R := fun _ => False) (Chg.alloc w _) (fun b hb => hb.elim) (g := w.heap.size) (.inr (Nat.le_refl _)) (by simp), Grow.same (.refl ps) kl, HNN.out.symm, .of_below hb1, .inl rfl, ent_new w zs 3, HZS.out, (fun j x hj => by omega), ⟨Nat.le_refl _, HG.out.size.1, HG.out.size.2.1⟩⟩
 obtain ⟨Z, hZ⟩ : ∃ Z, Z = w.heap.size := ⟨_, rfl⟩
 rw [← hZ] at HM ⊢
 clear hZ hmake g1 hb1
 generalize w.alloc (.cells zs 3) = w1 at HM ⊢
 go_wp2_with fail
 go_loopw [9, 23] (fun t i wr => ∃ (k tot : Nat), i = .int .i64 k ∧ t = .int .i64 tot ∧ k ≤ N ∧ Hid (k = 0 ∨ ∃ x, L[k - 1]? = some x ∧ tot = s x) ∧ Hid (SzS c Z n most s L rep w (.slice pp ps.length pc) ps kl k wr)) (fun _ i _ => N - (intOf i).toNat)
 case atStart => exact ⟨0, 0, rfl, rfl, Nat.zero_le _, Lib.hid (.inl rfl), HM⟩
 case round =>
  clear HM
  obtain ⟨k, tot, rfl, rfl, hk, HTOT, HM⟩ := hrel
  by_cases hlt : k < N
  rotate_left
  · obtain rfl : k = N := by omega
    obtain ⟨ps1, kl1, pv1, cur1, hm1⟩ := HM.out
    have HM1 := Lib.hid hm1
    clear hm1
    go_wp2_with fail
    go_ret2
    have hlen : L.length = L0.length + 1 := by rw [HLL.out]; simp
    have hlast : L[k - 1]? = some s0 := by rw [HN.out, hlen, HLL.out]; simp
    have hst : tot = s s0 := by
     rcases HTOT.out with e | ⟨x, h1, h2⟩
     · have := HN.out; omega
     · rw [hlast] at h1; injection h1 with h1; rw [h1]; exact h2
    have hmo : s s0 ≤ most := (HM1.out.done (k - 1) s0 (by have := HN.out; omega) hlast).2
    exact ⟨tot, true, Z, ps1, kl1, pv1, rfl, fun _ => ⟨hmo, hst⟩, (fun e => by cases e), HM1.out.gst, HM1.out.grow, HM1.out.len.trans HNN.out, HM1.out.chg, HM1.out.loc⟩
  obtain ⟨x, hx⟩ : ∃ x, L[k]? = some x := ⟨_, List.getElem?_eq_getElem (by have := HN.out; omega)⟩
  obtain ⟨ps1, kl1, pv1, cur1, hm1⟩ := HM.out
  obtain ⟨h1, h2, ks, h3, h4, h5⟩ := (HS.out.grow hm1.grow) k x hx
  have h1n : x < n := by have : x < ps1.length := h1; have := hm1.len; omega
  have hsx : s x ≤ s s0 := HLE.out x (List.mem_of_getElem? hx)
  have hlc := ent_cell (HLV.out wr hm1.chg) k _ (HCUR.out k x hx)
  have HM1 := Lib.hid hm1
  have HX := Lib.hid hx
  have HKS := Lib.hid (⟨h3, h4, h5⟩ : (mkGr ps1 kl1 rep).kids x = some ks ∧ s x = 1 + (ks.map fun cc => s (rep cc)).sum ∧ ∀ cc ∈ ks, cc < ps1.length ∧ ∃ m, m < k ∧ L[m]? = some (rep cc))
  have HSX := Lib.hid hsx
  have hk1 : (k : Int) < (N : Int) := by omega
  have hk2 : (N : Int) ≤ (cp : Int) := by omega
  have hk3 := hcp.2
  clear hm1 h1 h2 h3 h4 h5 hsx hx HM
  by_cases hm0 : most = 0
  · subst hm0
    go_wp2_with fail
    go_ret2
    exact ⟨0, false, Z, ps1, kl1, pv1, rfl, (fun e => by cases e), fun _ => by have := HKS.out.2.1; have := HSX.out; omega, HM1.out.gst, HM1.out.grow, HM1.out.len.trans HNN.out, HM1.out.chg, HM1.out.loc⟩
  have d1 : decide ((most : Int) < 1) = false := by simp; omega
  obtain ⟨p, hp⟩ : ∃ p, ps1[x]? = some p := ⟨_, List.getElem?_eq_getElem (by have := HM1.out.len; omega)⟩
  have hargs := args_any (c.at Z) (hC.at hl Z) ps1 kl1 rep pv1 x p hp wr HM1.out.gst
  rw [show (c.at Z).gb = c.gb from rfl] at hargs
  have HARGS := Lib.hid hargs
  have HP := Lib.hid hp
  clear hargs hp
  go_wp2_with fail
  refine HARGS.out.mono ?_
  rintro e w2 ⟨v, ks2, ex, kl2, pv2, rfl, n1, n2, n3, n4, n5, n6, n7, n8⟩
  have hks : ks2 = ks := by
   have a := HKS.out.1
   rw [(gr_at HP.out).2] at a
   have := kidsOf_more n6 a
   rw [n4] at this; injection this
  subst hks
  have hex : ex = [] := by
   cases ex with
   | nil => rfl
   | cons q r =>
     have a := n8 ps1.length (Nat.le_refl _) (by simp)
     have := (HKS.out.2.2 _ a).1
     omega
  subst hex
  rw [List.append_nil] at n1
  have hm2 := HM1.out.next hC hl n1 ⟨Nat.le_refl _, fun i q hq => ⟨q.tt, q.st, hq⟩, n6⟩ HM1.out.len n2 n3
  obtain ⟨vq, vc, rfl, v1, v2, v3⟩ := n5.cell
  have HM2 : Hid (SzS c Z n most s L rep w (.slice pp ps.length pc) ps kl k w2) := Lib.hid ⟨_, _, _, _, hm2⟩
  have HIV := Lib.hid n5
  obtain ⟨J, hJ⟩ : ∃ J, J = ks2.length := ⟨_, rfl⟩
  rw [← hJ] at HIV v1 ⊢
  have HJ := Lib.hid hJ
  have HPL := Lib.hid HM1.out.len
  clear n1 n2 n3 n4 n5 n6 n7 n8 hm2 v3 hJ HARGS HM1 hlc
  go_wp2_with fail
  obtain ⟨wa, hwa⟩ : ∃ y, y = wr := ⟨wr, rfl⟩
  subst hwa
  go_loopw [9, 34] (fun t i wr => ∃ (j tot : Nat), i = .int .i64 j ∧ t = .int .i64 tot ∧ j ≤ J ∧ tot ≤ most ∧ Hid (tot = 1 + ((ks2.take j).map fun cc => s (rep cc)).sum) ∧ Hid (SzS c Z n most s L rep w (.slice pp ps.length pc) ps kl k wr) ∧ Hid (IntsV (c.at Z) wr (.slice vq J vc) ks2)) (fun _ i _ => J - (intOf i).toNat)
  case atStart => exact ⟨0, 1, rfl, rfl, Nat.zero_le _, by omega, Lib.hid (by simp), HM2, HIV⟩
  case round =>
   clear HM2 HIV
   obtain ⟨j, tt, rfl, rfl, hj, htt, HT, HM2, HIV⟩ := hrel
   obtain ⟨ps3, kl3, pv3, cur3, hm3⟩ := HM2.out
   have HM3 := Lib.hid hm3
   clear hm3
   by_cases hjl : j < J
   rotate_left
   · obtain rfl : j = J := by omega
     have hts : tt = s x := by
      have := HT.out
      rw [HJ.out, List.take_length] at this
      rw [HKS.out.2.1]; exact this
     subst hts
     have hput := HM3.out.put hC hl HX.out h1n htt
     have HPUT := Lib.hid hput
     obtain ⟨y, hy⟩ : ∃ y, cur3[x]? = some y := ⟨_, Array.getElem?_eq_getElem (by have := HM3.out.csz; omega)⟩
     have z1 := ent_cell HM3.out.cell x y hy
     have z2 := ent_free HM3.out.cell
     have hx1 : (x : Int) < (n : Int) := by omega
     have hn1 : (n : Int) ≤ 9223372036854775807 := by omega
     clear hput hy
     go_wp2_with fail
     go_roundw
     case rel => exact ⟨k + 1, s x, by go_num, by go_num, by omega, Lib.hid (.inr ⟨x, by simpa using HX.out, rfl⟩), Lib.hid ⟨_, _, _, _, HPUT.out⟩⟩
     case measure => simp [intOf]; omega
   obtain ⟨cc, hcc⟩ : ∃ cc, ks2[j]? = some cc := ⟨_, List.getElem?_eq_getElem (by have := HJ.out; omega)⟩
   have hck := HKS.out.2.2 cc (List.mem_of_getElem? hcc)
   have hiv := HIV.out
   rw [HJ.out] at hiv
   obtain ⟨vq', vc', e1, v1', v2', v3⟩ := hiv.cell
   injection e1 with e1 _ e2
   subst e1; subst e2
   obtain ⟨vb, rfl, hvc⟩ := v3 j cc hcc
   have hend := end_any (c.at Z) (hC.at hl Z) 2 ps3 kl3 rep pv3 cc (by have := hck.1; have := HPL.out; have := HM3.out.len; omega) wr HM3.out.gst
   rw [show (c.at Z).gb = c.gb from rfl] at hend
   have HEND := Lib.hid hend
   obtain ⟨m, hmk, hmx⟩ := hck.2
   obtain ⟨hcr, hsr⟩ := HM3.out.done m (rep cc) hmk hmx
   have HCR := Lib.hid hcr
   have HRN := Lib.hid (show rep cc < n by have := (Array.getElem?_eq_some_iff.1 hcr).1; have := HM3.out.csz; omega)
   have hj1 : (j : Int) < (J : Int) := by omega
   have hj2 : (J : Int) ≤ (vc : Int) := by have := HJ.out; omega
   have HTN := Lib.hid (sum_take_next (fun cc => s (rep cc)) hcc)
   have HTL := Lib.hid (sum_take_le (fun cc => s (rep cc)) ks2 (j + 1))
   clear hend hcc hck hmx hmk hcr hiv v3
   go_wp2_with fail
   clear hvc
   refine HEND.out.mono ?_
   rintro e w4 ⟨rfl, ps4, n1, n2, n3, n4⟩
   have hm4 := HM3.out.next hC hl n1 (Grow.same n2 kl3) (by rw [n2.1]; exact HM3.out.len) (n4.mono fun b _ hb => .inr (.inr (.inr (.inr hb)))) (.inl rfl)
   have HM4 := Lib.hid hm4
   have HIV4 := Lib.hid (HIV.out.keep (w' := w4) fun b cur hb hcur => n4.block b (ent_lt hcur) fun e => HM3.out.gst.gkint (hC.at hl Z) hb hcur (by decide) (.inr (.inr (.inr (.inr e)))))
   clear n1 n2 n3 n4 hm4 HEND
   have z1 := ent_cell HM4.out.cell (rep cc) _ HCR.out
   have hrn := HRN.out
   obtain ⟨rc, hrc⟩ : ∃ r, r = rep cc := ⟨_, rfl⟩
   rw [← hrc] at z1 hrn hsr HTN ⊢
   clear HCR HRN
   obtain ⟨sr, hsr0⟩ : ∃ r, r = s rc := ⟨_, rfl⟩
   rw [← hsr0] at z1 hsr
   have HSR := Lib.hid hsr0
   have HRC := Lib.hid hrc
   clear hsr0 hrc
   have hx1 : (rc : Int) < (n : Int) := by omega
   have hn1 : (n : Int) ≤ 9223372036854775807 := by omega
   by_cases hbig : most < tt + sr
   · have d2 : decide ((most : Int) - (tt : Int) < (sr : Int)) = true := by simp; omega
     go_wp2_with fail
     go_ret2
     refine ⟨0, false, Z, _, _, _, rfl, (fun e => by cases e), fun _ => ?_, HM4.out.gst, HM4.out.grow, HM4.out.len.trans HNN.out, HM4.out.chg, HM4.out.loc⟩
     have a1 := HTN.out; have a2 := HTL.out; have a3 := HT.out; have a4 := HKS.out.2.1; have a5 := HSX.out; have a6 := HSR.out
     omega
   · have d2 : decide ((most : Int) - (tt : Int) < (sr : Int)) = false := by simp; omega
     go_wp2_with fail
     go_roundw
     case rel => exact ⟨j + 1, tt + sr, by go_num, by go_num, by omega, by omega, Lib.hid (by have a1 := HTN.out; have a3 := HT.out; have a6 := HSR.out; omega), Lib.hid ⟨_, _, _, _, HM4.out⟩, HIV4⟩
     case measure => simp [intOf]; omega
end Go.Proofs.YtcblppojnailpaaDoor
namespace Go.Proofs.YtcblppojnailpaaDoor
open Go Go.RowKit
set_option linter.unusedVariables false
set_option linter.unusedSimpArgs false
structure GEnd (c : GCx) (w : World) (ps : List Prt) (rep : Nat → Nat) (pv : Value) : Prop where
 gcell : w.heap[c.gb]? = some (.cells #[LKF c, pv, .map (some c.vb), .map (some c.lb)] 101 (0, 0))
 own : w.ownsRow c.y0 104 5 pv ps.length (pcells ps)
 tree : ∃ d, TreeAt d ps rep
 outr : ∀ x, ps.length ≤ x → rep x = x
theorem GSt.gend {c : GCx} {e : Nat} {w : World} {ps : List Prt} {kl : LKey → Option (List Nat)} {rep : Nat → Nat} {pv : Value} (h : GSt c e w ps kl rep pv) : GEnd c w ps rep pv := ⟨h.gcell, h.own, h.tree, h.outr⟩
theorem GEnd.upd {c : GCx} {w w' : World} {ps ps' : List Prt} {rep rep' : Nat → Nat} {pv : Value} (h : GEnd c w ps rep pv) (hch : Chg (fun b => pv.ownBlock = some b) w w') (ho : w'.ownsRow c.y0 104 5 pv ps'.length (pcells ps')) (hs : Same ps ps') (ht : ∃ d, TreeAt d ps' rep') (hr : ∀ x, ps.length ≤ x → rep' x = x) : GEnd c w' ps' rep' pv :=
 ⟨ent_chg h.gcell hch (own_ne h.own h.gcell fun cs e => by injection e with _ e _; cases e), ho, ht, fun x hx => hr x (by rw [← hs.1]; exact hx)⟩
theorem GEnd.chg {c : GCx} {w w' : World} {ps : List Prt} {rep : Nat → Nat} {pv : Value} {R : Nat → Prop} (h : GEnd c w ps rep pv) (hch : Chg R w w') (h1 : ¬ R c.gb) (h2 : ∀ b, pv.ownBlock = some b → ¬ R b) : GEnd c w' ps rep pv :=
 ⟨ent_chg h.gcell hch h1, own_chg h.own hch h2, h.tree, h.outr⟩
def EndPost3 (c : GCx) (ps : List Prt) (rep : Nat → Nat) (pv : Value) (i : Nat) (w : World) (en : Ending) (w' : World) : Prop :=
 en = .returned (.int .i64 (rep i)) ∧ ∃ ps', GEnd c w' ps' rep pv ∧ Same ps ps' ∧ (∀ (j : Nat) (p p' : Prt), ps[j]? = some p → ps'[j]? = some p' → p'.st = p.st) ∧ Chg (fun b => pv.ownBlock = some b) w w'
/-- What the loop knows. -/
def EndL3 (c : GCx) (ps : List Prt) (rep : Nat → Nat) (pv : Value) (d : Nat → Nat) (i j : Nat) (w wr : World) : Prop :=
 ∃ ps', GEnd c wr ps' rep pv ∧ Same ps ps' ∧ (∀ (j : Nat) (p p' : Prt), ps[j]? = some p → ps'[j]? = some p' → p'.st = p.st) ∧ Chg (fun b => pv.ownBlock = some b) w wr ∧ TreeAt d ps' rep ∧ rep j = rep i ∧ j < ps.length
set_option maxHeartbeats 4000000 in
set_option maxRecDepth 100000 in
theorem end_any3 (c : GCx) (ps : List Prt) (rep : Nat → Nat) (pv : Value) (i : Nat) (hi : i < ps.length) (w : World) (h : GEnd c w ps rep pv) :
 Calls Tryd.prog 51 #[.pointer (some ⟨c.gb, 0, none⟩), .int .i64 i] w (EndPost3 c ps rep pv i w) := by
 obtain ⟨pp, pc, rfl⟩ := own_slice h.own
 obtain ⟨pb, cur0, rfl, hpb, _⟩ := own_open h.own (by omega)
 obtain ⟨d, hd⟩ := h.tree
 have HL0 : Hid (EndL3 c ps rep (.slice (some ⟨pb, 0, none⟩) ps.length pc) d i i w w) := Lib.hid ⟨ps, h, .refl ps, fun j p p' h1 h2 => by rw [h1] at h2; injection h2 with h2; rw [h2], .refl _ _, hd, rfl, hi⟩
 have HG := Lib.hid h
 clear h hd
 go_enter Tryd.func51, Tryd.ntmps51
 go_wp2_with fail
 go_loopg [1] (d i) (fun k v1 wr => ∃ j : Nat, v1 = .int .i64 j ∧ Hid (EndL3 c ps rep (.slice (some ⟨pb, 0, none⟩) ps.length pc) d i j w wr ∧ d j ≤ k))
 case atStart => exact ⟨i, rfl, Lib.hid ⟨HL0.out, Nat.le_refl _⟩⟩
 case round =>
  clear HL0
  obtain ⟨j, rfl, HR⟩ := hrel
  obtain ⟨⟨ps', k1, k2, k3, k4, k5, k6, k7⟩, hdk⟩ := HR.out
  have hlen := k2.1
  obtain ⟨p, hp⟩ : ∃ p, ps'[j]? = some p := ⟨_, List.getElem?_eq_getElem (by omega)⟩
  obtain ⟨t1, t2, t3, t4⟩ := k5 j p hp
  obtain ⟨pn, hpn⟩ : ∃ pn, ps'[p.tt]? = some pn := ⟨_, List.getElem?_eq_getElem t1⟩
  have ho := k1.own
  rw [hlen] at ho
  obtain ⟨pb', cur, hpe, _, hpl, hk2, hk3, hge, hcell⟩ := own_open ho (by omega)
  injection hpe with hpe; injection hpe with hpe _ _; subst hpe
  have g1 := ent_cell k1.gcell 1 _ rfl
  have x3 := ent_cell hge _ _ (hcell (j * 5 + 3) (.int .i64 p.tt) (by rw [pcells_at 3 hp (by decide)]; rfl))
  have z3 := ent_cell hge _ _ (hcell (p.tt * 5 + 3) (.int .i64 pn.tt) (by rw [pcells_at 3 hpn (by decide)]; rfl))
  have xf := ent_free hge
  have hj1 : (j : Int) < (ps.length : Int) := by omega
  have hj2 : (ps.length : Int) ≤ (pc : Int) := by omega
  have hj3 : (p.tt : Int) < (ps.length : Int) := by omega
  have HK := Lib.hid (⟨k1, k2, k3, k4, k5, k6, k7⟩ : GEnd c wr ps' rep (.slice (some ⟨pb, 0, none⟩) ps.length pc) ∧ _ ∧ _ ∧ _ ∧ _ ∧ _ ∧ _)
  have HP := Lib.hid (⟨hp, hpn⟩ : ps'[j]? = some p ∧ ps'[p.tt]? = some pn)
  have HT := Lib.hid (⟨t1, t2, t3, t4⟩ : _ ∧ _ ∧ _ ∧ _)
  have HDK := Lib.hid hdk
  have HO := Lib.hid ho
  have HLEN := Lib.hid hlen
  clear k1 k2 k3 k4 k5 k6 k7 hp hpn t1 t2 t3 t4 hdk ho hge hcell hlen HR hk2
  by_cases hjt : p.tt = j
  · have hb : ((p.tt : Int) != (j : Int)) = false := by simp [hjt]
    have HJT := Lib.hid hjt
    clear hjt
    go_wp2_with fail
    go_ret
    obtain ⟨k1, k2, k3, k4, k5, k6, k7⟩ := HK.out
    refine ⟨?_, ps', k1, k2, k3, k4⟩
    have := HT.out.2.2.2.2 HJT.out
    rw [← k6, this]
    rfl
  · have hb : ((p.tt : Int) != (j : Int)) = true := by simp; omega
    have HJT := Lib.hid hjt
    clear hjt
    go_wp2_with fail
    go_region
    clear g1 x3 z3 xf
    go_wp2_with fail
    go_roundg (d p.tt)
    case measure => have := HT.out.2.1 HJT.out; have := HDK.out; omega
    case rel =>
     obtain ⟨k1, k2, k3, k4, k5, k6, k7⟩ := HK.out
     obtain ⟨p1, p2⟩ := HP.out
     obtain ⟨t1, t2, t3, t4⟩ := HT.out
     have hlen := HLEN.out
     have hjlt := (List.getElem?_eq_some_iff.1 p1).1
     obtain ⟨n1, n2, n3, n4⟩ := k5 _ _ p2
     have HT2 : TreeAt d (ps'.set j { p with tt := pn.tt, st := p.st }) rep := fun i q hq => by
      rw [List.length_set]
      by_cases e : j = i
      · subst e
        rw [List.getElem?_set_self hjlt] at hq; injection hq with hq; subst hq
        have hd1 := t2 HJT.out
        by_cases en : pn.tt = p.tt
        · refine ⟨n1, fun _ => by dsimp only; rw [en]; exact hd1, n3.trans t3, ⟨fun h => ?_, fun h => ?_⟩⟩
          · exact absurd (t4.1 h) HJT.out
          · dsimp only at h; rw [en] at h; exact absurd h HJT.out
        · have hd2 := n2 en
          refine ⟨n1, fun _ => by dsimp only; omega, n3.trans t3, ⟨fun h => ?_, fun h => ?_⟩⟩
          · exact absurd (t4.1 h) HJT.out
          · dsimp only at h; rw [h] at hd2; omega
      · rw [List.getElem?_set_ne e] at hq; exact k5 i q hq
     refine ⟨p.tt, rfl, Lib.hid ⟨⟨ps'.set j { p with tt := pn.tt, st := p.st }, ?_, k2.trans (Same.set p1 _ _), fun i q q' h1 h2 => ?_, ?_, ?_, t3.trans k6, by omega⟩, Nat.le_refl _⟩⟩
     · have hst := (HO.out.stored (j * 5 + 3) (.int .i64 pn.tt)).1.drew
       rw [pcells_set (fun q => { q with tt := pn.tt, st := q.st }) 3 (.int .i64 pn.tt) (by decide) (fun q => rfl) p1] at hst
       have hch : Chg (fun b => (Value.slice (some ⟨pb, 0, none⟩) ps.length pc).ownBlock = some b) wr (wr.setCell ⟨pb, j * 5 + 3, none⟩ (.int .i64 pn.tt)).drew := (Chg.set (R := fun b => (Value.slice (some ⟨pb, 0, none⟩) ps.length pc).ownBlock = some b) (p := ⟨pb, j * 5 + 3, none⟩) rfl _).trans (.drew _)
       refine k1.upd hch (by rw [List.length_set, hlen]; exact hst) (Same.set p1 _ _) ⟨d, fun i q hq => ?_⟩ k1.outr
       exact HT2 i q hq
     · have h3 := h2
       by_cases e : j = i
       · subst e
         rw [List.getElem?_set_self hjlt] at h3; injection h3 with h3
         rw [← h3]; show p.st = q.st; exact k3 j q p h1 p1
       · rw [List.getElem?_set_ne e] at h3; exact k3 _ _ _ h1 h3
     · exact k4.trans ((Chg.set (R := fun b => (Value.slice (some ⟨pb, 0, none⟩) ps.length pc).ownBlock = some b) (p := ⟨pb, j * 5 + 3, none⟩) rfl _).trans (.drew _))
     · exact fun i q hq => HT2 i q hq
end Go.Proofs.YtcblppojnailpaaDoor
namespace Go.Proofs.YtcblppojnailpaaDoor
open Go Go.RowKit
set_option linter.unusedVariables false
set_option linter.unusedSimpArgs false
open Classical in
/-- What the first k parts tell. -/
noncomputable def told (f : Ux.Map) (g : Ux.Gr) : Nat → Ux.Map
 | 0 => f
 | k + 1 => fun n => if g.D k = .v n ∧ g.rep k ≠ k then some (g.D (g.rep k)) else told f g k n
theorem told_yes {f : Ux.Map} {g : Ux.Gr} {k n : Nat} (h : g.D k = .v n ∧ g.rep k ≠ k) : told f g (k + 1) n = some (g.D (g.rep k)) := by
 rw [told]; exact if_pos h
theorem told_no {f : Ux.Map} {g : Ux.Gr} {k n : Nat} (h : ¬ (g.D k = .v n ∧ g.rep k ≠ k)) : told f g (k + 1) n = told f g k n := by
 rw [told]; exact if_neg h
theorem told_some {f : Ux.Map} {g : Ux.Gr} : ∀ (k n : Nat) (t : Ux.Ty), told f g k n = some t → f n = some t ∨ ∃ i, i < k ∧ g.D i = .v n ∧ g.rep i ≠ i ∧ t = g.D (g.rep i)
 | 0, n, t, h => .inl h
 | k + 1, n, t, h => by
   by_cases e : g.D k = .v n ∧ g.rep k ≠ k
   · rw [told_yes e] at h; injection h with h
     exact .inr ⟨k, Nat.lt_succ_self _, e.1, e.2, h.symm⟩
   · rw [told_no e] at h
     exact (told_some k n t h).imp id fun ⟨i, a, b⟩ => ⟨i, Nat.lt_succ_of_lt a, b⟩
theorem told_tells {f : Ux.Map} {g : Ux.Gr} (hg : Ux.GInv f g) : Ux.Tells f g (told f g g.n) := by
 have key : ∀ k, k ≤ g.n → (∀ n t, f n = some t → told f g k n = some t) ∧ ∀ i, i < k → ∀ n, g.D i = .v n → g.rep i ≠ i → told f g k n = some (g.D (g.rep i)) := by
  intro k
  induction k with
  | zero => exact fun _ => ⟨fun n t h => h, fun i hi => by omega⟩
  | succ k ih =>
    intro hk
    obtain ⟨a, b⟩ := ih (by omega)
    refine ⟨fun n t h => ?_, fun i hi n hD hr => ?_⟩
    · by_cases e : g.D k = .v n ∧ g.rep k ≠ k
      · have := hg.free k (by omega) n e.1; rw [h] at this; cases this
      · rw [told_no e]; exact a n t h
    · by_cases e : g.D k = .v n ∧ g.rep k ≠ k
      · have := hg.uniq k i (by omega) (by omega) n e.1 hD
        rw [told_yes e, this]
      · rw [told_no e]
        refine b i (Nat.lt_of_le_of_ne (Nat.le_of_lt_succ hi) fun e2 => ?_) n hD hr
        subst e2; exact e ⟨hD, hr⟩
 obtain ⟨a, b⟩ := key g.n (Nat.le_refl _)
 exact ⟨a, b, fun n t h => told_some g.n n t h⟩
theorem told_skip {f : Ux.Map} {g : Ux.Gr} {k : Nat} (h : ∀ n, g.D k = .v n → g.rep k = k) : told f g (k + 1) = told f g k := by
 funext n
 exact told_no fun e => e.2 (h n e.1)
set_option maxRecDepth 10000 in
theorem SubAt.set {Q : LKey → Prop} {w : World} {b : Nat} {f : Ux.Map} (h : SubAt Q w b f) (n : Nat) (v : Value) (t : Ux.Ty) (ht : TyQ Q w v t) (hq : ∀ x, Q x → x.1 ≠ b ∧ x.1 < w.heap.size) :
 ∃ w', (Instr.mapUpdate 26 (.map (some b)) (.int .i64 (n : Int)) v).run Tryd.prog w = .ok () w' ∧ SubAt Q w' b (fun m => if m = n then some t else f m) ∧ Chg (· = b) w w' := by
 obtain ⟨L, h1, h2⟩ := h
 obtain ⟨w', hup, hmk, hgr⟩ := h1.update lawI Tryd.underlying26 (n : Int) trivial v (fun _ _ _ _ _ => trivial)
 have hch : Chg (· = b) w w' := Chg.grown hgr fun k hk => (Option.some.inj hk).symm
 have hqq : ∀ x, Q x → w'.heap[x.1]? = w.heap[x.1]? := fun x hx => hch.block _ (hq x hx).2 (hq x hx).1
 refine ⟨w', hup, ⟨_, hmk, fun m => ⟨fun hm => ?_, fun t' ht' => ?_⟩⟩, hch⟩
 · rw [lookL_set]
   by_cases e : m = n
   · dsimp only at hm; rw [if_pos e] at hm; cases hm
   · rw [if_neg (by omega)]; dsimp only at hm; rw [if_neg e] at hm; exact (h2 m).1 hm
 · rw [lookL_set]
   dsimp only at ht'
   by_cases e : m = n
   · rw [if_pos e] at ht'; injection ht' with ht'; subst ht'
     exact ⟨v, by rw [if_pos (by omega)], tyQ_keep ht hqq⟩
   · rw [if_neg e] at ht'
     obtain ⟨u, a, b⟩ := (h2 m).2 t' ht'
     exact ⟨u, by rw [if_neg (by omega)]; exact a, tyQ_keep b hqq⟩
theorem told_set {f : Ux.Map} {g : Ux.Gr} {k n : Nat} (h : g.D k = .v n) (hr : g.rep k ≠ k) : told f g (k + 1) = fun m => if m = n then some (g.D (g.rep k)) else told f g k m := by
 funext m
 by_cases e : m = n
 · rw [if_pos e, told_yes ⟨by rw [h, e], hr⟩]
 · rw [if_neg e, told_no fun e2 => e (by rw [h] at e2; injection e2.1 with e3; exact e3.symm)]
end Go.Proofs.YtcblppojnailpaaDoor
namespace Go.Proofs.YtcblppojnailpaaDoor
open Go Go.RowKit
set_option linter.unusedVariables false
set_option linter.unusedSimpArgs false
theorem MapK.nil {κ : Type} {enc : κ → Value} {V V' : World → κ → Prop} {w w' : World} {b : Nat} (h : MapK enc V w b []) (hk : w'.heap[b]? = w.heap[b]?) : MapK enc V' w' b [] := by
 obtain ⟨es, k, hb, h1, _⟩ := h
 exact ⟨es, k, hk.trans hb, h1, fun p hp => by cases hp⟩
theorem LkS.more {Q Q' : LKey → Prop} {f : Ux.Map} {fc fb sc sb : Nat} {w : World} (h : LkS Q f fc fb sc sb w) (hq : ∀ x, Q x → Q' x) (hn : ∀ x, Q' x → x.1 < w.heap.size ∧ x.1 ≠ fb) : LkS Q' f fc fb sc sb w := by
 obtain ⟨a1, a2, a3, ⟨L, b1, b2⟩, a5, a6, a7⟩ := h
 refine ⟨a1, a2, a3.more hq, ⟨L, b1, fun n v hv => ?_⟩, a5, a6, hn⟩
 rcases b2 n v hv with h | ⟨t, x, y⟩
 · exact .inl h
 · exact .inr ⟨t, x, tyQ_more y fun z hz => ⟨hq z hz, rfl⟩⟩
/-- What graph makes. -/
structure GRaw (Q : LKey → Prop) (f : Ux.Map) (fc fb sc sb vb lb gb y : Nat) (w : World) : Prop where
 look : LkS Q f fc fb sc sb w
 vars : MapK encInt (fun _ _ => True) w vb []
 lists : MapK encL (FreeQ Q) w lb []
 cell : w.heap[gb]? = some (.cells #[.func (.func 52) #[] #[.pointer (some ⟨fc, 0, none⟩), .pointer (some ⟨sc, 0, none⟩)], .slice none 0 0, .map (some vb), .map (some lb)] 101 (0, 0))
 low : y ≤ fb ∧ fc < vb ∧ fb < vb ∧ sc < vb ∧ sb < vb ∧ vb < lb ∧ lb < gb
theorem GRaw.keep {Q : LKey → Prop} {f : Ux.Map} {fc fb sc sb vb lb gb y : Nat} {w w' : World} (h : GRaw Q f fc fb sc sb vb lb gb y w) (hb : Below w.heap.size w w') : GRaw Q f fc fb sc sb vb lb gb y w' :=
 ⟨h.look.keep hb, h.vars.nil (hb.block _ h.vars.lt), h.lists.nil (hb.block _ h.lists.lt), ent_below h.cell hb, h.low⟩
theorem GRaw.more {Q Q' : LKey → Prop} {f : Ux.Map} {fc fb sc sb vb lb gb y : Nat} {w : World} (h : GRaw Q f fc fb sc sb vb lb gb y w) (hq : ∀ x, Q x → Q' x) (hn : ∀ x, Q' x → x.1 < w.heap.size ∧ x.1 ≠ fb) : GRaw Q' f fc fb sc sb vb lb gb y w :=
 ⟨h.look.more hq hn, h.vars, h.lists.nil rfl, h.cell, h.low⟩
theorem GRaw.gst {U : List LKey} {f : Ux.Map} {fc fb sc sb vb lb gb y : Nat} {w : World} (h : GRaw (· ∈ U) f fc fb sc sb vb lb gb y w) (hf : Ux.Fine f) (hfew : llen U ≤ 100000) (hu : ∀ x ∈ U, x.1 ≠ gb ∧ x.1 ≠ vb ∧ x.1 ≠ lb ∧ x.1 ≠ fb) (hsc : fc ≠ fb ∧ sc ≠ fb) :
 GCx.Ok ⟨w.heap.size, 0, 0, 0, gb, vb, lb, fc, fb, sc, sb, U, f⟩ ∧ GSt ⟨w.heap.size, 0, 0, 0, gb, vb, lb, fc, fb, sc, sb, U, f⟩ 0 w [] (fun _ => none) id (.slice none 0 0) ∧ Lows ⟨w.heap.size, 0, 0, 0, gb, vb, lb, fc, fb, sc, sb, U, f⟩ := by
 obtain ⟨l1, l2, l3, l4, l5, l6, l7⟩ := h.low
 have hg := ent_lt h.cell
 have hap := h.look.apart
 refine ⟨⟨⟨hg, h.vars.lt, h.lists.lt, by dsimp only; omega, by dsimp only; omega, by dsimp only; omega, by dsimp only; omega⟩, ⟨by dsimp only; omega, by dsimp only; omega, by dsimp only; omega, by dsimp only; omega, by dsimp only; omega, by dsimp only; omega⟩, ⟨by dsimp only; omega, by dsimp only; omega, by dsimp only; omega, by dsimp only; omega, by dsimp only; omega, by dsimp only; omega⟩, ⟨by dsimp only; omega, by dsimp only; omega, by dsimp only; omega, by dsimp only; omega, by dsimp only; omega, by dsimp only; omega⟩, fun x hx => ⟨.inl (h.look.q x hx).1, hu x hx⟩, hfew, hf⟩, ⟨h.cell, own_none _ _ _ _ (Nat.le_refl _), (fun p hp => by cases hp), (fun p hp => by cases hp), ⟨[], h.vars, (fun v val hv => by rw [lookL_nil] at hv; cases hv), (fun i p v hp => by cases hp)⟩, ⟨[], h.lists, (fun x val hv => by rw [lookL_nil] at hv; cases hv), fun _ _ => rfl⟩, (fun x ks hk => by cases hk), h.look, ⟨Nat.le_refl _, Nat.zero_le _, by dsimp only; omega⟩, (fun b hb => by cases hb), ⟨[], List.nodup_nil, (fun x hx => by cases hx), (fun x => by simp), by simp⟩, ⟨fun _ => 0, (fun i p hp => by cases hp)⟩, fun x _ => rfl⟩, fun x hx => .inl (h.look.q x hx).1⟩
/-- More lists come, below or in blocks made since; none has numbers yet. Blocks change that are none of the graph's. -/
theorem GSt.moreU {c : GCx} {e : Nat} {w w' : World} {ps : List Prt} {rep : Nat → Nat} {pv : Value} (h : GSt c e w ps (fun _ => none) rep pv) (hC : c.Ok) (hL : Lows c) {R : Nat → Prop} {U : List LKey} {a b : Nat} (hz : c.z0 = 0 ∧ c.z1 = 0) (hch : Chg R w w') (hR : ∀ k, R k → k ≠ c.gb ∧ k ≠ c.vb ∧ k ≠ c.lb ∧ k ≠ c.fc ∧ k ≠ c.fb ∧ k ≠ c.sc ∧ k ≠ c.sb ∧ pv.ownBlock ≠ some k ∧ ∀ x ∈ c.U, x.1 ≠ k)
 (ha : w.heap.size ≤ a) (hbe : b ≤ w'.heap.size) (hU : ∀ x ∈ c.U, x ∈ U) (hn : ∀ x ∈ U, x ∈ c.U ∨ (x.1 < c.y0 ∧ x.1 ≠ c.gb ∧ x.1 ≠ c.vb ∧ x.1 ≠ c.lb ∧ x.1 ≠ c.fb) ∨ (a ≤ x.1 ∧ x.1 < b)) (hfew : llen U ≤ 100000) :
 GCx.Ok { c with U := U, z0 := a, z1 := b } ∧ GSt { c with U := U, z0 := a, z1 := b } e w' ps (fun _ => none) rep pv ∧ Lows { c with U := U, z0 := a, z1 := b } := by
 obtain ⟨l1, l2, l3, l4, l5, l6, l7⟩ := hC.low
 have hs := h.size
 have hsz := hch.size
 have hlow : Lows { c with U := U, z0 := a, z1 := b } := fun x hx => by
  rcases hn x hx with hx | hx | hx
  · have := hL x hx; exact .inl (by show x.1 < c.y0; omega)
  · exact .inl hx.1
  · exact .inr hx
 have hq : ∀ x, x ∈ c.U → w'.heap[x.1]? = w.heap[x.1]? := fun x hx => hch.block _ (by have := hL x hx; omega) fun hr => (hR _ hr).2.2.2.2.2.2.2.2 x hx rfl
 have hmo : ∀ v t, TyQ (· ∈ c.U) w v t → TyQ (· ∈ U) w' v t := fun v t hh => tyQ_more hh fun x hx => ⟨hU x hx, hq x hx⟩
 obtain ⟨V, v1, v2, v3⟩ := h.vars
 obtain ⟨M, m1, m2, m3⟩ := h.lists
 have hMn : M = [] := by
  cases M with
  | nil => rfl
  | cons p r =>
    have hl : lookL p.1 (p :: r) = some p.2 := by simp [lookL, findL]
    obtain ⟨ks, a, _⟩ := m2 _ _ hl
    cases a
 subst hMn
 have hlk := h.look.chg hch ⟨fun hr => (hR _ hr).2.2.2.1 rfl, fun hr => (hR _ hr).2.2.2.2.1 rfl, fun hr => (hR _ hr).2.2.2.2.2.1 rfl, fun hr => (hR _ hr).2.2.2.2.2.2.1 rfl⟩ fun x hx hr => (hR _ hr).2.2.2.2.2.2.2.2 x hx rfl
 obtain ⟨ls, c1, c2, c3, c4⟩ := h.cnt
 refine ⟨⟨hC.low, hC.ne, hC.neg, hC.nec, fun x hx => ?_, hfew, hC.fine⟩, ⟨ent_chg h.gcell hch fun hr => (hR _ hr).1 rfl, own_chg h.own hch fun b hb hr => (hR _ hr).2.2.2.2.2.2.2.1 hb, fun p hp => hmo _ _ (h.ty p hp), h.free, ⟨V, v1.keep (hch.block _ v1.lt fun hr => (hR _ hr).2.1 rfl) fun _ _ => trivial, v2, v3⟩, ⟨[], m1.nil (hch.block _ m1.lt fun hr => (hR _ hr).2.2.1 rfl), (fun x val hv => by rw [lookL_nil] at hv; cases hv), fun _ _ => rfl⟩, (fun x ks hk => by cases hk), hlk.more hU fun x hx => ?_, ⟨by show c.y0 ≤ _; omega, hbe, by show c.z2 < _; omega⟩, fun g hg hf => ?_, ⟨ls, c1, fun x hx => hU x (c2 x hx), c3, c4⟩, h.tree, h.outr⟩, hlow⟩
 · have := hlow x hx
   refine ⟨this.elim .inl fun h => .inr (.inl h), ?_⟩
   rcases hn x hx with hx | hx | hx
   · exact (hC.u x hx).2
   · exact hx.2
   · exact ⟨by dsimp only; omega, by dsimp only; omega, by dsimp only; omega, by dsimp only; omega⟩
 · rcases hn x hx with hx | hx | hx
   · exact ⟨by have := hL x hx; omega, (hC.u x hx).2.2.2.2⟩
   · exact ⟨by omega, hx.2.2.2.2⟩
   · exact ⟨by omega, by omega⟩
 · have h1 := h.own.lt g hg
   have h2 := h.pz g hg
   rcases hf with hf | hf | hf
   · exact h2 (.inl hf)
   · have : a ≤ g := hf.1
     omega
   · exact h2 (.inr (.inr hf))
end Go.Proofs.YtcblppojnailpaaDoor
namespace Go.Proofs.YtcblppojnailpaaDoor
open Go Go.RowKit
set_option linter.unusedVariables false
set_option linter.unusedSimpArgs false
/-- All lists of a type, out of those of Q: few, and of few elements in all. -/
theorem tyQ_fin {Q : LKey → Prop} {w : World} : ∀ (t : Ux.Ty) (v : Value), TyQ Q w v t → ∃ U : List LKey, TyQ (· ∈ U) w v t ∧ llen U + 1 ≤ t.sz ∧ ∀ x ∈ U, Q x ∧ ∃ cs T, w.heap[x.1]? = some (.cells cs T (0, 0)) := by
 intro t
 induction t using Ux.Ty.ind with
 | hv n => intro v h; exact ⟨[], tyQ_v.2 (tyQ_v.1 h), by simp [llen, Ux.Ty.sz], fun x hx => by cases hx⟩
 | ha nm xs ih =>
   intro v h
   obtain ⟨k, av, h1, h2, h3⟩ := tyQ_a.1 h
   rcases h3 with ⟨rfl, p, c, rfl⟩ | ⟨g, o, c, cs, T, e1, hne, hQ, e2, e3, hg, e4⟩
   · exact ⟨[], tyQ_a.2 ⟨k, _, h1, h2, .inl ⟨rfl, p, c, rfl⟩⟩, by simp [llen, Ux.sz_a], fun x hx => by cases hx⟩
   have key : ∀ k, k ≤ xs.length → ∃ U : List LKey, (∀ i x, i < k → xs[i]? = some x → ∃ u, TyQ (· ∈ U) w u x ∧ u.cells.size = 3 ∧ ∀ j z, u.cells[j]? = some z → cs[o + i * 3 + j]? = some z) ∧ llen U + k ≤ ((xs.take k).map Ux.Ty.sz).sum ∧ ∀ x ∈ U, Q x ∧ ∃ cs T, w.heap[x.1]? = some (.cells cs T (0, 0)) := by
    intro k
    induction k with
    | zero => intro _; exact ⟨[], fun i x hi => by omega, by simp [llen], fun x hx => by cases hx⟩
    | succ k ihk =>
      intro hk
      obtain ⟨U, u1, u2, u3⟩ := ihk (by omega)
      obtain ⟨x, hx⟩ : ∃ x, xs[k]? = some x := ⟨_, List.getElem?_eq_getElem (by omega)⟩
      obtain ⟨u, a, b, d⟩ := e4 k x hx
      obtain ⟨V, v1, v2, v3⟩ := ih x (List.mem_of_getElem? hx) u a
      refine ⟨V ++ U, fun i y hi hy => ?_, ?_, fun z hz => (List.mem_append.1 hz).elim (v3 z) (u3 z)⟩
      · by_cases hik : i = k
        · subst hik
          rw [hx] at hy; injection hy with hy; subst hy
          exact ⟨u, tyQ_more v1 fun z hz => ⟨List.mem_append.2 (.inl hz), rfl⟩, b, d⟩
        · obtain ⟨u', a', b', d'⟩ := u1 i y (by omega) hy
          exact ⟨u', tyQ_more a' fun z hz => ⟨List.mem_append.2 (.inr hz), rfl⟩, b', d'⟩
      · have e1 : (xs.take (k + 1)).map Ux.Ty.sz = (xs.take k).map Ux.Ty.sz ++ [x.sz] := by rw [List.take_add_one, hx]; simp
        rw [llen_app, e1, List.sum_append, List.sum_singleton]
        omega
   obtain ⟨U, u1, u2, u3⟩ := key xs.length (Nat.le_refl _)
   rw [List.take_length] at u2
   refine ⟨(g, o, xs.length) :: U, tyQ_a.2 ⟨k, _, h1, h2, .inr ⟨g, o, c, cs, T, e1, hne, by simp, e2, e3, hg, fun i x hx => ?_⟩⟩, by rw [Ux.sz_a]; simp [llen] at u2 ⊢; omega, fun x hx => ?_⟩
   · obtain ⟨u, a, b, d⟩ := u1 i x (List.getElem?_eq_some_iff.1 hx).1 hx
     exact ⟨u, tyQ_more a fun z hz => ⟨List.mem_cons_of_mem _ hz, rfl⟩, b, d⟩
   · rcases List.mem_cons.1 hx with rfl | hx
     · exact ⟨hQ, cs, T, hg⟩
     · exact u3 x hx
theorem GRaw.apart {Q : LKey → Prop} {f : Ux.Map} {fc fb sc sb vb lb gb y : Nat} {w : World} (h : GRaw Q f fc fb sc sb vb lb gb y w) : fc ≠ fb ∧ sc ≠ fb := by
 obtain ⟨L, ⟨es, k, hm, _⟩, _⟩ := h.look.fnd
 exact ⟨(fun e => by have := h.look.fcell; rw [e, hm] at this; cases this), (fun e => by have := h.look.scell; rw [e, hm] at this; cases this)⟩
set_option maxHeartbeats 1000000 in
theorem graph_any (Q : LKey → Prop) (f : Ux.Map) (sb : Nat) (w : World) (hs : SubAt Q w sb f) (hq : ∀ x, Q x → x.1 < w.heap.size) (hd : ∀ n, f n ≠ none → n < 1000000) :
 Calls Tryd.prog 31 #[.map (some sb)] w (fun e w' => ∃ fc fb sc vb lb gb, e = .returned (.pointer (some ⟨gb, 0, none⟩)) ∧ Below w.heap.size w w' ∧ GRaw Q f fc fb sc sb vb lb gb w.heap.size w') := by
 have hmm := @run_makeMap Tryd.prog
 go_enter Tryd.func31, Tryd.ntmps31
 go_wp2_with fail
 refine (looker_any Q f sb w hs hq hd).mono ?_
 rintro e w1 ⟨fc, fb, sc, rfl, hb1, hl1, hfb⟩
 have HB1 := Lib.hid hb1
 have HL1 := Lib.hid hl1
 clear hs hq hb1 hl1
 go_wp2_with fail
 go_ret
 have hw := HL1.out.low
 have b1 : Below w1.heap.size w1 (w1.alloc (.map #[] 0)) := (Below.refl _ _).alloc (Nat.le_refl _) _
 have b2 : Below w1.heap.size w1 ((w1.alloc (.map #[] 0)).alloc (.map #[] 0)) := b1.alloc (by simp) _
 have b3 : Below w1.heap.size w1 (((w1.alloc (.map #[] 0)).alloc (.map #[] 0)).alloc (.cells #[.func (.func 52) #[] #[.pointer (some ⟨fc, 0, none⟩), .pointer (some ⟨sc, 0, none⟩)], .slice none 0 0, .map (some w1.heap.size), .map (some (w1.heap.size + 1))] 101)) := b2.alloc (by simp; omega) _
 have m1 : MapK encInt (fun _ _ => True) (w1.alloc (.map #[] 0)) w1.heap.size [] := MapK.made w1
 have m2 : MapK encL (FreeQ Q) ((w1.alloc (.map #[] 0)).alloc (.map #[] 0)) (w1.alloc (.map #[] 0)).heap.size [] := MapK.made _
 have e3 := ent_new ((w1.alloc (.map #[] 0)).alloc (.map #[] 0)) #[.func (.func 52) #[] #[.pointer (some ⟨fc, 0, none⟩), .pointer (some ⟨sc, 0, none⟩)], .slice none 0 0, .map (some w1.heap.size), .map (some (w1.heap.size + 1))] 101
 simp only [World.size_alloc] at m2 e3
 exact ⟨fc, fb, sc, w1.heap.size, w1.heap.size + 1, w1.heap.size + 1 + 1, rfl, HB1.out.trans (b3.mono HB1.out.size), HL1.out.keep b3, m1.nil ((Below.heap_alloc _ _ _ (by simp <;> omega)).trans (Below.heap_alloc _ _ _ (by simp))), m2.nil (Below.heap_alloc _ _ _ (by simp)), e3, ⟨hfb, by omega, by omega, by omega, by omega, by omega, by omega⟩⟩
end Go.Proofs.YtcblppojnailpaaDoor
