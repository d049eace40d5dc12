/-
  Several texts in one: UIns, UOwn, UJoin, UJdP.
-/
import Derived.Test.YtcblppojnailpaaDoorG08
import Derived.BigRegion
namespace Go.Proofs.YtcblppojnailpaaDoor
open Go Go.RowKit
set_option linter.unusedVariables false
set_option linter.unusedSimpArgs false
set_option maxHeartbeats 4000000 in
set_option maxRecDepth 100000 in
theorem inside_any (c : GCx) (hC : c.Ok) (hL : Lows c) (i0 j0 si : Nat) (ps0 : List Prt) (kl0 : LKey → Option (List Nat)) (rep : Nat → Nat) (pv0 : Value) (w : World) (h : GSt c 2 w ps0 kl0 rep pv0) (hi : si < ps0.length) (hpar : Ux.Par (mkGr ps0 kl0 rep) i0 j0) (hst : ∀ p ∈ ps0, p.st = 0) :
 Calls Tryd.prog 45 #[.pointer (some ⟨c.gb, 0, none⟩), .int .i64 si] w (InsPost c ps0 kl0 rep pv0 i0 j0 (rep si) w) := by
 have HG0 := Lib.hid h
 have HPAR := Lib.hid hpar
 have HST := Lib.hid hst
 have HLO := Lib.hid (show c.y0 ≤ w.heap.size ∧ c.z1 ≤ w.heap.size ∧ c.z2 < w.heap.size from h.size)
 have HSI := Lib.hid (⟨h.inv.rlt _ hi, h.inv.rr _ hi⟩ : rep si < ps0.length ∧ rep (rep si) = rep si)
 clear h hpar hst
 go_enter Tryd.func45, Tryd.ntmps45
 go_wp2_with fail
 refine (end_any c hC 2 ps0 kl0 rep pv0 si hi w HG0.out).mono ?_
 rintro e w1 ⟨rfl, ps1, g1, s1, st1, ch1⟩
 have HS1 := Lib.hid s1
 obtain ⟨q, hq⟩ : ∃ q, ps1[rep si]? = some q := ⟨_, List.getElem?_eq_getElem (by rw [HS1.out.1]; exact HSI.out.1)⟩
 have HQ := Lib.hid hq
 have HG1 := Lib.hid g1
 have HST1 := Lib.hid (st_same HST.out s1 st1)
 have HC1 := Lib.hid (show Chg (GKeep c pv0) w w1 from ch1.mono fun k _ hk => .inr (.inr (.inr (.inr hk))))
 clear s1 st1 ch1 g1 hq
 obtain ⟨s0, hs0⟩ : ∃ s0, s0 = rep si := ⟨_, rfl⟩
 rw [← hs0] at HQ HSI ⊢
 have HS0 := Lib.hid hs0
 clear hs0
 go_wp2_with fail
 refine (begin_any c hC ps1 kl0 rep pv0 s0 q HQ.out w1 HG1.out).mono ?_
 rintro e w2 ⟨v, ks, ex, kl', pv', rfl, n1, n2, n3, n4, n5, n6, n7, n8⟩
 obtain ⟨q2, cap2, rfl, _, _, _⟩ := n5.cell
 have HIS := Lib.hid (InS.begin0 HS1.out HST1.out n1 HQ.out HSI.out.2 rfl n6 n4 n7 n8 HPAR.out)
 have HKL := Lib.hid (imeas_start c hC s0 ks (kids_len n1 n4))
 have HG2 := Lib.hid n1
 have HC2 := Lib.hid (gk_trans HC1.out (.inl rfl) n2)
 have HL2 := Lib.hid (loc_trans HC1.out.size (.inl rfl) n3)
 have HV2 := Lib.hid n5
 clear n1 n2 n3 n4 n5 n6 n7 n8
 go_upto_region 3 with fail
 have hb3 : Below w2.heap.size w2 (w2.alloc (.cells #[.int .i64 (s0 : Int), .slice q2 ks.length cap2] 127)) := (Below.refl _ _).alloc (Nat.le_refl _) _
 have HIM : Hid (IM c rep w pv0 c.z2 (ps1.set s0 { q with tt := q.tt, st := 1 } ++ ex) kl' pv' [] [⟨s0, ks, .slice q2 ks.length cap2⟩] (.slice none 0 0) (.slice (some ⟨w2.heap.size, 0, none⟩) 1 1) (w2.alloc (.cells #[.int .i64 (s0 : Int), .slice q2 ks.length cap2] 127))) := Lib.hid
  ⟨HG2.out.below hC hb3, own_none _ _ _ _ (Nat.le_trans HC2.out.size hb3.size), ⟨rfl, .inr ⟨_, 1, _, rfl, HC2.out.size, ent_new w2 _ _, Nat.le_refl _, by decide, rfl, rfl⟩⟩, fun s hs => by
   rw [List.mem_singleton.1 hs]
   exact (HV2.out.keep fun b cur _ hcur => hb3.block _ (ent_lt hcur)).rest, HC2.out.trans (.of_below hb3), HL2.out, ⟨(fun b hb => by cases hb), .inr HLO.out.2.2⟩⟩
 have HIL : Hid (IL c ps0 kl0 rep i0 j0 s0 w pv0 (imeas c [] [(s0, ks)]) (.slice none 0 0) (.slice (some ⟨w2.heap.size, 0, none⟩) 1 1) (w2.alloc (.cells #[.int .i64 (s0 : Int), .slice q2 ks.length cap2] 127))) := Lib.hid ⟨_, _, _, _, _, _, HIM.out, HIS.out, Nat.le_refl _, HKL.out⟩
 clear hb3 HIM HIS HG2 HC2 HL2 HV2 HG1 HC1 HS1 HST1 HQ
 generalize w2.alloc (.cells #[.int .i64 (s0 : Int), .slice q2 ks.length cap2] 127) = w3 at HIL ⊢
 go_loopg [6, 7] (imeas c [] [(s0, ks)]) (fun k lv wv wr => Hid (IL c ps0 kl0 rep i0 j0 s0 w pv0 k lv wv wr))
 case atStart => exact HIL
 case round =>
  clear HIL HKL HST HPAR HG0
  obtain ⟨z, ps, kl, pv, L, W, hM, hS, hk⟩ := hrel.out
  clear hrel
  obtain ⟨pl, cl, rfl⟩ := own_slice hM.lrow
  obtain ⟨pw, cw, rfl⟩ := own_slice hM.wrow
  have HM := Lib.hid hM
  have HSS := Lib.hid hS
  have HK := Lib.hid hk
  cases W with
  | nil =>
    clear hM hS hk
    go_wp2_with fail
    go_ret2
    exact ⟨z, ps, kl, pv, L, [], _, _, HM.out, .inl ⟨rfl, by rw [← HS0.out]; exact HSS.out⟩⟩
  | cons s r =>
    obtain ⟨p, rest, v⟩ := s
    obtain ⟨kk, hkk⟩ : ∃ kk, kk = r.length := ⟨_, rfl⟩
    have hl1 : (⟨p, rest, v⟩ :: r : List Stp).length = kk + 1 := by rw [hkk]; rfl
    have hwr := hM.wrow
    rw [hl1] at hwr ⊢
    obtain ⟨wb, cur, rfl, hwb, hwbl, hk2, hk3, hgo, hcell⟩ := own_open hwr (by omega)
    clear HM
    rw [hl1] at hM
    have HM := Lib.hid hM
    have hk1 : (kk : Int) + 1 ≤ (cw : Int) := by omega
    have hk4 : wrap64 ((kk : Int) + 1 - 1) = (kk : Int) := by
     have h1 := hS.lens; have h2 := hM.gst.few2; have h3 := hC.few
     have h4 : (wpr (⟨p, rest, v⟩ :: r)).length = kk + 1 := by rw [← hl1]; simp [wpr]
     have h5 : llen (c.at z).U = llen c.U := rfl
     unfold wrap64; omega
    have hkk0 : (0 : Int) < (kk : Int) + 1 := by omega
    have o0 := hcell _ _ (wcells_top ⟨p, rest, v⟩ r).1
    have o1 := hcell _ _ (wcells_top ⟨p, rest, v⟩ r).2
    rw [← hkk] at o0 o1
    have x0 := ent_cell hgo _ _ o0
    have x1 := ent_cell hgo _ _ o1
    have HGO := Lib.hid hgo
    have HO := Lib.hid (⟨o0, o1⟩ : _ ∧ _)
    have HKK := Lib.hid hkk
    have HWR := Lib.hid hwr
    have HRS := Lib.hid (hM.rests _ (by simp : (⟨p, rest, v⟩ : Stp) ∈ ⟨p, rest, v⟩ :: r))
    clear hM hS hk hgo hcell o0 o1 hl1 hwr hk2
    cases rest with
    | nil =>
      obtain ⟨q0, cap0, hv⟩ := HRS.out.form
      have hv' : v = .slice q0 0 cap0 := hv
      subst hv'
      clear hv hkk
      go_upto_region 6 with fail
      obtain ⟨pp, pc, rfl⟩ := own_slice HM.out.gst.own
      have hpl : p < ps.length := HSS.out.top.1
      obtain ⟨pb, pcur, rfl, hpb, hpbl, hpk2, hpk3, hpe, hpcell⟩ := own_open HM.out.gst.own (by omega)
      obtain ⟨y, hy⟩ : ∃ y, ps[p]? = some y := ⟨_, List.getElem?_eq_getElem hpl⟩
      have x4 := ent_cell hpe _ _ (hpcell (p * 5 + 4) (.int .i64 y.st) (by rw [pcells_at 4 hy (by decide)]; rfl))
      have xf := ent_free hpe
      have g1 := ent_cell HM.out.gst.gcell 1 _ rfl
      have hp1 : (p : Int) < (ps.length : Int) := by omega
      have hp2 : (ps.length : Int) ≤ (pc : Int) := by omega
      have hne : ¬ wb = pb := fun e => own_ne HM.out.gst.own HGO.out (fun cs e => by injection e with _ e _; cases e) (by rw [e]; rfl)
      have HY := Lib.hid hy
      clear hpe hpcell hy hpl hpk2
      go_region
      have hdr : Below (wr.setCell ⟨pb, p * 5 + 4, none⟩ (.int .i64 2)).heap.size (wr.setCell ⟨pb, p * 5 + 4, none⟩ (.int .i64 2)) ((wr.setCell ⟨pb, p * 5 + 4, none⟩ (.int .i64 2)).drew) := (Below.refl _ _).drew
      have hg4 := (HM.out.gst.state (hC.at hL z) HY.out 2 rfl).below (hC.at hL z) hdr
      have hc4 : Chg (GKeep c (.slice (some ⟨pb, 0, none⟩) ps.length pc)) wr ((wr.setCell ⟨pb, p * 5 + 4, none⟩ (.int .i64 2)).drew) := ((Chg.set (R := (· = pb)) (p := ⟨pb, p * 5 + 4, none⟩) rfl _).mono fun k _ hk => .inr (.inr (.inr (.inr (by rw [hk]; rfl))))).trans (.of_below hdr)
      have HM4 := Lib.hid (HM.out.parts hg4 hc4 (.inl rfl) hC HLO.out.1)
      have HS4 := Lib.hid (HSS.out.pop HY.out)
      have HGO4 := Lib.hid (ent_below (ent_other HGO.out pb (p * 5 + 4) (.int .i64 2) hne) hdr)
      clear hg4 hc4 hdr g1 x4 xf x0 x1 hne
      generalize (wr.setCell ⟨pb, p * 5 + 4, none⟩ (.int .i64 2)).drew = w4 at HM4 HGO4 ⊢
      have x0 := ent_cell HGO4.out _ _ HO.out.1
      have hn : L.length ≤ 100000000000 := by have h1 := HSS.out.lens; have h2 := HM.out.gst.few2; have h3 := hC.few; have h5 : llen (c.at z).U = llen c.U := rfl; omega
      have hsz : w.heap.size ≤ w4.heap.size := HM4.out.chg.size
      go_wp2_with (at_builtin; refine wpList_append_new eltInt w4 rfl (.tmp 40) (.tmp 45) rfl w.heap.size (.slice pl L.length cl) L.length _ rfl HM4.out.lrow #[.int .i64 (p : Int)] 3 rfl rfl (by intro u hu; simp only [List.mem_cons, List.not_mem_nil, or_false] at hu; subst hu; rfl) hn hsz ?_)
      intro v5 w5 hown5 hch5 hloc5
      obtain ⟨p5, c5, rfl⟩ := own_slice hown5
      obtain ⟨z', hm5⟩ := HM4.out.list hC hL ⟨HLO.out.1, HLO.out.2.1⟩ (p := p) hch5 hown5 hloc5
      have HM5 := Lib.hid hm5
      clear hown5 hch5 hloc5 hm5 x0 hsz
      go_wp2_with fail
      go_roundg (gk - 1)
      case measure =>
       have h1 := HK.out
       have h2 := imeas_pop c L p (wpr r)
       have h3 : imeas c L (wpr (⟨p, [], .slice q0 0 cap0⟩ :: r)) = imeas c L ((p, []) :: wpr r) := rfl
       omega
      case rel =>
       have hkk := HKK.out
       subst hkk
       have hcut := own_cut HM5.out.wrow (m := r.length) (by simp)
       rw [wcells_take] at hcut
       have h1 := HK.out
       have h2 := imeas_pop c L p (wpr r)
       have h3 : imeas c L (wpr (⟨p, [], .slice q0 0 cap0⟩ :: r)) = imeas c L ((p, []) :: wpr r) := rfl
       exact Lib.hid ⟨z', _, _, _, L ++ [p], r, HM5.out.way hC hL ⟨HLO.out.1, HLO.out.2.1⟩ (.refl _ _) hcut fun s hs => HM5.out.rests s (List.mem_cons_of_mem _ hs), HS4.out, by omega, by omega⟩
    | cons x rest =>
      obtain ⟨b, o, cap, p', hv, hxc, HRT, hsl⟩ := HRS.out.tail
      have hv' : v = .slice (some ⟨b, o, none⟩) (rest.length + 1) cap := hv
      subst hv'
      have hne0 : (((rest.length : Int) + 1) == 0) = false := by simp; omega
      have hpos : (0 : Int) < (rest.length : Int) + 1 := by omega
      have HRTT := Lib.hid HRT
      have HSL := Lib.hid hsl
      have hxl : x < ps.length := HSS.out.next HM.out.gst
      have HXL := Lib.hid hxl
      clear hv HRT hsl hkk hxl
      go_wp2_with fail
      refine (end_any (c.at z) (hC.at hL z) 2 ps kl rep pv x HXL.out wr HM.out.gst).mono ?_
      rintro e w4 ⟨rfl, ps4, g4, s4, st4, ch4⟩
      have HM4 := Lib.hid (HM.out.parts g4 (ch4.mono fun k _ hk => .inr (.inr (.inr (.inr hk)))) (.inl rfl) hC HLO.out.1)
      have HS4 := Lib.hid (HSS.out.same s4 st4)
      have HC4 := Lib.hid ch4
      have HGO4 := Lib.hid (ent_chg HGO.out ch4 (own_ne HM.out.gst.own HGO.out fun cs e => by injection e with _ e _; cases e))
      clear g4 s4 st4 ch4 x0 x1 hxc
      obtain ⟨y, hy⟩ : ∃ y, y = rep x := ⟨_, rfl⟩
      rw [← hy]
      have HY := Lib.hid hy
      clear hy
      have x0 := ent_cell HGO4.out _ _ HO.out.1
      have x1 := ent_cell HGO4.out _ _ HO.out.2
      have xf := ent_free HGO4.out
      have hsl := HSL.out w4
      go_upto_region 11 with fail
      have hset : Chg (fun k => (Value.slice (some ⟨wb, 0, none⟩) (kk + 1) cw).ownBlock = some k) w4 (w4.setCell ⟨wb, kk * 2 + 1, none⟩ (.slice p' rest.length (cap - 1))) := Chg.set (R := fun k => (Value.slice (some ⟨wb, 0, none⟩) (kk + 1) cw).ownBlock = some k) (p := ⟨wb, kk * 2 + 1, none⟩) rfl _
      have hwr4 := HM4.out.wrow
      rw [show (⟨p, x :: rest, .slice (some ⟨b, o, none⟩) (rest.length + 1) cap⟩ :: r : List Stp).length = kk + 1 by rw [HKK.out]; rfl] at hwr4
      have hsto := (hwr4.stored (kk * 2 + 1) (.slice p' rest.length (cap - 1))).1
      rw [HKK.out] at hsto
      rw [wcells_set p (x :: rest) rest] at hsto
      rw [← HKK.out] at hsto
      have hm5 := HM4.out.way hC hL ⟨HLO.out.1, HLO.out.2.1⟩ (W' := ⟨p, rest, .slice p' rest.length (cap - 1)⟩ :: r) hset (by rw [show (⟨p, rest, .slice p' rest.length (cap - 1)⟩ :: r : List Stp).length = kk + 1 by rw [HKK.out]; rfl]; exact hsto) (fun s hs => by
       rcases List.mem_cons.1 hs with e | hs
       · subst e
         exact HRTT.out.keep fun b cur hb hcur => HC4.out.block _ (ent_lt hcur) (own_ne HM.out.gst.own hcur fun cs e => by injection e with _ e _; cases e)
       · exact HM4.out.rests s (List.mem_cons_of_mem _ hs))
      have HM5 := Lib.hid hm5
      clear hset hsto hwr4 hm5 x0 x1 xf hsl HGO HGO4
      generalize w4.setCell ⟨wb, kk * 2 + 1, none⟩ (.slice p' rest.length (cap - 1)) = w5 at HM5 ⊢
      have hyl : y < ps4.length := by rw [HY.out]; exact HM4.out.gst.inv.rlt _ (HS4.out.next HM4.out.gst)
      obtain ⟨q, hq⟩ : ∃ q, ps4[y]? = some q := ⟨_, List.getElem?_eq_getElem hyl⟩
      obtain ⟨pp, pc, rfl⟩ := own_slice HM5.out.gst.own
      obtain ⟨pb, pcur, rfl, hpb, hpbl, hpk2, hpk3, hpe, hpcell⟩ := own_open HM5.out.gst.own (by omega)
      have x4 := ent_cell hpe _ _ (hpcell (y * 5 + 4) (.int .i64 q.st) (by rw [pcells_at 4 hq (by decide)]; rfl))
      have g1 := ent_cell HM5.out.gst.gcell 1 _ rfl
      have hp1 : (y : Int) < (ps4.length : Int) := by omega
      have hp2 : (ps4.length : Int) ≤ (pc : Int) := by omega
      have HQ := Lib.hid hq
      obtain ⟨t2, t1, t0⟩ := HS4.out.st y q hq
      clear hpe hpcell hq hyl hpk2
      by_cases hyW : y ∈ (wpr (⟨p, x :: rest, .slice (some ⟨b, o, none⟩) (rest.length + 1) cap⟩ :: r)).map (·.1)
      · have hst := t1 hyW
        rw [hst] at x4
        have HYW := Lib.hid hyW
        clear t0 t1 t2 hyW hst
        go_wp2_with fail
        go_ret2
        exact ⟨z, ps4, kl, _, L, _, _, _, HM5.out, .inr ⟨rfl, HS4.out.grow, HS4.out.ring (c := c.at z) HM4.out.gst (by rw [← HY.out]; exact HYW.out)⟩⟩
      · by_cases hyL : y ∈ L
        · have hst := t2 hyL
          rw [hst] at x4
          have HYL := Lib.hid hyL
          clear t0 t1 t2 hyW hyL hst
          go_wp2_with fail
          go_roundg (gk - 1)
          case measure =>
           have h1 := HK.out
           have h2 := imeas_skip c L p x rest (wpr r)
           have h3 : imeas c L (wpr (⟨p, x :: rest, .slice (some ⟨b, o, none⟩) (rest.length + 1) cap⟩ :: r)) = imeas c L ((p, x :: rest) :: wpr r) := rfl
           omega
          case rel =>
           have h1 := HK.out
           have h2 := imeas_skip c L p x rest (wpr r)
           have h3 : imeas c L (wpr (⟨p, x :: rest, .slice (some ⟨b, o, none⟩) (rest.length + 1) cap⟩ :: r)) = imeas c L ((p, x :: rest) :: wpr r) := rfl
           exact Lib.hid ⟨z, _, _, _, L, ⟨p, rest, .slice p' rest.length (cap - 1)⟩ :: r, HM5.out, HS4.out.skip (by rw [← HY.out]; exact HYL.out), by show imeas c L ((p, rest) :: wpr r) ≤ _; omega, by omega⟩
        · have hst := t0 hyL hyW
          rw [hst] at x4
          have HYL := Lib.hid hyL; have HYW := Lib.hid hyW
          clear t0 t1 t2 hyW hyL hst
          go_wp2_with fail
          refine (begin_any (c.at z) (hC.at hL z) ps4 kl rep _ y q HQ.out w5 HM5.out.gst).mono ?_
          rintro e w6 ⟨v6, ks6, ex6, kl6, pv6, rfl, n1, n2, n3, n4, n5, n6, n7, n8⟩
          obtain ⟨q6, cap6, rfl, _, _, _⟩ := n5.cell
          have HM6 := Lib.hid (HM5.out.parts n1 n2 n3 hC HLO.out.1)
          have hs6 := (InS.push HM4.out.gst n1 HS4.out (q := q) (ks := ks6) (ex := ex6) (by rw [← HY.out]; exact HQ.out) (by rw [← HY.out]; exact HYL.out) (by rw [← HY.out]; exact HYW.out) (by rw [← HY.out]) n6 n4 n7 n8)
          rw [← HY.out] at hs6
          have HS6 := Lib.hid hs6
          have HR6 := Lib.hid n5.rest
          have HK6 := Lib.hid (kids_len n1 n4)
          have HF6 := Lib.hid n1.few2
          clear n1 n2 n3 n4 n5 n6 n7 n8 x4 g1 hs6
          have hn : kk + 1 ≤ 100000000000 := by have h1 := HSS.out.lens; have h2 := HM.out.gst.few2; have h3 := hC.few; have h5 : llen (c.at z).U = llen c.U := rfl; have h4 : (wpr (⟨p, x :: rest, .slice (some ⟨b, o, none⟩) (rest.length + 1) cap⟩ :: r)).length = kk + 1 := (by rw [HKK.out]; simp [wpr]); omega
          have hsz : w.heap.size ≤ w6.heap.size := HM6.out.chg.size
          have hrow : w6.ownsRow w.heap.size 127 2 (.slice (some ⟨wb, 0, none⟩) (kk + 1) cw) (kk + 1) (wcells (⟨p, rest, .slice p' rest.length (cap - 1)⟩ :: r)) := by
           have := HM6.out.wrow
           rw [show (⟨p, rest, .slice p' rest.length (cap - 1)⟩ :: r : List Stp).length = kk + 1 by rw [HKK.out]; rfl] at this
           exact this
          have HROW := Lib.hid hrow
          clear hrow
          go_wp2_with (at_builtin; refine wpList_append_new eltStep w6 rfl (.tmp 80) (.tmp 84) rfl w.heap.size (.slice (some ⟨wb, 0, none⟩) (kk + 1) cw) (kk + 1) _ rfl HROW.out #[.int .i64 (y : Int), .slice q6 ks6.length cap6] 127 rfl rfl (by intro u hu; simp only [List.mem_cons, List.not_mem_nil, or_false] at hu; rcases hu with rfl | rfl <;> rfl) hn hsz ?_)
          intro v9 w9 hown9 hch9 hloc9
          obtain ⟨p9, c9, rfl⟩ := own_slice hown9
          have HM9 := Lib.hid (HM6.out.way hC hL ⟨HLO.out.1, HLO.out.2.1⟩ (W' := ⟨y, ks6, .slice q6 ks6.length cap6⟩ :: ⟨p, rest, .slice p' rest.length (cap - 1)⟩ :: r) hch9 (by
           have : (⟨y, ks6, .slice q6 ks6.length cap6⟩ :: ⟨p, rest, .slice p' rest.length (cap - 1)⟩ :: r : List Stp).length = kk + 1 + 1 := by rw [HKK.out]; rfl
           rw [this]; exact hown9) fun s hs => by
            rcases List.mem_cons.1 hs with e | hs
            · subst e; exact HR6.out
            · exact HM6.out.rests s hs)
          clear hown9 hch9 hloc9 hsz
          go_wp2_with fail
          have hms : imeas c L ((y, ks6) :: (p, rest) :: wpr r) + 1 ≤ imeas c L ((p, x :: rest) :: wpr r) := by
           have h1 := HS6.out.lens
           have h2 := HF6.out
           have h5 : llen (c.at z).U = llen c.U := rfl
           have h6 := HK6.out
           rw [h5] at h2 h6
           simp only [List.length_cons] at h1
           exact imeas_push c L p x y rest ks6 (wpr r) (Nat.le_trans h1 h2) h6
          have hms2 : imeas c L (wpr (⟨p, x :: rest, .slice (some ⟨b, o, none⟩) (rest.length + 1) cap⟩ :: r)) = imeas c L ((p, x :: rest) :: wpr r) := rfl
          have hms3 := HK.out
          go_roundg (gk - 1)
          case measure => omega
          case rel =>
           exact Lib.hid ⟨z, _, _, _, L, ⟨y, ks6, .slice q6 ks6.length cap6⟩ :: ⟨p, rest, .slice p' rest.length (cap - 1)⟩ :: r, HM9.out, HS6.out, by show imeas c L ((y, ks6) :: (p, rest) :: wpr r) ≤ _; omega, by omega⟩
end Go.Proofs.YtcblppojnailpaaDoor
namespace Go.Proofs.YtcblppojnailpaaDoor
open Go Go.RowKit
set_option linter.unusedVariables false
set_option linter.unusedSimpArgs false
theorem lookC_var {Q : LKey → Prop} {L0 mb db : Nat} (h1 : mb < L0 ∧ db < L0) (hq : ∀ x, Q x → x.1 < L0 ∧ x.1 ≠ mb ∧ x.1 ≠ db) : LookC Q Ux.Ty.v L0 mb db (fun _ => False) 28 #[] (fun _ => True) := by
 refine ⟨enters_of Tryd.func28 (by kernel_rfl) rfl, fun w n _ _ => ?_, fun _ _ _ _ => trivial, (fun b hb => hb.elim), fun x hx => ⟨(hq x hx).1, (hq x hx).2.1, (hq x hx).2.2, fun h => h⟩, h1⟩
 show Calls Tryd.prog 28 #[.int .i64 (n : Int)] w _
 refine (var_any n w).mono ?_
 rintro e w' ⟨rfl, hb⟩
 exact ⟨_, .v n, rfl, rfl, tyQ_v.2 ⟨_, _, _, _, rfl⟩, trivial, .of_below hb⟩
/-- What joined's maker holds. -/
structure OwnM (Q : LKey → Prop) (mb db : Nat) (c : Asg) (n : Nat) (w : World) : Prop where
 mks : MkS Q Ux.Ty.v c mb db (.func (.func 28) #[] #[]) n w
 made : MkM c [] w
 old : ∀ B ys, c B = some ys → B < w.heap.size ∧ B ≠ mb ∧ B ≠ db
/-- A type is made anew: its lists are new ones, or such as were made before. -/
theorem ownTyp_any {Q : LKey → Prop} {mb db : Nat} {c0 : Asg} {n0 : Nat} {t : Ux.Ty} {v : Value} {w : World} (h : OwnM Q mb db c0 n0 w) (ht : TyQ Q w v t) (hd : mb < w.heap.size ∧ db < w.heap.size) (hq : ∀ x, Q x → x.1 < w.heap.size ∧ x.1 ≠ mb ∧ x.1 ≠ db) (hM : 2 * n0 + 2 * t.sz + 2 ≤ 100000000000) :
 Calls Tryd.prog 37 #[.pointer (some ⟨mb, 0, none⟩), v] w (fun e w' => ∃ r c n, e = .returned r ∧ OwnM Q mb db c n w' ∧ TyQ (fun x => ∃ ys, c x.1 = some ys) w' r t ∧ c0.le c ∧ (∀ B, c B ≠ none → c0 B = none → w.heap.size ≤ B) ∧ Chg (fun b => b = mb ∨ b = db) w w' ∧ n ≤ n0 + t.sz) := by
 have hid := Ux.app_id t
 refine (mkTyp_any Q Ux.Ty.v mb db (fun _ => False) 28 #[] (fun _ => True) c0 n0 t v w (lookC_var hd hq) trivial h.mks h.made (fun B ys hB => ⟨(h.old B ys hB).1, (h.old B ys hB).2.1, (h.old B ys hB).2.2, fun h => h⟩) ht (by rw [hid]; exact hM)).mono ?_
 rintro e w' ⟨r, c, n, rfl, hr, hw, hm, hn⟩
 rw [hid] at hr hn
 refine ⟨r, c, n, rfl, ⟨hw.mks, hm, fun B ys hB => ?_⟩, right_ty (fun B ys h => by have := hm B ys h; rw [posOf_nil] at this; exact this) _ _ hr, hw.le, fun B h1 h2 => by have := (hw.new B h1 h2).1; omega, hw.chg.mono fun k _ hk => by rcases hk with h | h | h; exact .inl h; exact .inr h; exact h.elim, hn⟩
 obtain ⟨cs, e, _⟩ := (hm B ys hB).ex
 refine ⟨ent_lt e, ?_⟩
 cases hc0 : c0 B with
 | some zs => exact (h.old B zs hc0).2
 | none =>
   have := (hw.new B (by rw [hB]; simp) hc0).1
   omega
end Go.Proofs.YtcblppojnailpaaDoor
namespace Go.Proofs.YtcblppojnailpaaDoor
open Go Go.RowKit
set_option linter.unusedVariables false
set_option linter.unusedSimpArgs false
set_option maxHeartbeats 4000000 in
set_option maxRecDepth 100000 in
theorem join_any (c : GCx) (hC : c.Ok) (Goal : Ux.Sub → Prop) (i0 j0 : Nat) (ps0 : List Prt) (kl0 : LKey → Option (List Nat)) (rep0 : Nat → Nat) (pv0 : Value) (w : World) (h : GSt c 2 w ps0 kl0 rep0 pv0) (hi : i0 < ps0.length) (hj : j0 < ps0.length)
 (hcong : Ux.Cong (mkGr ps0 kl0 rep0) [(i0, j0)]) (hgoal : ∀ σ, (Ux.KS c.f (mkGr ps0 kl0 rep0) σ ∧ ((mkGr ps0 kl0 rep0).D i0).app σ = ((mkGr ps0 kl0 rep0).D j0).app σ) ↔ Goal σ) (hpar : Ux.Par (mkGr ps0 kl0 rep0) i0 j0) (hst : ∀ p ∈ ps0, p.st = 0) :
 Calls Tryd.prog 49 #[.pointer (some ⟨c.gb, 0, none⟩), .int .i64 i0, .int .i64 j0] w (JoinPost c Goal i0 j0 pv0 w) := by
 have hms : jmeas c ps0.length rep0 1 ≤ 30000000000 := by
  have h1 := hC.few
  have h2 := roots_le rep0 ps0.length
  have h3 : ps0.length ≤ 2 + llen c.U := by
   obtain ⟨ls, c1, c2, _, c4⟩ := h.cnt
   have := llen_sub c1 c2; omega
  unfold jmeas
  have h4 : 2 + llen c.U - ps0.length + roots rep0 ps0.length ≤ 2 + llen c.U := by omega
  have h5 := Nat.mul_le_mul_right (llen c.U + 2) h4
  have h6 : (2 + llen c.U) * (llen c.U + 2) ≤ 100002 * 100002 := Nat.mul_le_mul (by omega) (by omega)
  omega
 have HG0 := Lib.hid h
 have HOLO := Lib.hid (show c.y0 ≤ w.heap.size from h.size.1)
 have HZZ := Lib.hid (Nat.le_refl w.heap.size)
 have HZ := Lib.hid (show c.y0 ≤ w.heap.size ∧ c.z1 ≤ w.heap.size ∧ c.z2 < w.heap.size from h.size)
 have HIJ := Lib.hid (⟨hcong, hgoal, hpar, hst⟩ : _ ∧ _ ∧ _ ∧ _)
 have HMS := Lib.hid hms
 clear h hcong hgoal hpar hst hms
 go_enter Tryd.func49, Tryd.ntmps49
 go_upto_region 2 with fail
 have hb1 : Below w.heap.size w (w.alloc (.cells #[.int .i64 i0, .int .i64 j0] 132)) := (Below.refl _ _).alloc (Nat.le_refl _) _
 have HL : Hid (JL c Goal i0 j0 w.heap.size w pv0 (jmeas c ps0.length rep0 1) (.slice (some ⟨w.heap.size, 0, none⟩) 1 1) (w.alloc (.cells #[.int .i64 i0, .int .i64 j0] 132))) := Lib.hid (by
  refine ⟨ps0, kl0, rep0, pv0, [(i0, j0)], HG0.out.below hC hb1, ⟨rfl, .inr ⟨_, 1, _, rfl, Nat.le_refl _, ent_new w _ _, Nat.le_refl _, by decide, rfl, rfl⟩⟩, .of_below hb1, .inl rfl, ⟨HIJ.out.1, .pair (by simp)⟩, fun σ => ?_, fun q hq => ?_, ⟨HIJ.out.2.2.1, hi, hj⟩, HIJ.out.2.2.2, Nat.le_refl _, HMS.out⟩
  · rw [← HIJ.out.2.1 σ]; simp
  · rw [List.mem_singleton.1 hq]; exact ⟨hi, hj⟩)
 clear hb1
 generalize w.alloc (.cells #[.int .i64 i0, .int .i64 j0] 132) = w1 at HL ⊢
 go_loopg [7] (jmeas c ps0.length rep0 1) (fun k ov wr => Hid (JL c Goal i0 j0 w.heap.size w pv0 k ov wr))
 case atStart => exact HL
 case round =>
  clear HL HG0 HIJ HMS hi hj
  obtain ⟨ps, kl, rep, pv, P, k1, k2, k3, k4, k5, k6, k7, k8, k9, k10⟩ := hrel.out
  clear hrel
  obtain ⟨p7, c7, rfl⟩ := own_slice k2
  cases P with
  | nil =>
    have HK := Lib.hid (⟨k1, k3, k4, k5, k6, k8, k9⟩ : GSt c 2 wr ps kl rep pv ∧ _ ∧ _ ∧ _ ∧ _ ∧ _ ∧ _)
    clear k1 k2 k3 k4 k5 k6 k7 k8 k9 k10
    go_wp2_with fail
    go_ret
    obtain ⟨k1, k3, k4, k5, k6, k8, k9⟩ := HK.out
    exact ⟨ps, kl, rep, pv, true, rfl, k1, k3, k4, k9, fun _ => ⟨⟨k5.1, Ux.eqv_nil k5.2⟩, fun σ => by rw [← k6 σ]; simp, k8⟩, fun e => by cases e⟩
  | cons q r =>
    obtain ⟨kk, hkk⟩ : ∃ kk, kk = r.length := ⟨_, rfl⟩
    have hl1 : (q :: r).length = kk + 1 := by rw [hkk]; rfl
    rw [hl1] at k2 ⊢
    obtain ⟨ob, cur, rfl, hob, hobl, hk2, hk3, hgo, hcell⟩ := own_open k2 (by omega)
    have hk1 : (kk : Int) + 1 ≤ (c7 : Int) := by omega
    have hk4 : wrap64 ((kk : Int) + 1 - 1) = (kk : Int) := by unfold wrap64; omega
    have o0 := hcell _ _ (prc_top q r).1
    have o1 := hcell _ _ (prc_top q r).2
    rw [← hkk] at o0 o1
    have hpob : ¬ pv.ownBlock = some ob := own_ne k1.own hgo fun cs e => by injection e with _ e _; cases e
    have HOE := Lib.hid (⟨hgo, o0, o1, hpob⟩ : wr.heap[ob]? = some (.cells cur 132 (0, 0)) ∧ cur[kk * 2]? = some (Value.int .i64 (q.1 : Int)) ∧ cur[kk * 2 + 1]? = some (Value.int .i64 (q.2 : Int)) ∧ ¬ pv.ownBlock = some ob)
    have HG := Lib.hid k1
    have HLT := Lib.hid (k7 q (by simp))
    have HO := Lib.hid k2
    have HK := Lib.hid (⟨k3, k4, k5, k6, k7, k8, k9, k10⟩ : Chg (GKeep c pv0) w wr ∧ (pv.ownBlock = pv0.ownBlock ∨ ∀ g, pv.ownBlock = some g → w.heap.size ≤ g) ∧ (Ux.Cong (mkGr ps kl rep) (q :: r) ∧ Ux.Eqv (mkGr ps kl rep) (q :: r) i0 j0) ∧ _ ∧ _ ∧ _ ∧ _ ∧ _)
    have HKK := Lib.hid hkk
    have hkk0 : (kk : Int) < (kk : Int) + 1 := by omega
    clear k1 k2 k3 k4 k5 k6 k7 k8 k9 k10 hgo hcell o0 o1 hpob hkk hl1 hk2
    go_wp2_with fail
    refine wp_region_held_drew (S := fun (u : World) => Chg (fun b => pv.ownBlock = some b) wr u) (by kernel_rfl) ((Chg.drew _)) (fun hHeld => ?_)
    refine wpAnyH_take (i := 0) (v := .pointer (some ⟨c.gb, 0, none⟩)) rfl (by kernel_rfl) (by kernel_rfl) (by kernel_rfl) (fun _ _ _ h => h) (Or.inl ⟨by rfl, fun w' hSw => by go_simp⟩) hHeld ?_
    refine wpAnyH_take (i := 1) (v := .slice (some ⟨ob, 0, none⟩) (kk + 1) c7) rfl (by kernel_rfl) (by kernel_rfl) (by kernel_rfl) (fun _ _ _ h => h) (Or.inl ⟨by rfl, fun w' hSw => by go_simp⟩) hHeld ?_
    refine wpAnyH_take (i := 2) (v := .int .i64 (kk : Int)) rfl (by kernel_rfl) (by kernel_rfl) (by kernel_rfl) (fun _ _ _ h => h) (Or.inl ⟨by rfl, fun w' hSw => by go_simp⟩) hHeld ?_
    refine wpAnyH_take (i := 3) (v := .pointer (some ⟨ob, kk * 2, none⟩)) rfl (by kernel_rfl) (by kernel_rfl) (by kernel_rfl) (fun _ _ _ h => h) (Or.inl ⟨by rfl, fun w' hSw => by go_simp⟩) hHeld ?_
    refine wpAnyH_take (i := 4) (v := .pointer (some ⟨ob, kk * 2, none⟩)) rfl (by kernel_rfl) (by kernel_rfl) (by kernel_rfl) (fun _ _ _ h => h) (Or.inl ⟨by rfl, fun w' hSw => by go_simp⟩) hHeld ?_
    refine wpAnyH_take (i := 5) (v := .int .i64 (q.1 : Int)) rfl (by kernel_rfl) (by kernel_rfl) (by kernel_rfl) (fun _ _ _ h => h) (Or.inl ⟨by rfl, fun w' hSw => by have h := ent_cell (ent_chg HOE.out.1 hSw HOE.out.2.2.2) _ _ HOE.out.2.1; go_simp⟩) hHeld ?_
    refine wpAnyH_take (i := 7) (v := .pointer (some ⟨c.gb, 0, none⟩)) rfl (by kernel_rfl) (by kernel_rfl) (by kernel_rfl) (fun _ _ _ h => h) (Or.inl ⟨by rfl, fun w' hSw => by go_simp⟩) hHeld ?_
    refine wpAnyH_take (i := 8) (v := .slice (some ⟨ob, 0, none⟩) (kk + 1) c7) rfl (by kernel_rfl) (by kernel_rfl) (by kernel_rfl) (fun _ _ _ h => h) (Or.inl ⟨by rfl, fun w' hSw => by go_simp⟩) hHeld ?_
    refine wpAnyH_take (i := 9) (v := .int .i64 (kk : Int)) rfl (by kernel_rfl) (by kernel_rfl) (by kernel_rfl) (fun _ _ _ h => h) (Or.inl ⟨by rfl, fun w' hSw => by go_simp⟩) hHeld ?_
    refine wpAnyH_take (i := 10) (v := .pointer (some ⟨ob, kk * 2, none⟩)) rfl (by kernel_rfl) (by kernel_rfl) (by kernel_rfl) (fun _ _ _ h => h) (Or.inl ⟨by rfl, fun w' hSw => by go_simp⟩) hHeld ?_
    refine wpAnyH_take (i := 11) (v := .pointer (some ⟨ob, kk * 2 + 1, none⟩)) rfl (by kernel_rfl) (by kernel_rfl) (by kernel_rfl) (fun _ _ _ h => h) (Or.inl ⟨by rfl, fun w' hSw => by go_simp⟩) hHeld ?_
    refine wpAnyH_take (i := 12) (v := .int .i64 (q.2 : Int)) rfl (by kernel_rfl) (by kernel_rfl) (by kernel_rfl) (fun _ _ _ h => h) (Or.inl ⟨by rfl, fun w' hSw => by have h := ent_cell (ent_chg HOE.out.1 hSw HOE.out.2.2.2) _ _ HOE.out.2.2.1; go_simp⟩) hHeld ?_
    try simp only [Act.put, List.getElem_toArray, List.getElem_cons_succ, List.getElem_cons_zero, List.setIfInBounds_toArray, List.set_cons_zero, List.set_cons_succ]
    refine wpAnyH_ready (rs := [6]) (by kernel_rfl) (by simp) ?_
    refine AllReadyH.cons rfl (fun K hK => ?_) AllReadyH.nil
    go_simp
    refine (end_any c hC 2 ps kl rep pv q.1 HLT.out.1 wr.drew (HG.out.below hC ((Below.refl _ _).drew))).mono ?_
    rintro e w4 ⟨rfl, ps4, g4, s4, st4, ch4⟩
    replace ch4 : Chg (fun b => pv.ownBlock = some b) wr w4 := (Chg.drew wr).trans ch4
    have HG4 := Lib.hid g4; have HS4 := Lib.hid s4; have HST4 := Lib.hid st4; have HC4 := Lib.hid ch4
    clear g4 s4 st4 ch4
    refine hK.out _ _ HC4.out (fun hHeld => ?_)
    clear hK K
    refine wpAnyH_ready (rs := [13]) (by kernel_rfl) (by simp) ?_
    refine AllReadyH.cons rfl (fun K hK => ?_) AllReadyH.nil
    go_simp
    refine (end_any c hC 2 ps4 kl rep pv q.2 (by rw [HS4.out.1]; exact HLT.out.2) w4 HG4.out).mono ?_
    rintro e w5 ⟨rfl, ps5, g5, s5, st5, ch5⟩
    have HG5 := Lib.hid g5; have HS5 := Lib.hid (HS4.out.trans s5); have HC5 := Lib.hid (HC4.out.trans ch5)
    have HST5 := Lib.hid (show ∀ (j : Nat) (p p' : Prt), ps[j]? = some p → ps5[j]? = some p' → p'.st = p.st from fun j p p' h1 h2 => by
     obtain ⟨a, b, h3⟩ := HS4.out.2 j p h1
     exact (st5 j _ p' h3 h2).trans (HST4.out j p _ h1 h3))
    clear g5 s5 st5 ch5
    refine hK.out _ _ HC5.out (fun hHeld => ?_)
    clear hK K
    refine wpAnyH_take (i := 14) (v := .int .i64 (rep q.1 : Nat)) rfl (by kernel_rfl) (by kernel_rfl) (by kernel_rfl) (fun _ _ _ h => h) (Or.inl ⟨by rfl, fun w' hSw => by go_simp⟩) hHeld ?_
    simp only [Act.put, List.getElem_toArray, List.getElem_cons_succ, List.getElem_cons_zero, List.setIfInBounds_toArray, List.set_cons_zero, List.set_cons_succ]
    refine wpAnyH_take (i := 15) (v := .int .i64 (rep q.2 : Nat)) rfl (by kernel_rfl) (by kernel_rfl) (by kernel_rfl) (fun _ _ _ h => h) (Or.inl ⟨by rfl, fun w' hSw => by go_simp⟩) hHeld ?_
    simp only [Act.put, List.getElem_toArray, List.getElem_cons_succ, List.getElem_cons_zero, List.setIfInBounds_toArray, List.set_cons_zero, List.set_cons_succ]
    refine wpAnyH_done (by kernel_rfl) ?_ _
    obtain ⟨i, hi⟩ : ∃ i, i = rep q.1 := ⟨_, rfl⟩
    obtain ⟨j, hj⟩ : ∃ j, j = rep q.2 := ⟨_, rfl⟩
    rw [← hi, ← hj]
    have HI := Lib.hid hi; have HJ := Lib.hid hj
    clear hi hj
    have hinv := HG.out.inv
    have hgr := HS5.out.gr kl rep
    have hil : i < ps.length := by rw [HI.out]; exact hinv.rlt _ HLT.out.1
    have hjl : j < ps.length := by rw [HJ.out]; exact hinv.rlt _ HLT.out.2
    have hir : rep i = i := by rw [HI.out]; exact hinv.rr _ HLT.out.1
    have hjr : rep j = j := by rw [HJ.out]; exact hinv.rr _ HLT.out.2
    have HIJ := Lib.hid (⟨hil, hjl, hir, hjr⟩ : i < ps.length ∧ j < ps.length ∧ rep i = i ∧ rep j = j)
    have HGR := Lib.hid hgr
    have hof : ∀ b, (Value.slice (some ⟨ob, 0, none⟩) (kk + 1) c7).ownBlock = some b → ¬ pv.ownBlock = some b := fun b hb => by injection hb with hb; subst hb; exact HOE.out.2.2.2
    have HO5 := Lib.hid (own_chg HO.out HC5.out hof)
    clear hinv hgr hil hjl hir hjr hof HG4 HS4 HST4 HC4
    have HOC : Hid (w5.ownsRow w.heap.size 132 2 (.slice (some ⟨ob, 0, none⟩) kk c7) kk (prc r)) := Lib.hid (by
     have := own_cut HO5.out (m := kk) (by omega)
     rw [prc, List.take_append_of_le_length (by rw [prc_len, ← HKK.out]; exact Nat.le_refl _), List.take_of_length_le (by rw [prc_len, ← HKK.out]; exact Nat.le_refl _)] at this
     exact this)
    by_cases hij : i = j
    · have hb : ((i : Int) == (j : Int)) = true := by simp [hij]
      have HE := Lib.hid hij
      clear hij
      go_wp2_with fail
      obtain ⟨k3, k4, k5, k6, k7, k8, k9, k10, k11⟩ := HK.out
      have hkk := HKK.out
      go_roundg (jmeas c ps.length rep kk)
      case measure =>
       simp only [jmeas, List.length_cons] at k10 ⊢
       omega
      case rel =>
       have hrq : rep q.1 = rep q.2 := by rw [← HI.out, ← HJ.out]; exact HE.out
       refine Lib.hid ⟨ps5, kl, rep, pv, r, HG5.out, by rw [← hkk]; exact HOC.out, (k3.then HC5.out fun x hx e => ?_), k4, by rw [HGR.out]; exact ⟨Ux.cong_skip k5.1 hrq, eqv_skip k5.2 hrq⟩, fun σ => ?_, fun y hy => by rw [HS5.out.1]; exact k7 y (by simp [hy]), ⟨by rw [HGR.out]; exact k8.1, by rw [HS5.out.1]; exact k8.2.1, by rw [HS5.out.1]; exact k8.2.2⟩, fun p hp => ?_, by rw [HS5.out.1, ← hkk]; exact Nat.le_refl _, ?_⟩
       · rcases k4 with e2 | e2
         · exact .inr (.inr (.inr (.inr (e2 ▸ e))))
         · have := e2 x e; omega
       · rw [HGR.out, ← k6 σ]
         constructor
         · rintro ⟨a1, a2⟩
           refine ⟨a1, fun y hy => ?_⟩
           rcases List.mem_cons.1 hy with rfl | hy
           · have h1 := a1.2 y.1 HLT.out.1
             have h2 := a1.2 y.2 HLT.out.2
             rw [h1, h2]
             show ((mkGr ps kl rep).D (rep y.1)).app σ = ((mkGr ps kl rep).D (rep y.2)).app σ
             rw [hrq]
           · exact a2 y hy
         · rintro ⟨a1, a2⟩
           exact ⟨a1, fun y hy => a2 y (by simp [hy])⟩
       · obtain ⟨jj, hjj⟩ := List.mem_iff_getElem?.1 hp
         obtain ⟨p0, a1, a2⟩ := HS5.out.back hjj
         rw [HST5.out jj p0 p a1 hjj]; exact k9 p0 (List.mem_of_getElem? a1)
       · simp only [jmeas, List.length_cons] at k10 ⊢
         omega
    have hb : ((i : Int) == (j : Int)) = false := by simp; omega
    have hlen5 := HS5.out.1
    obtain ⟨pi, hpi⟩ : ∃ pi, ps5[i]? = some pi := ⟨_, List.getElem?_eq_getElem (by have := HIJ.out.1; omega)⟩
    obtain ⟨pj, hpj⟩ : ∃ pj, ps5[j]? = some pj := ⟨_, List.getElem?_eq_getElem (by have := HIJ.out.2.1; omega)⟩
    obtain ⟨pp, pc, hpv⟩ := own_slice HG5.out.own
    subst hpv
    have ho5 := HG5.out.own
    rw [hlen5] at ho5
    obtain ⟨pb, pcur, rfl, hpb, hpbl, hpk2, hpk3, hpe, hpcell⟩ := own_open ho5 (by have := HIJ.out.1; omega)
    have g1 := ent_cell HG5.out.gcell 1 _ rfl
    rw [hlen5] at g1
    have a0 := ent_cell hpe _ _ (hpcell (i * 5) (.int .i64 pi.k) (by have := pcells_at 0 hpi (by decide); rw [Nat.add_zero] at this; rw [this]; rfl))
    have a1 := ent_cell hpe _ _ (hpcell (i * 5 + 1) (.string pi.s) (by rw [pcells_at 1 hpi (by decide)]; rfl))
    have a2 := ent_cell hpe _ _ (hpcell (i * 5 + 2) (.slice pi.q pi.m pi.c) (by rw [pcells_at 2 hpi (by decide)]; rfl))
    have b0 := ent_cell hpe _ _ (hpcell (j * 5) (.int .i64 pj.k) (by have := pcells_at 0 hpj (by decide); rw [Nat.add_zero] at this; rw [this]; rfl))
    have b1 := ent_cell hpe _ _ (hpcell (j * 5 + 1) (.string pj.s) (by rw [pcells_at 1 hpj (by decide)]; rfl))
    have b2 := ent_cell hpe _ _ (hpcell (j * 5 + 2) (.slice pj.q pj.m pj.c) (by rw [pcells_at 2 hpj (by decide)]; rfl))
    have hi1 : (i : Int) < (ps.length : Int) := by have := HIJ.out.1; omega
    have hj1 : (j : Int) < (ps.length : Int) := by have := HIJ.out.2.1; omega
    have hp2 : (ps.length : Int) ≤ (pc : Int) := by omega
    have HPE := Lib.hid hpe
    have HPI := Lib.hid hpi; have HPJ := Lib.hid hpj
    have HNE := Lib.hid hij
    have gl := ent_lt HG5.out.gcell
    have HLEN5 := Lib.hid hlen5
    clear hlen5 ho5 hpk2 hpe hpcell hpi hpj hij
    go_upto_region 7 with fail
    go_cut [11, 12] (fun va vb wx => ∃ ba bb : Nat, va = .pointer (some ⟨ba, 0, none⟩) ∧ vb = .pointer (some ⟨bb, 0, none⟩) ∧ Hid (Below w5.heap.size w5 wx) ∧ Hid (wx.heap[ba]? = some (.cells #[.int .i64 pi.k, .string pi.s, .slice pi.q pi.m pi.c] 30 (0, 0))) ∧ Hid (wx.heap[bb]? = some (.cells #[.int .i64 pj.k, .string pj.s, .slice pj.q pj.m pj.c] 30 (0, 0))))
    case first =>
     go_region
     · go_wp2_with fail
       go_meet
       have e1 := ent_new (w5.alloc (.cells #[.int .i64 pi.k, .string pi.s, .slice pi.q pi.m pi.c] 30)) #[.int .i64 pj.k, .string pj.s, .slice pj.q pj.m pj.c] 30
       have e2 := ent_alloc (ent_new w5 #[.int .i64 pi.k, .string pi.s, .slice pi.q pi.m pi.c] 30) (.cells #[.int .i64 pj.k, .string pj.s, .slice pj.q pj.m pj.c] 30)
       simp only [World.size_alloc] at e1
       exact ⟨_, _, rfl, rfl, Lib.hid ((((Below.refl _ _).alloc (Nat.le_refl _) _).alloc (by simp) _).drew), Lib.hid e2, Lib.hid e1⟩
     · go_wp2_with fail
       go_meet
       have e1 := ent_new (w5.alloc (.cells #[.int .i64 pj.k, .string pj.s, .slice pj.q pj.m pj.c] 30)) #[.int .i64 pi.k, .string pi.s, .slice pi.q pi.m pi.c] 30
       have e2 := ent_alloc (ent_new w5 #[.int .i64 pj.k, .string pj.s, .slice pj.q pj.m pj.c] 30) (.cells #[.int .i64 pi.k, .string pi.s, .slice pi.q pi.m pi.c] 30)
       simp only [World.size_alloc] at e1
       exact ⟨_, _, rfl, rfl, Lib.hid ((((Below.refl _ _).alloc (Nat.le_refl _) _).alloc (by simp) _).drew), Lib.hid e1, Lib.hid e2⟩
    case rest =>
     rename World => w6
     obtain ⟨ba, bb, rfl, rfl, HB6, HBA, HBB⟩ := hcut
     clear a0 a1 a2 b0 b1 b2 g1 gl
     have HG6 := Lib.hid (HG5.out.below hC HB6.out)
     have HPE6 := Lib.hid (ent_below HPE.out HB6.out)
     have y0 := ent_cell HBA.out 0 _ rfl
     have y1 := ent_cell HBA.out 1 _ rfl
     have y2 := ent_cell HBA.out 2 _ rfl
     have hty5 := HG6.out.ty pi (List.mem_of_getElem? HPI.out)
     have hty5' := HG6.out.ty pj (List.mem_of_getElem? HPJ.out)
     have HKS := Lib.hid (show jmeas c ps5.length rep (kk + 1) ≤ gk ∧ gk ≤ 30000000000 by have := HK.out.2.2.2.2.2.2.2; rw [List.length_cons, ← HKK.out] at this; rw [HS5.out.1]; exact this)
     have HCH6 := Lib.hid (show Chg (GKeep c pv0) w w6 from (HK.out.1.then HC5.out fun x hx e => by
      rcases HK.out.2.1 with e2 | e2
      · exact .inr (.inr (.inr (.inr (e2 ▸ e))))
      · have := e2 x e; omega).trans (.of_below HB6.out))
     have HO6 := Lib.hid (own_kept HOC.out HB6.out)
     have HDI := Lib.hid (gr_at (kl := kl) (rep := rep) HPI.out).1
     have HDJ := Lib.hid (gr_at (kl := kl) (rep := rep) HPJ.out).1
     have hQ := HLT.out
     rw [← HS5.out.1] at hQ
     have HQ := Lib.hid hQ
     have hij5 := HIJ.out
     rw [← HS5.out.1] at hij5
     have HIJ5 := Lib.hid hij5
     have HPS := Lib.hid (show (Ux.Cong (mkGr ps5 kl rep) (q :: r) ∧ Ux.Eqv (mkGr ps5 kl rep) (q :: r) i0 j0) ∧ (∀ σ, (Ux.KS c.f (mkGr ps5 kl rep) σ ∧ ∀ y ∈ q :: r, ((mkGr ps5 kl rep).D y.1).app σ = ((mkGr ps5 kl rep).D y.2).app σ) ↔ Goal σ) ∧ (∀ y ∈ q :: r, y.1 < ps5.length ∧ y.2 < ps5.length) ∧ ParB ps5 kl rep i0 j0 ∧ ∀ p ∈ ps5, p.st = 0 by
      rw [HGR.out, HS5.out.1]
      exact ⟨HK.out.2.2.1, HK.out.2.2.2.1, HK.out.2.2.2.2.1, ⟨by rw [HGR.out]; exact HK.out.2.2.2.2.2.1.1, by rw [HS5.out.1]; exact HK.out.2.2.2.2.2.1.2.1, by rw [HS5.out.1]; exact HK.out.2.2.2.2.2.1.2.2⟩, st_same HK.out.2.2.2.2.2.2.1 HS5.out HST5.out⟩)
     have hp5 : (ps5.length : Int) ≤ (pc : Int) := by rw [HS5.out.1]; exact hp2
     have hi5 : (i : Int) < (ps5.length : Int) := by rw [HS5.out.1]; exact hi1
     have hj5 : (j : Int) < (ps5.length : Int) := by rw [HS5.out.1]; exact hj1
     have HLOC := Lib.hid HK.out.2.1
     clear hQ hij5 hi1 hj1 hp2
     have HTI := Lib.hid hty5; have HTJ := Lib.hid hty5'
     clear hty5 hty5'
     cases hDi : pi.D with
     | v vi =>
       have hki : pi.k = (vi : Int) := by
        have h1 := HTI.out; rw [hDi] at h1
        obtain ⟨s', q', m1, c', e⟩ := tyQ_v.1 h1
        simp only [Prt.ag, Value.agg.injEq, Array.mk.injEq, List.cons.injEq, Value.int.injEq] at e; omega
       have hd : decide ((0 : Int) ≤ pi.k) = true := by rw [hki]; simp
       have HVI := Lib.hid hDi
       clear hki hDi
       go_wp2_with fail
       refine (isVar_any pi.k (.string pi.s) (.slice pi.q pi.m pi.c) w6).mono ?_
       rintro e w7 ⟨rfl, hb7⟩
       have HG7 := Lib.hid (HG6.out.below hC hb7)
       have HO7 := Lib.hid (own_kept HO6.out hb7)
       have HCH7 := Lib.hid (HCH6.out.trans (.of_below hb7))
       have HP7 := Lib.hid (ent_below HPE6.out hb7)
       clear hb7 y0 y1 y2
       have g1 := ent_cell HG7.out.gcell 1 _ rfl
       have x3 : w7.cell? ⟨pb, i * 5 + 3, none⟩ = some (.int .i64 pi.tt) := by
        obtain ⟨_, cur', he, _, _, _, _, he2, hcl⟩ := own_open HG7.out.own (by have := HIJ5.out.1; omega)
        injection he with he; injection he with he _ _; subst he
        exact ent_cell he2 _ _ (hcl _ _ (by rw [pcells_at 3 HPI.out (by decide)]; rfl))
       have xf := ent_free HP7.out
       go_wp2_with fail
       obtain ⟨hJ, hpos⟩ := jl_next (q := q) hC HG7.out HO7.out HKK.out HCH7.out HLOC.out HPI.out HIJ5.out.2.1 HIJ5.out.2.2.1 HIJ5.out.2.2.2 HNE.out
        ⟨(jl_var HG7.out.inv HPS.out.1.1 HPS.out.2.1 HQ.out HIJ5.out.1 HIJ5.out.2.1 HIJ5.out.2.2.1 HIJ5.out.2.2.2 HNE.out (HDI.out.trans HVI.out) (.inl ⟨HI.out.symm, HJ.out.symm⟩)).1, eqv_link HPS.out.1.2 (.inl ⟨HI.out.symm, HJ.out.symm⟩) HIJ5.out.2.2.2 fun _ h => h⟩
        (jl_var HG7.out.inv HPS.out.1.1 HPS.out.2.1 HQ.out HIJ5.out.1 HIJ5.out.2.1 HIJ5.out.2.2.1 HIJ5.out.2.2.2 HNE.out (HDI.out.trans HVI.out) (.inl ⟨HI.out.symm, HJ.out.symm⟩)).2 HPS.out.2.2.1 HPS.out.2.2.2.1 HPS.out.2.2.2.2 HKS.out
       go_roundg (gk - 1)
       case measure => omega
       case rel => exact Lib.hid hJ
     | a nmi xsi =>
       obtain ⟨hki, hsi, hmi⟩ : pi.k < 0 ∧ pi.s = ⟨nmi.toArray⟩ ∧ pi.m = xsi.length := by
        have h1 := HTI.out; rw [hDi] at h1
        obtain ⟨k', av, hk', e, hr⟩ := tyQ_a.1 h1
        simp only [Prt.ag, Value.agg.injEq, Array.mk.injEq, List.cons.injEq, Value.int.injEq, Value.string.injEq, and_true, true_and] at e
        obtain ⟨e0, e1, rfl⟩ := e
        obtain ⟨_, _, e⟩ := hr.len
        injection e with _ e _
        exact ⟨by omega, e1, e⟩
       have hdi : decide ((0 : Int) ≤ pi.k) = false := by simp; omega
       have HVI := Lib.hid hDi; have HSI := Lib.hid hsi; have HMI := Lib.hid hmi
       clear hki hDi hsi hmi
       cases hDj : pj.D with
       | v vj =>
         have hkj : pj.k = (vj : Int) := by
          have h1 := HTJ.out; rw [hDj] at h1
          obtain ⟨s', q', m1, c', e⟩ := tyQ_v.1 h1
          simp only [Prt.ag, Value.agg.injEq, Array.mk.injEq, List.cons.injEq, Value.int.injEq] at e; omega
         have hdj : decide ((0 : Int) ≤ pj.k) = true := by rw [hkj]; simp
         have HVJ := Lib.hid hDj
         clear hkj hDj
         go_wp2_with fail
         refine (isVar_any pi.k (.string pi.s) (.slice pi.q pi.m pi.c) w6).mono ?_
         rintro e w7a ⟨rfl, hb7a⟩
         have z0 := ent_cell (ent_below HBB.out hb7a) 0 _ rfl
         have z1 := ent_cell (ent_below HBB.out hb7a) 1 _ rfl
         have z2 := ent_cell (ent_below HBB.out hb7a) 2 _ rfl
         have HG7a := Lib.hid (HG6.out.below hC hb7a)
         have HO7a := Lib.hid (own_kept HO6.out hb7a)
         have HCH7a := Lib.hid (HCH6.out.trans (.of_below hb7a))
         have HP7a := Lib.hid (ent_below HPE6.out hb7a)
         clear hb7a y0 y1 y2
         go_wp2_with fail
         refine (isVar_any pj.k (.string pj.s) (.slice pj.q pj.m pj.c) w7a).mono ?_
         rintro e w7 ⟨rfl, hb7⟩
         have HG7 := Lib.hid (HG7a.out.below hC hb7)
         have HO7 := Lib.hid (own_kept HO7a.out hb7)
         have HCH7 := Lib.hid (HCH7a.out.trans (.of_below hb7))
         have HP7 := Lib.hid (ent_below HP7a.out hb7)
         clear hb7 z0 z1 z2
         have g1 := ent_cell HG7.out.gcell 1 _ rfl
         have x3 : w7.cell? ⟨pb, j * 5 + 3, none⟩ = some (.int .i64 pj.tt) := by
          obtain ⟨_, cur', he, _, _, _, _, he2, hcl⟩ := own_open HG7.out.own (by have := HIJ5.out.1; omega)
          injection he with he; injection he with he _ _; subst he
          exact ent_cell he2 _ _ (hcl _ _ (by rw [pcells_at 3 HPJ.out (by decide)]; rfl))
         have xf := ent_free HP7.out
         go_wp2_with fail
         have hV := jl_var HG7.out.inv HPS.out.1.1 HPS.out.2.1 HQ.out HIJ5.out.2.1 HIJ5.out.1 HIJ5.out.2.2.2 HIJ5.out.2.2.1 (Ne.symm HNE.out) (HDJ.out.trans HVJ.out) (.inr ⟨HI.out.symm, HJ.out.symm⟩)
         obtain ⟨hJ, hpos⟩ := jl_next (q := q) hC HG7.out HO7.out HKK.out HCH7.out HLOC.out HPJ.out HIJ5.out.1 HIJ5.out.2.2.2 HIJ5.out.2.2.1 (Ne.symm HNE.out) ⟨hV.1, eqv_link HPS.out.1.2 (.inr ⟨HI.out.symm, HJ.out.symm⟩) HIJ5.out.2.2.1 fun _ h => h⟩ hV.2 HPS.out.2.2.1 HPS.out.2.2.2.1 HPS.out.2.2.2.2 HKS.out
         go_roundg (gk - 1)
         case measure => omega
         case rel => exact Lib.hid hJ
       | a nmj xsj =>
         obtain ⟨hkj, hsj, hmj⟩ : pj.k < 0 ∧ pj.s = ⟨nmj.toArray⟩ ∧ pj.m = xsj.length := by
          have h1 := HTJ.out; rw [hDj] at h1
          obtain ⟨k', av, hk', e, hr⟩ := tyQ_a.1 h1
          simp only [Prt.ag, Value.agg.injEq, Array.mk.injEq, List.cons.injEq, Value.int.injEq, Value.string.injEq, and_true, true_and] at e
          obtain ⟨e0, e1, rfl⟩ := e
          obtain ⟨_, _, e⟩ := hr.len
          injection e with _ e _
          exact ⟨by omega, e1, e⟩
         have hdj : decide ((0 : Int) ≤ pj.k) = false := by simp; omega
         have HVJ := Lib.hid hDj; have HSJ := Lib.hid hsj; have HMJ := Lib.hid hmj
         clear hkj hDj
         go_wp2_with fail
         refine (isVar_any pi.k (.string pi.s) (.slice pi.q pi.m pi.c) w6).mono ?_
         rintro e w7a ⟨rfl, hb7a⟩
         have z0 := ent_cell (ent_below HBB.out hb7a) 0 _ rfl
         have z1 := ent_cell (ent_below HBB.out hb7a) 1 _ rfl
         have z2 := ent_cell (ent_below HBB.out hb7a) 2 _ rfl
         have HG7a := Lib.hid (HG6.out.below hC hb7a)
         have HO7a := Lib.hid (own_kept HO6.out hb7a)
         have HCH7a := Lib.hid (HCH6.out.trans (.of_below hb7a))
         have HP7a := Lib.hid (ent_below HPE6.out hb7a)
         have HBA7a := Lib.hid (ent_below HBA.out hb7a)
         have HBB7a := Lib.hid (ent_below HBB.out hb7a)
         clear hb7a y0 y1 y2 hsj hmj
         go_wp2_with fail
         refine (isVar_any pj.k (.string pj.s) (.slice pj.q pj.m pj.c) w7a).mono ?_
         rintro e w7 ⟨rfl, hb7⟩
         have HG7 := Lib.hid (HG7a.out.below hC hb7)
         have HO7 := Lib.hid (own_kept HO7a.out hb7)
         have HCH7 := Lib.hid (HCH7a.out.trans (.of_below hb7))
         have HP7 := Lib.hid (ent_below HP7a.out hb7)
         have y1 := ent_cell (ent_below HBA7a.out hb7) 1 _ rfl
         have y2 := ent_cell (ent_below HBA7a.out hb7) 2 _ rfl
         have z1' := ent_cell (ent_below HBB7a.out hb7) 1 _ rfl
         have z2' := ent_cell (ent_below HBB7a.out hb7) 2 _ rfl
         rw [HSI.out] at y1
         rw [HMI.out] at y2
         rw [HSJ.out] at z1'
         rw [HMJ.out] at z2'
         clear hb7 z0 z1 z2
         by_cases hnm : nmi = nmj
         · by_cases hln : xsi.length = xsj.length
           · have hb2 : ((xsi.length : Int) != (xsj.length : Int)) = false := by simp; omega
             have hb1 : (nmi != nmj) = false := by simp [hnm]
             have hb3 : (nmi == nmj) = true := by simp [hnm]
             have HE := Lib.hid (⟨hnm, hln⟩ : nmi = nmj ∧ xsi.length = xsj.length)
             clear hln hnm
             have g1 := ent_cell HG7.out.gcell 1 _ rfl
             have x3 : w7.cell? ⟨pb, i * 5 + 3, none⟩ = some (.int .i64 pi.tt) := by
              obtain ⟨_, cur', he, _, _, _, _, he2, hcl⟩ := own_open HG7.out.own (by have := HIJ5.out.1; omega)
              injection he with he; injection he with he _ _; subst he
              exact ent_cell he2 _ _ (hcl _ _ (by rw [pcells_at 3 HPI.out (by decide)]; rfl))
             have xf := ent_free HP7.out
             go_upto_region 9 with fail
             have hlk := HG7.out.link hC HPI.out HIJ5.out.2.1 HIJ5.out.2.2.1 HIJ5.out.2.2.2 HNE.out rfl
             have hset : Chg (· = pb) w7 (w7.setCell ⟨pb, i * 5 + 3, none⟩ (.int .i64 (j : Int))) := Chg.set (R := (· = pb)) (p := ⟨pb, i * 5 + 3, none⟩) rfl _
             have hob7 := HO7.out
             have hpob : ¬ ob = pb := fun e => by
              rcases hob7.2 with ⟨h0, _⟩ | ⟨g', cap', cur', h0, _, hg', _⟩
              · cases h0
              · injection h0 with h0; injection h0 with h0; injection h0 with h0 _ _; subst h0; subst e
                exact own_ne HG7.out.own hg' (fun cs e => by injection e with _ e _; cases e) rfl
             have HG8 := Lib.hid hlk
             have HO8 := Lib.hid (own_chg hob7 hset fun b hb e => hpob (by injection hb with hb; exact hb.trans e))
             have HCH8 := Lib.hid (HCH7.out.then hset fun x hx e => by
              subst e
              rcases HLOC.out with e2 | e2
              · exact .inr (.inr (.inr (.inr (e2 ▸ rfl))))
              · have := e2 x rfl; omega)
             have HPJ8 := Lib.hid (show (ps5.set i { pi with tt := j, st := pi.st })[j]? = some pj by rw [List.getElem?_set_ne HNE.out]; exact HPJ.out)
             have HPI8 := Lib.hid (show (ps5.set i { pi with tt := j, st := pi.st })[i]? = some { pi with tt := j, st := pi.st } from List.getElem?_set_self HIJ5.out.1)
             have HSM := Lib.hid (Same.set HPI.out j pi.st)
             clear g1 x3 xf y1 y2 z1' z2' hlk hset hob7 hpob hb1 hb2 hb3 hdi hdj
             generalize w7.setCell ⟨pb, i * 5 + 3, none⟩ (.int .i64 (j : Int)) = w8 at HG8 HO8 HCH8 ⊢
             go_wp2_with fail
             refine (args_any c hC _ kl _ _ j pj HPJ8.out w8 HG8.out).mono ?_
             rintro e w9 ⟨v9, ks9, ex9, kl9, pv9, rfl, n1, n2, n3, n4, n5, n6, n7, n8⟩
             have HN9 := Lib.hid (⟨n4, n6, n7, n8⟩ : kidsOf kl9 pj = some ks9 ∧ (∀ x ls, kl x = some ls → kl9 x = some ls) ∧ (∀ q ∈ ex9, q.st = 0) ∧ _)
             have HG9 := Lib.hid n1
             have HV9 := Lib.hid n5
             have HCH9 := Lib.hid (gk_trans HCH8.out HLOC.out n2)
             have HLOC9 := Lib.hid (loc_trans HCH8.out.size HLOC.out n3)
             have HO9 := Lib.hid (own_gk hC HG8.out HO8.out HOLO.out n2)
             clear n1 n2 n3 n4 n5 n6 n7 n8
             have HPI9 := Lib.hid (show (ps5.set i { pi with tt := j, st := pi.st } ++ ex9)[i]? = some { pi with tt := j, st := pi.st } by rw [List.getElem?_append_left (by rw [List.length_set]; exact HIJ5.out.1)]; exact HPI8.out)
             go_wp2_with fail
             refine (args_any c hC _ kl9 _ pv9 i _ HPI9.out w9 HG9.out).mono ?_
             rintro e w10 ⟨v10, ks10, ex10, kl10, pv10, rfl, n1, n2, n3, n4, n5, n6, n7, n8⟩
             have HN10 := Lib.hid (⟨n4, n6, n7, n8⟩ : kidsOf kl10 { pi with tt := j, st := pi.st } = some ks10 ∧ (∀ x ls, kl9 x = some ls → kl10 x = some ls) ∧ (∀ q ∈ ex10, q.st = 0) ∧ _)
             have HG10 := Lib.hid n1
             have HV10 := Lib.hid n5
             have HV9' := Lib.hid (HV9.out.keep fun b cur hb hcur => n2.block _ (ent_lt hcur) (HG9.out.gkint hC hb hcur (by decide)))
             have HCH10 := Lib.hid (gk_trans HCH9.out HLOC9.out n2)
             have HLOC10 := Lib.hid (loc_trans HCH9.out.size HLOC9.out n3)
             have HO10 := Lib.hid (own_gk hC HG9.out HO9.out HOLO.out n2)
             clear n1 n2 n3 n4 n5 n6 n7 n8 HV9 HO9 HO8
             obtain ⟨q9, cap9, rfl, c9a, c9b, c9c⟩ := HV9'.out.cell
             obtain ⟨q10, cap10, rfl, c10a, c10b, c10c⟩ := HV10.out.cell
             have HC9 := Lib.hid c9c; have HC10 := Lib.hid c10c
             clear c9c c10c
             go_wp2_with fail
             have hkl10 := kids_len HG10.out HN10.out.1
             have hU := hC.few
             have hks : ks9.length = ks10.length := by
              have hin := HG10.out.inv
              obtain ⟨hl1, _⟩ := hin.kid i (by have := HIJ5.out.1; simp [mkGr]; omega) nmi xsi ks10 ((gr_at (i := i) (p := { pi with tt := j, st := pi.st }) (by rw [List.getElem?_append_left (List.getElem?_eq_some_iff.1 HPI9.out).1]; exact HPI9.out)).1.trans HVI.out) ((gr_at (i := i) (p := { pi with tt := j, st := pi.st }) (by rw [List.getElem?_append_left (List.getElem?_eq_some_iff.1 HPI9.out).1]; exact HPI9.out)).2.trans HN10.out.1)
              have hpj10 : (ps5.set i { pi with tt := j, st := pi.st } ++ ex9 ++ ex10)[j]? = some pj := by
               rw [List.append_assoc, List.getElem?_append_left (List.getElem?_eq_some_iff.1 HPJ8.out).1]; exact HPJ8.out
              obtain ⟨hl2, _⟩ := hin.kid j (by have := HIJ5.out.2.1; simp [mkGr]; omega) nmj xsj ks9 ((gr_at hpj10).1.trans HVJ.out) ((gr_at hpj10).2.trans (kidsOf_more HN10.out.2.1 HN9.out.1))
              rw [hl1, hl2]; exact HE.out.2.symm
             have hkr : kk ≤ 30000000000 := by have := HKS.out; unfold jmeas at this; omega
             have HPJ0 : Hid (PJ c w w.heap.size (ps5.set i { pi with tt := j, st := pi.st } ++ ex9 ++ ex10) kl10 (linkR rep i j) pv10 pv0 r ks10 ks9 (.slice q10 ks10.length cap10) (.slice q9 ks9.length cap9) 0 (.slice (some ⟨ob, 0, none⟩) kk c7) w10) := Lib.hid ⟨HG10.out, by rw [waits_zero, Nat.add_zero, ← HKK.out]; exact HO10.out, HV10.out, HV9'.out, HCH10.out⟩
             clear c9a c9b HC9 HC10 HG10 HO10 HCH10 HV10 HV9'
             go_loopw [7, 77] (fun ov iv wx => ∃ m : Nat, iv = .int .i64 (m : Int) ∧ m ≤ ks10.length ∧ Hid (PJ c w w.heap.size (ps5.set i { pi with tt := j, st := pi.st } ++ ex9 ++ ex10) kl10 (linkR rep i j) pv10 pv0 r ks10 ks9 (.slice q10 ks10.length cap10) (.slice q9 ks9.length cap9) m ov wx)) (fun _ iv _ => ks10.length - (intOf iv).toNat)
             case atStart => exact ⟨0, rfl, Nat.zero_le _, HPJ0⟩
             case round =>
              clear HPJ0
              obtain ⟨m, rfl, hm, HPJ1⟩ := hrel
              by_cases hmk : m = ks10.length
              · subst hmk
                go_wp2_with fail
                obtain ⟨hJL, hk0⟩ := jl_lists hC HG5.out.inv HG5.out.outr HPI.out HPJ.out HIJ5.out.2.2.1 HIJ5.out.2.2.2 HNE.out HI.out.symm HJ.out.symm HPS.out.1 HPS.out.2.1 HPS.out.2.2.1 HPS.out.2.2.2.1 HPS.out.2.2.2.2 HVI.out HVJ.out HE.out HN9.out HN10.out HPJ1.out HLOC10.out (by rw [← HKK.out]; exact HKS.out)
                go_roundg (gk - 1)
                case measure => omega
                case rel => exact Lib.hid hJL
              · have hm1 := jq_lt hm hmk
                have hm2 := jq_lt2 hm hmk hks
                obtain ⟨a, hka⟩ : ∃ a, ks10[m]? = some a := ⟨_, List.getElem?_eq_getElem (jq_s hm hmk)⟩
                obtain ⟨b, hkb⟩ : ∃ b, ks9[m]? = some b := ⟨_, List.getElem?_eq_getElem (hks ▸ jq_s hm hmk)⟩
                obtain ⟨x1, x2, e1, _, _, hc1⟩ := HPJ1.out.2.2.1.cell
                obtain ⟨x3, x4, e2, _, _, hc2⟩ := HPJ1.out.2.2.2.1.cell
                injection e1 with e1 f1 f2; injection e2 with e2 f3 f4
                clear f1 f2 f3 f4
                obtain ⟨b1, hb1, hd1⟩ := hc1 m a hka
                obtain ⟨b2, hb2, hd2⟩ := hc2 m b hkb
                rw [← e1] at hb1; rw [← e2] at hb2
                subst hb1; subst hb2
                clear hc1 hc2 e1 e2
                obtain ⟨p7, c7', rfl⟩ := own_slice HPJ1.out.2.1
                have HKA := Lib.hid hka; have HKB := Lib.hid hkb
                have hw1 := jq_w hm hkl10 hU
                have hn : r.length + m ≤ 100000000000 := jq_n hkr HKK.out hm hkl10 hU
                have hsz : w.heap.size ≤ wr.heap.size := HPJ1.out.2.2.2.2.size
                have HOW := Lib.hid HPJ1.out.2.1
                have HM := Lib.hid hm; have HMK := Lib.hid hmk; have HKS2 := Lib.hid hks; have HKR := Lib.hid hkr; have HKL := Lib.hid hkl10; have HUU := Lib.hid hU
                clear hka hkb hm hmk hks hkr hkl10 hU
                go_wp2_with (at_builtin; refine wpList_append_new eltTwo wr rfl (.tmp 82) (.tmp 89) rfl w.heap.size (.slice p7 (r.length + m) c7') (r.length + m) _ rfl HOW.out #[.int .i64 (a : Int), .int .i64 (b : Int)] 132 rfl rfl (by intro u hu; simp only [List.mem_cons, List.not_mem_nil, or_false] at hu; rcases hu with rfl | rfl <;> rfl) hn hsz ?_)
                intro v9 w11 hown9 hch9 hloc9
                obtain ⟨p9, c9, rfl⟩ := own_slice hown9
                have HP2 := Lib.hid (HPJ1.out.step hC HZ.out HZZ.out HKA.out HKB.out hown9 hch9)
                clear hown9 hch9 hloc9 hd1 hd2 hsz
                go_wp2_with fail
                go_roundw
                case measure => rw [hw1]; exact jq_d HM.out HMK.out
                case rel => exact ⟨m + 1, by rw [hw1], jq_s HM.out HMK.out, HP2⟩
           · have hb2 : ((xsi.length : Int) != (xsj.length : Int)) = true := by simp; omega
             have hb1 : (nmi != nmj) = false := by simp [hnm]
             have hb3 : (nmi == nmj) = true := by simp [hnm]
             have HE := Lib.hid hln
             clear hln hnm
             go_wp2_with fail
             go_ret
             exact ⟨ps5, kl, rep, _, false, rfl, HG7.out, HCH7.out, HLOC.out, HPS.out.2.2.2.2, (fun e => by cases e), fun _ σ => jl_not HPS.out.2.1 HQ.out (HDI.out.trans HVI.out) (HDJ.out.trans HVJ.out) HI.out.symm HJ.out.symm (.inr HE.out) σ⟩
         · have hb1 : (nmi != nmj) = true := by simp [hnm]
           have hb3 : (nmi == nmj) = false := by simp [hnm]
           have HE := Lib.hid hnm
           clear hnm
           go_wp2_with fail
           go_ret
           exact ⟨ps5, kl, rep, _, false, rfl, HG7.out, HCH7.out, HLOC.out, HPS.out.2.2.2.2, (fun e => by cases e), fun _ σ => jl_not HPS.out.2.1 HQ.out (HDI.out.trans HVI.out) (HDJ.out.trans HVJ.out) HI.out.symm HJ.out.symm (.inl HE.out) σ⟩
end Go.Proofs.YtcblppojnailpaaDoor
namespace Go.Proofs.YtcblppojnailpaaDoor
open Go Go.RowKit
set_option linter.unusedVariables false
set_option linter.unusedSimpArgs false
theorem jd_start {f : Ux.Map} {ta tb : Ux.Ty} {ps1 ps2 : List Prt} {i j : Nat} {kl : LKey → Option (List Nat)} (h1 : ∃ p, ps1[i]? = some p ∧ NumOf f ta p.D) (h2 : ps1 = [] ∨ ∃ p : Prt, ps1 = [] ++ [p] ∧ i = ([] : List Prt).length ∧ p.tt = i ∧ p.st = 0) (h3 : ∃ p, ps2[j]? = some p ∧ NumOf f tb p.D) (h4 : ps2 = ps1 ∨ ∃ p : Prt, ps2 = ps1 ++ [p] ∧ j = ps1.length ∧ p.tt = j ∧ p.st = 0) :
 i < ps2.length ∧ j < ps2.length ∧ Ux.Cong (mkGr ps2 kl id) [(i, j)] ∧ (∀ σ, (Ux.KS f (mkGr ps2 kl id) σ ∧ ((mkGr ps2 kl id).D i).app σ = ((mkGr ps2 kl id).D j).app σ) ↔ (Ux.Sol f σ ∧ ta.app σ = tb.app σ)) ∧ Ux.Par (mkGr ps2 kl id) i j ∧ ∀ p ∈ ps2, p.st = 0 := by
 obtain ⟨p1, a1, a2⟩ := h1
 obtain ⟨p2, b1, b2⟩ := h3
 rcases h2 with rfl | ⟨p, rfl, rfl, c1, c2⟩
 · simp at a1
 have a3 : ps2[([] : List Prt).length]? = some p1 := by
  rcases h4 with rfl | ⟨p', rfl, _⟩
  · exact a1
  · rw [List.getElem?_append_left (List.getElem?_eq_some_iff.1 a1).1]; exact a1
 refine ⟨(List.getElem?_eq_some_iff.1 a3).1, (List.getElem?_eq_some_iff.1 b1).1, fun x _ hne => absurd rfl hne, fun σ => ?_, fun x hx => ?_, ?_⟩
 · rw [(gr_at a3).1, (gr_at b1).1]
   constructor
   · rintro ⟨⟨k1, _⟩, k2⟩
     exact ⟨k1, by rw [← a2.sol k1, ← b2.sol k1]; exact k2⟩
   · rintro ⟨k1, k2⟩
     exact ⟨⟨k1, fun _ _ => rfl⟩, by rw [a2.sol k1, b2.sol k1]; exact k2⟩
 · have hx' : x < ps2.length := hx
   rcases h4 with rfl | ⟨p', rfl, rfl, _⟩
   · simp at hx'; exact .inl (by simp; omega)
   · simp at hx' ⊢; rcases Nat.lt_or_ge x 1 with h | h
     · exact .inl (by omega)
     · exact .inr (.inl (by omega))
 · rcases h4 with rfl | ⟨p', rfl, _, _, d⟩
   · intro y hy; simp at hy; rw [hy]; exact c2
   · intro y hy; simp at hy; rcases hy with hy | hy
     · rw [hy]; exact c2
     · rw [hy]; exact d
theorem InS.ranked {c : GCx} {e : Nat} {w : World} {ps0 ps : List Prt} {kl0 kl : LKey → Option (List Nat)} {rep : Nat → Nat} {pv : Value} {i0 j0 s0 : Nat} {L : List Nat} (h : InS ps0 kl0 rep i0 j0 s0 ps kl L []) (hg : GSt c e w ps kl rep pv) (hc : Ux.Cong (mkGr ps kl rep) []) (ha : rep i0 = s0) (hb : rep j0 = s0) : Ux.Ranked (mkGr ps kl rep) (fun x => L.idxOf x) := by
 have hs : s0 ∈ L := by simpa using h.start
 exact Ux.ranked_of hg.inv hg.klt (by simpa using h.nd) h.lok (Ux.all_in hg.inv hc h.lok h.par (by show rep i0 ∈ L; rw [ha]; exact hs) (by show rep j0 ∈ L; rw [hb]; exact hs))
/-- What joined answers. -/
def JdPost (f : Ux.Map) (gb vb lb fb sb ub : Nat) (ta tb : Ux.Ty) (w : World) (en : Ending) (w' : World) : Prop :=
 ∃ (lv : Value) (b : Bool), en = .returned (.tuple #[lv, .bool b]) ∧ Chg (fun k => k = gb ∨ k = vb ∨ k = lb ∨ k = fb) w w' ∧ (b = false → ∀ σ, ¬ (Ux.Sol f σ ∧ ta.app σ = tb.app σ)) ∧
  (b = true → ∃ (c : GCx) (z : Nat) (ps : List Prt) (kl : LKey → Option (List Nat)) (rep : Nat → Nat) (pv : Value) (L : List Nat) (lo : Nat), c.gb = gb ∧ c.vb = vb ∧ c.lb = lb ∧ c.fb = fb ∧ c.f = f ∧ c.sb = sb ∧ (∀ x ∈ c.U, x.1 ≠ sb) ∧ llen c.U ≤ ub ∧ c.Ok ∧ Lows c ∧ GSt (c.at z) 2 w' ps kl rep pv ∧ w'.ownsRow lo 3 1 lv L.length (nums L) ∧ (lv.ownBlock = some z ∨ z < lo) ∧ w.heap.size ≤ lo ∧ (∀ g, pv.ownBlock = some g → w.heap.size ≤ g) ∧
    Ux.Cong (mkGr ps kl rep) [] ∧ Ux.Ranked (mkGr ps kl rep) (fun x => L.idxOf x) ∧ Ux.LOk (mkGr ps kl rep) L ∧ L.Nodup ∧ (∀ x, x < ps.length → rep x ∈ L) ∧ ∀ σ, Ux.KS f (mkGr ps kl rep) σ ↔ (Ux.Sol f σ ∧ ta.app σ = tb.app σ))
end Go.Proofs.YtcblppojnailpaaDoor
