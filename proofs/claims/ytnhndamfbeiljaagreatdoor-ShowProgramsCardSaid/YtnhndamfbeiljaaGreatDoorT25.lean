/-
  Several texts in one: PShE.
-/
import Derived.Test.YtnhndamfbeiljaaGreatDoorT00
import Derived.Test.YtnhndamfbeiljaaGreatDoorT17
set_option linter.unusedVariables false
set_option linter.unusedSimpArgs false
set_option maxHeartbeats 4000000
set_option maxRecDepth 100000
namespace Go.Proofs.YtnhndamfbeiljaaGreatDoor
open Go Go.RowKit
open Go.Lib (hid)
open List renaming getElem_toArray → jR, getElem_cons_succ → jR0, getElem_cons_zero → jR1, setIfInBounds_toArray → jR2, set_cons_zero → jR3, set_cons_succ → jR4
theorem jII {w : World} (l : List (List UInt8)) (cs : Array Value) (h : cs.toList = jBB l) (hn : l.length <= 1000) : jAI 1 (jEL (w.alloc (.cells cs 9))) (w.alloc (.cells cs 9)) (.slice (some ⟨w.heap.size, 0, none⟩) l.length l.length) l := by
 have := World.ownsRow_lit (base := w.heap.size) (e := 9) (size := 1) w cs l.length (Nat.le_refl _) (by unfold maxLen; omega) (by rw [<- Array.length_toList, h, jH1]; omega); rw [h] at this; exact jCI this
theorem jKQ (g j : Nat) : (⟨g, 0, none⟩ : Addr).add j = ⟨g, j, none⟩ := by unfold Addr.add; split <;> simp_all
def ShowC (f : Nat) : Prop := ∀ (v : Value) (x : Px.Expr) (w : World), jB f w v x -> jF7 f x -> (Px.showE f x).length <= 800000 -> Lib.TabIs Tryz.prog w "internal/strconv.uint64pow10" .u64 Lib.pow10Tab ->
 Calls Tryz.prog 16 #[v] w fun e w' => e = .returned (.string ⟨(Px.showE f x).toArray⟩) /\ Below w.heap.size w w'
theorem jPO (f : Nat) (ih : ShowC f) : ShowC (f + 1) := by
 intro v x w h hgood hlen htab; obtain ⟨kd, p, nm, iv, ns, xs, al⟩ := x; obtain ⟨hparts, hcount, hcount4⟩ := jJ5 f kd p nm iv ns xs al hgood; have hshow := jBC f kd p nm iv ns xs al hgood; obtain ⟨nv, xv, av, rfl, hns, hxs, hal⟩ := h; obtain ⟨q1, c1, rfl⟩ := hns.len; obtain ⟨q2, c2, rfl⟩ := hxs.len; obtain ⟨q3, c3, rfl⟩ := hal.len; obtain ⟨i0, hi, hz0, hz1, hz2⟩ := info_parts jG6; have HI1 := hid hz1; have HI2 := hid hz2; have HI0 := hid hz0; have HI := hid hi
 clear hi hz0 hz1 hz2; obtain ⟨out, hout⟩ : ∃ out, out = Px.showE (f + 1) (.mk kd p nm iv ns xs al) := ⟨_, rfl⟩
 rw [<- hout] at hlen hparts hcount hcount4 hshow ⊢; have HOUT := hid hshow; have hxl : xs.length <= 800002 := by omega
 have HPART := hid (fun y hy => Nat.le_trans (hparts y hy) hlen); have HNS := hid hns; have HXS := hid hxs; have HAL := hid hal
 have HG := hid hgood; have HTAB := hid htab; have IH := hid ih; have HC4 := hid hcount4
 clear hparts hns hxs hal hgood htab ih hout hshow hcount hcount4; go_enter Tryz.func16, Tryz.ntmps16; go_wp2_with fail; have EN := hid (jA3 w #[.int .i64 kd, .int .i64 p, .string ⟨nm.toArray⟩, .int .i64 iv, .slice q1 ns.length c1, .slice q2 xs.length c2, .slice q3 al.length c3] 47); have HB0 := hid ((Below.refl w.heap.size w).alloc (Nat.le_refl _) (.cells #[.int .i64 kd, .int .i64 p, .string ⟨nm.toArray⟩, .int .i64 iv, .slice q1 ns.length c1, .slice q2 xs.length c2, .slice q3 al.length c3] 47))
 go_loopw [3, 4] (fun lv i wr => ∃ k : Nat, i = .int .i64 k /\ k <= xs.length /\ Hid (wr.ownsRow (w.heap.size + 1) 9 1 lv k (jBB ((xs.map (Px.showE f)).take k))) /\
  Hid (wr.heap[w.heap.size]? = some (.cells #[.int .i64 kd, .int .i64 p, .string ⟨nm.toArray⟩, .int .i64 iv, .slice q1 ns.length c1, .slice q2 xs.length c2, .slice q3 al.length c3] 47 (0, 0))) /\ Hid (Below w.heap.size w wr)) (fun _ i _ => xs.length - (intOf i).toNat)
 case atStart => exact ⟨0, rfl, Nat.zero_le _, hid (World.ownsRow_nil _ _ _ _), EN, HB0⟩
 case round =>
  clear EN HB0; obtain ⟨k, rfl, hk, HOWN, EN, HB⟩ := hrel; have ef := jA1 EN.out; have e0 := jA EN.out 0 _ rfl; have e2 := jA EN.out 2 _ rfl; have e3 := jA EN.out 3 _ rfl; have e4 := jA EN.out 4 _ rfl; have e5 := jA EN.out 5 _ rfl; have e6 := jA EN.out 6 _ rfl; by_cases hlt : k < xs.length
  . obtain ⟨t, ht⟩ : ∃ t, xs[k]? = some t := ⟨_, List.getElem?_eq_getElem hlt⟩
    rcases HXS.out with ⟨h, _⟩ | ⟨g, o, c', hv, h1, h2, h3⟩
    . rw [h] at hlt; simp at hlt
    injection hv with hq _ hc
    subst hq; subst hc
    obtain ⟨u, hu, hus, huc⟩ := h3 k t ht; obtain ⟨xk, xp, xi, xs', r1, n1, d1, r2, n2, d2, r3, n3, d3, rfl⟩ := jAU f _ _ _ hu; have c0 := huc 0 _ rfl; have c1' := huc 1 _ rfl; have c2' := huc 2 _ rfl; have c3' := huc 3 _ rfl; have c4 := huc 4 _ rfl; have c5 := huc 5 _ rfl; have c6 := huc 6 _ rfl
    replace c0 := (HB.out.cell (World.block_lt_of_cell? w _ c0)).trans c0; replace c1' := (HB.out.cell (World.block_lt_of_cell? w _ c1')).trans c1'; replace c2' := (HB.out.cell (World.block_lt_of_cell? w _ c2')).trans c2'; replace c3' := (HB.out.cell (World.block_lt_of_cell? w _ c3')).trans c3'; replace c4 := (HB.out.cell (World.block_lt_of_cell? w _ c4)).trans c4; replace c5 := (HB.out.cell (World.block_lt_of_cell? w _ c5)).trans c5; replace c6 := (HB.out.cell (World.block_lt_of_cell? w _ c6)).trans c6; rw [Nat.add_zero] at c0; have HU := hid (jFI hu HB.out); have HT := hid ht; have hpl := HPART.out t (List.mem_of_getElem? ht); have hgt := HG.out.2.2.2.2.2.2.1 t (List.mem_of_getElem? ht); clear h3 huc hu hus ht; go_wp2_with fail; refine (IH.out _ t _ HU.out hgt hpl ((Lib.tabBelow_of_tabIs HTAB.out) _ HB.out)).mono ?_; rintro e w2 ⟨rfl, hb2⟩; have hown2 := jA5 HOWN.out hb2; have HOWN2 := hid hown2; have EN2 := hid (jA0 EN.out hb2); have HB2 := bT HB hb2; have hs2 := HB2.out.size; have hen := jA6 EN2.out; obtain ⟨S, hS⟩ : ∃ S, S = Px.showE f t := ⟨_, rfl⟩
    rw [<- hS]; have HS := hid hS; clear hb2 hown2 hS hpl hgt; go_wp2_with (at_builtin; refine jAN _ rfl (.tmp 16) (.tmp 23) 33 rfl (w.heap.size + 1) 9 i0 (.string ⟨#[]⟩) 1 16 Tryz.underlying33 HI.out HI0.out HI1.out HI2.out rfl (by decide) _ k _ rfl (HOWN2.out.alloc _) ⟨w2.heap.size, 0, none⟩ 1 1 [.string ⟨S.toArray⟩] rfl (by decide) rfl ?c1 ?c2 ?c3 ?c4 ?c5 ?_)
    case c1 => exact fun j u h => jFC w2 S _ j u h
    case c2 => exact jEH S
    case c3 => unfold maxLen; omega
    case c4 => omega
    case c5 => simp; omega
    intro v' w3 hown3 hgr hloc; have hB3 := (HB2.out.alloc hs2 (.cells #[.string ⟨S.toArray⟩] 9)).grown hgr (by simp; omega) (fun kk hkk => by have := (HOWN2.out.lt kk hkk).1; omega)
    have hEN3 : w3.heap[w.heap.size]? = some (.cells #[.int .i64 kd, .int .i64 p, .string ⟨nm.toArray⟩, .int .i64 iv, .slice q1 ns.length c1, .slice (some ⟨g, o, none⟩) xs.length c2, .slice q3 al.length c3] 47 (0, 0)) :=
     (hgr.block _ (by simp; omega) (fun e => by have := (HOWN2.out.lt _ e.symm).1; omega)).trans (jA2 EN2.out _)
    have hl3 : jBB ((xs.map (Px.showE f)).take k) ++ [.string ⟨S.toArray⟩] = jBB ((xs.map (Px.showE f)).take (k + 1)) := by
     rw [<- jDC, List.take_add_one, List.getElem?_map, HT.out, HS.out]; simp
    rw [hl3] at hown3; have H1 := hid hown3; have H2 := hid hEN3; have H3 := hid hB3
    clear hown3 hEN3 hB3 hgr hloc hl3 e0 e2 e3 e4 e5 e6 ef c0 c1' c2' c3' c4 c5 c6; go_wp2
    go_roundw
    case rel => exact ⟨k + 1, by go_num, by omega, H1, H2, H3⟩
    case measure => simp [intOf]; omega
  . obtain rfl : k = xs.length := by omega
    have htake : (xs.map (Px.showE f)).take xs.length = xs.map (Px.showE f) := by rw [show xs.length = (xs.map (Px.showE f)).length by simp, List.take_length]
    rw [htake] at HOWN; clear htake hk; obtain ⟨L, hL⟩ : ∃ L, L = xs.map (Px.showE f) := ⟨_, rfl⟩
    rw [<- hL] at HOWN; have hLl : L.length = xs.length := by rw [hL]; simp
    have HL := hid hL; have HLL := hid hLl
    have hgd := HG.out; rw [<- hL] at HOUT; clear hL hLl; obtain ⟨lp, lc, rfl⟩ := jDX HOWN.out; obtain ⟨h8, hi0, h01, h35, h4, h67, _, hga⟩ := hgd; have HGA := hid hga; clear hga HG; have hs := HB.out.size; by_cases k0 : kd = 0
    . subst k0; obtain rfl := h01 (by simp); have ho : out = Lib.itoa iv := by rw [HOUT.out, if_pos rfl]
      have hiv := hi0 rfl; have hn0 : (([] : List Px.Expr).length : Int) = 0 := rfl; go_wp2_with fail; refine (jP0 iv hiv.1 hiv.2 _ ((Lib.tabBelow_of_tabIs HTAB.out) _ HB.out)).mono ?_; rintro e w2 ⟨rfl, hb2⟩; have HB2 := bT HB hb2; clear hb2; go_wp2_with fail; go_ret; exact ⟨by rw [ho]; rfl, HB2.out⟩
    have b0 : ((kd : Int) == 0) = false := by simp; omega
    by_cases k1 : kd = 1
    . subst k1; obtain rfl := h01 (by simp); have ho : out = nm := by rw [HOUT.out, if_neg k0, if_pos rfl]
      go_wp2_with fail; go_ret
      first | exact ⟨rfl, HB.out⟩ | exact ⟨by rw [ho]; rfl, HB.out⟩
    have b1 : ((kd : Int) == 1) = false := by simp; omega
    by_cases k2e : kd = 2 /\ xs = []
    . obtain ⟨rfl, rfl⟩ := k2e; have hLn : L = [] := List.eq_nil_of_length_eq_zero HLL.out; have ho : out = nm := by rw [HOUT.out, if_neg k0, if_neg k1, if_pos rfl, if_pos hLn]
      go_wp2_with fail; go_ret
      first | exact ⟨rfl, HB.out⟩ | exact ⟨by rw [ho]; rfl, HB.out⟩
    by_cases k8 : kd = 8
    . subst k8; obtain rfl := h01 (by simp); have ho : out = [102, 97, 105, 108] := by rw [HOUT.out]; rfl
      go_wp2_with fail; go_ret
      first | exact ⟨rfl, HB.out⟩ | exact ⟨by rw [ho]; rfl, HB.out⟩
    have b8 : ((kd : Int) == 8) = false := by simp; omega
    have hne : xs ≠ [] := by
     intro e
     rcases Nat.lt_or_ge kd 9 with h | h
     . have : kd = 2 \/ kd = 3 \/ kd = 4 \/ kd = 5 \/ kd = 6 \/ kd = 7 := by omega
       rcases this with h | h | h | h | h | h
       . exact k2e ⟨h, e⟩
       . have := h35 (.inl h); rw [e] at this; simp at this
       . have := (h4 h).1; rw [e] at this; simp at this
       . have := h35 (.inr h); rw [e] at this; simp at this
       . exact h67 (.inl h) e
       . exact h67 (.inr h) e
     . omega
    have hxp : 0 < xs.length := List.length_pos_iff.2 hne; have hb : ((xs.length : Int) == 0) = false := by simp; omega
    have hLne : L ≠ [] := by intro e; have := HLL.out; rw [e] at this; simp at this; omega
    obtain ⟨g, hlp⟩ : ∃ g, lp = some ⟨g, 0, none⟩ := by
     rcases HOWN.out.2 with ⟨h, h2⟩ | ⟨g, cap, cur, h, _⟩
     . injection h with h3 h4; omega
     . injection h with h3; exact ⟨g, h3⟩
    subst hlp; clear hne; by_cases k2 : kd = 2
    . subst k2; have ho : out = joined (nm :: L) := by rw [HOUT.out, if_neg k0, if_neg k1, if_pos rfl, if_neg hLne]
      have hw1 : (wr.alloc (.cells #[.string ⟨nm.toArray⟩] 9)).heap.size = wr.heap.size + 1 := by simp
      have hown1 := World.ownsRow_lit (base := wr.heap.size) (e := 9) (size := 1) wr #[.string ⟨nm.toArray⟩] 1 (Nat.le_refl _) (by unfold maxLen; omega) rfl; have OWN1 := hid hown1; have hnews : ∀ j u, (jBB L)[j]? = some u -> (wr.alloc (.cells #[.string ⟨nm.toArray⟩] 9)).cell? ⟨g, j, none⟩ = some u := fun j u hj => by have := World.ownsRow.cells (HOWN.out.alloc (.cells #[.string ⟨nm.toArray⟩] 9)) rfl j u hj; rwa [jKQ] at this
      have HNEWS := hid hnews; clear hown1 hnews; go_wp2_with (at_builtin; refine jAN _ rfl (.tmp 72) (.tmp 73) 33 rfl wr.heap.size 9 i0 (.string ⟨#[]⟩) 1 16 Tryz.underlying33 HI.out HI0.out HI1.out HI2.out rfl (by decide) _ 1 _ rfl OWN1.out ⟨g, 0, none⟩ xs.length lc (jBB L) rfl hxp ?cl2 ?cq12 ?cq22 ?cq32 ?cq42 ?cq52 ?_)
      case cl2 => rw [jH1, HLL.out]
      case cq12 => exact HNEWS.out
      case cq22 => intro u hu; unfold jBB at hu; obtain ⟨s, _, rfl⟩ := List.mem_map.1 hu; rfl
      case cq32 => unfold maxLen; omega
      case cq42 => omega
      intro v' w3 hown3 hgr hloc; have hB3 := (HB.out.alloc hs (.cells #[.string ⟨nm.toArray⟩] 9)).grown hgr (by simp; omega) (fun kk hkk => by simp only [Value.ownBlock, Option.some.injEq] at hkk; omega); have hl3 : ([.string ⟨nm.toArray⟩] : List Value) ++ jBB L = jBB (nm :: L) := rfl; have hown3' : w3.ownsRow wr.heap.size 9 1 v' (1 + xs.length) (jBB (nm :: L)) := hown3; have hj := jBX _ _ w3 (jCI hown3') (by have := hlen; rw [ho, jAX] at this; omega); rw [<- ho] at hj; obtain ⟨p3, c3', rfl⟩ := jDX hown3'; have HJ := hid hj; have HB3 := hid hB3
      clear ho hj hown3 hown3' hgr hloc hB3 hw1; go_wp2_with fail; refine HJ.out.mono ?_; rintro e w4 ⟨rfl, rfl⟩; go_wp2_with fail; go_ret; exact ⟨rfl, HB3.out⟩
    have b2 : ((kd : Int) == 2) = false := by simp; omega
    by_cases k7 : kd = 7
    . subst k7; have ho : out = joined (nm :: L) := by rw [HOUT.out, if_neg k0, if_neg k1, if_neg k2, if_pos rfl]
      have hw1 : (wr.alloc (.cells #[.string ⟨nm.toArray⟩] 9)).heap.size = wr.heap.size + 1 := by simp
      have hown1 := World.ownsRow_lit (base := wr.heap.size) (e := 9) (size := 1) wr #[.string ⟨nm.toArray⟩] 1 (Nat.le_refl _) (by unfold maxLen; omega) rfl; have OWN1 := hid hown1; have hnews : ∀ j u, (jBB L)[j]? = some u -> (wr.alloc (.cells #[.string ⟨nm.toArray⟩] 9)).cell? ⟨g, j, none⟩ = some u := fun j u hj => by have := World.ownsRow.cells (HOWN.out.alloc (.cells #[.string ⟨nm.toArray⟩] 9)) rfl j u hj; rwa [jKQ] at this
      have HNEWS := hid hnews; clear hown1 hnews; go_wp2_with (at_builtin; refine jAN _ rfl (.tmp 80) (.tmp 81) 33 rfl wr.heap.size 9 i0 (.string ⟨#[]⟩) 1 16 Tryz.underlying33 HI.out HI0.out HI1.out HI2.out rfl (by decide) _ 1 _ rfl OWN1.out ⟨g, 0, none⟩ xs.length lc (jBB L) rfl hxp ?cl7 ?cq17 ?cq27 ?cq37 ?cq47 ?cq57 ?_)
      case cl7 => rw [jH1, HLL.out]
      case cq17 => exact HNEWS.out
      case cq27 => intro u hu; unfold jBB at hu; obtain ⟨s, _, rfl⟩ := List.mem_map.1 hu; rfl
      case cq37 => unfold maxLen; omega
      case cq47 => omega
      intro v' w3 hown3 hgr hloc; have hB3 := (HB.out.alloc hs (.cells #[.string ⟨nm.toArray⟩] 9)).grown hgr (by simp; omega) (fun kk hkk => by simp only [Value.ownBlock, Option.some.injEq] at hkk; omega); have hl3 : ([.string ⟨nm.toArray⟩] : List Value) ++ jBB L = jBB (nm :: L) := rfl; have hown3' : w3.ownsRow wr.heap.size 9 1 v' (1 + xs.length) (jBB (nm :: L)) := hown3; have hj := jBX _ _ w3 (jCI hown3') (by have := hlen; rw [ho, jAX] at this; omega); rw [<- ho] at hj; obtain ⟨p3, c3', rfl⟩ := jDX hown3'; have HJ := hid hj; have HB3 := hid hB3
      clear ho hj hown3 hown3' hgr hloc hB3 hw1; go_wp2_with fail; refine HJ.out.mono ?_; rintro e w4 ⟨rfl, rfl⟩; go_wp2_with fail; go_ret; exact ⟨rfl, HB3.out⟩
    have b7 : ((kd : Int) == 7) = false := by simp; omega
    by_cases k6 : kd = 6
    . subst k6; have ho : out = joined L := by rw [HOUT.out]; rfl
      have hj := jBX _ _ wr (jCI HOWN.out) (by have := hlen; rw [ho, jAX] at this; omega); rw [<- ho] at hj; have HJ := hid hj; clear hj ho; go_wp2_with fail; refine HJ.out.mono ?_; rintro e w4 ⟨rfl, rfl⟩; go_wp2_with fail; go_ret; exact ⟨rfl, HB.out⟩
    have b6 : ((kd : Int) == 6) = false := by simp; omega
    by_cases k3 : kd = 3
    . subst k3; have hx1 := h35 (by simp); obtain ⟨s, hLs⟩ : ∃ s, L = [s] := List.length_eq_one_iff.1 (by rw [HLL.out, hx1])
      have ho : out = joined [[102, 110], joined ns, s] := by rw [HOUT.out, hLs]; rfl
      have hl0 : wr.cell? ⟨g, 0, none⟩ = some (.string ⟨s.toArray⟩) := by
       have := World.ownsRow.cells HOWN.out rfl 0 (.string ⟨s.toArray⟩) (by rw [hLs]; rfl)
       rwa [jKQ] at this
      have hbig := hlen; rw [ho, jAX] at hbig; have hnsl := jCF [[102, 110], joined ns, s] (joined ns) (by simp); have HSR := hid (jDI HNS.out HB.out.drew); have hgl : (glue ns).length <= 900000 := by rw [jAX] at hnsl; omega
      have HO := hid ho; clear ho; go_wp2_with fail
      go_still_tail 6, (by kernel_rfl)
      still_call (jBX _ ns _ HSR.out hgl)
      repeat still_step
      refine wpStill_nil ?_; change wpList _ _ _ _ _ wr.drew; have HBD := hid HB.out.drew; have hsd : w.heap.size <= wr.drew.heap.size := hs; generalize wr.drew = w2 at *; have hj := jBX _ _ _ (jII (w := w2) [[102, 110], joined ns, s] #[.string ⟨#[102, 110]⟩, .string ⟨(joined ns).toArray⟩, .string ⟨s.toArray⟩] rfl (by simp)) (by omega); rw [<- HO.out] at hj; have HJ := hid hj; clear hj; go_wp2_with fail; refine HJ.out.mono ?_; rintro e w4 ⟨rfl, rfl⟩; go_wp2_with fail; go_ret; exact ⟨rfl, HBD.out.alloc hsd _⟩
    have b3 : ((kd : Int) == 3) = false := by simp; omega
    by_cases k4 : kd = 4
    . subst k4; obtain ⟨hx4, hns4⟩ := h4 rfl; have hnsl : ns.length <= 800000 := Nat.le_trans (HC4.out rfl) hlen
      rcases HNS.out with ⟨h, _⟩ | ⟨gn, on, cn, hv, hn1, hn2, hn3⟩
      . exact absurd h hns4
      injection hv with hq _ hc
      subst hq; subst hc
      obtain ⟨B, hBdef⟩ : ∃ B, B = (ns.zip L).map fun p => joined [p.1, p.2] := ⟨_, rfl⟩
      obtain ⟨z, hz⟩ : ∃ z, L[xs.length - 1]? = some z := ⟨_, List.getElem?_eq_getElem (by rw [HLL.out]; omega)⟩
      have hlast : L.getLastD [] = z := by rw [List.getLastD_eq_getLast?, List.getLast?_eq_getElem?, HLL.out, hz]; rfl
      have ho : out = joined [[108, 101, 116], joined B, z] := by rw [HOUT.out, if_neg k0, if_neg k1, if_neg k2, if_neg k7, if_neg k3, if_neg k6, if_neg k8, if_pos rfl, hlast, hBdef]
      have hBl : B.length = ns.length := by rw [hBdef]; simp; have := HLL.out; omega
      have hbig := hlen; rw [ho, jAX] at hbig; have hjb := jCF [[108, 101, 116], joined B, z] (joined B) (by simp); rw [jAX] at hjb; have hgb : (glue B).length <= 800000 := by omega
      have hBat : ∀ m a b, ns[m]? = some a -> L[m]? = some b -> B[m]? = some (joined [a, b]) := fun m a b ha hb => by
       have h2 : (ns.zip L)[m]? = some (a, b) := List.getElem?_zip_eq_some.2 ⟨ha, hb⟩; rw [hBdef, List.getElem?_map, h2]; rfl
      have HO := hid ho; have HBAT := hid hBat; have HBL := hid hBl; have HZ := hid hz; have HN3 := hid hn3; have HGB := hid hgb; have HBIG := hid hbig
      have HX4 := hid hx4; have hq1 : ((xs.length : Int) != (ns.length : Int) + 1) = false := by simp; omega
      have hq2 : ((xs.length : Int) == (ns.length : Int) + 1) = true := by simp; omega
      clear ho hBat hBl hz hn3 hBdef hlast hjb hx4 h4 h35 h01 h67 hi0; obtain ⟨W1, hW1⟩ : ∃ x, x = wr := ⟨wr, rfl⟩
      subst hW1; go_wp2_with fail
      go_loopw [5, 6] (fun bv i wt => ∃ m : Nat, i = .int .i64 m /\ m <= ns.length /\ Hid (wt.ownsRow W1.heap.size 9 1 bv m (jBB (B.take m))) /\ Hid (Below W1.heap.size W1 wt)) (fun _ i _ => ns.length - (intOf i).toNat)
      case atStart => exact ⟨0, rfl, Nat.zero_le _, hid (World.ownsRow_nil _ _ _ _), hid (Below.refl _ _)⟩
      case round =>
       obtain ⟨m, rfl, hm, HOB, HBW⟩ := hrel; have EN2 := hid (jA0 EN.out HBW.out); have e4 := jA EN2.out 4 _ rfl; have e0 := jA EN2.out 0 _ rfl; have hsW := HBW.out.size; by_cases hlt : m < ns.length
       . obtain ⟨nmm, hnm⟩ : ∃ x, ns[m]? = some x := ⟨_, List.getElem?_eq_getElem hlt⟩
         obtain ⟨lm, hlm⟩ : ∃ x, L[m]? = some x := ⟨_, List.getElem?_eq_getElem (by rw [HLL.out]; have := HX4.out; omega)⟩
         obtain ⟨un, hun, _, hunc⟩ := HN3.out m nmm hnm; have hun' : un = .string ⟨nmm.toArray⟩ := hun; subst hun'; have cn0 := hunc 0 (.string ⟨nmm.toArray⟩) rfl
         have cn1 : wr.cell? ⟨gn, on + m, none⟩ = some (.string ⟨nmm.toArray⟩) := by
          have := ((HB.out.trans (HBW.out.mono HB.out.size)).cell (World.block_lt_of_cell? w _ cn0)).trans cn0
          simpa using this
         have cl0 := World.ownsRow.cells HOWN.out rfl m (.string ⟨lm.toArray⟩) (by unfold jBB; rw [List.getElem?_map, hlm]; rfl); rw [jKQ] at cl0; have cl1 : wr.cell? ⟨g, m, none⟩ = some (.string ⟨lm.toArray⟩) := (HBW.out.cell (World.block_lt_of_cell? _ _ cl0)).trans cl0; have hbm := HBAT.out m nmm lm hnm hlm; have hbl := jCF B _ (List.mem_of_getElem? hbm); rw [jAX] at hbl; have hgl : (glue [nmm, lm]).length <= 900000 := by have := HGB.out; omega
         have HBM := hid hbm; have hmx : m < xs.length := by have := HX4.out; omega
         have hmi : (m : Int) < (ns.length : Int) := by omega
         have hmxi : (m : Int) < (xs.length : Int) := by omega
         have hlen2 : (joined [nmm, lm]).length <= 900000 := by rw [jAX]; have := HGB.out; omega
         obtain ⟨pb, cb, rfl⟩ := jDX HOB.out; have ce0 := jA EN.out 4 _ rfl; have hall : ∀ u, Below W1.heap.size W1 u -> u.cell? ⟨w.heap.size, 4, none⟩ = some (.slice (some ⟨gn, on, none⟩) ns.length c1) /\ u.cell? ⟨gn, on + m, none⟩ = some (.string ⟨nmm.toArray⟩) /\ u.cell? ⟨g, m, none⟩ = some (.string ⟨lm.toArray⟩) := fun u hu =>
          ⟨(hu.cell (World.block_lt_of_cell? _ _ ce0)).trans ce0, by
           have := ((HB.out.trans (hu.mono HB.out.size)).cell (World.block_lt_of_cell? w _ cn0)).trans cn0
           simpa using this, (hu.cell (World.block_lt_of_cell? _ _ cl0)).trans cl0⟩
         have HALL := hid hall; have HJ : ∀ u : World, Calls Tryz.prog 26 #[.slice (some ⟨u.heap.size, 0, none⟩) 2 2] (u.alloc (.cells #[.string ⟨nmm.toArray⟩, .string ⟨lm.toArray⟩] 9)) fun e w' => e = .returned (.string ⟨(joined [nmm, lm]).toArray⟩) /\ w' = u.alloc (.cells #[.string ⟨nmm.toArray⟩, .string ⟨lm.toArray⟩] 9) := fun u =>
          jBX _ _ _ (jII (w := u) [nmm, lm] #[.string ⟨nmm.toArray⟩, .string ⟨lm.toArray⟩] rfl (by simp)) hgl
         obtain ⟨S, hS⟩ : ∃ S, S = joined [nmm, lm] := ⟨_, rfl⟩
         rw [<- hS] at HBM hlen2 HJ; have HJH := hid HJ; clear cn0 cl0 hnm hlm hun hunc hbm hbl hS HJ hall ce0 cn1 cl1 e0; go_wp2_with fail; refine wp_region_held_drew (S := fun w' => w'.cell? ⟨w.heap.size, 4, none⟩ = some (.slice (some ⟨gn, on, none⟩) ns.length c1) /\ w'.cell? ⟨gn, on + m, none⟩ = some (.string ⟨nmm.toArray⟩) /\ w'.cell? ⟨g, m, none⟩ = some (.string ⟨lm.toArray⟩)) (by kernel_rfl) (HALL.out _ HBW.out.drew) (fun hHeld => ?_); refine wT 0 (.slice pb m cb) rfl (Or.inl ⟨by rfl, fun w' hSw => by obtain ⟨s1, s2, s3⟩ := hSw; go_simp⟩) hHeld ?_; refine wT 1 (.pointer (some ⟨w.heap.size, 4, none⟩)) rfl (Or.inl ⟨by rfl, fun w' hSw => by obtain ⟨s1, s2, s3⟩ := hSw; go_simp⟩) hHeld ?_; refine wT 2 (.slice (some ⟨gn, on, none⟩) ns.length c1) rfl (Or.inl ⟨by rfl, fun w' hSw => by obtain ⟨s1, s2, s3⟩ := hSw; go_simp⟩) hHeld ?_; refine wT 3 (.int .i64 m) rfl (Or.inl ⟨by rfl, fun w' hSw => by obtain ⟨s1, s2, s3⟩ := hSw; go_simp⟩) hHeld ?_; refine wT 4 (.pointer (some ⟨gn, on + m, none⟩)) rfl (Or.inl ⟨by rfl, fun w' hSw => by obtain ⟨s1, s2, s3⟩ := hSw; go_simp⟩) hHeld ?_; refine wT 5 (.string ⟨nmm.toArray⟩) rfl (Or.inl ⟨by rfl, fun w' hSw => by obtain ⟨s1, s2, s3⟩ := hSw; go_simp⟩) hHeld ?_; refine wT 6 (.slice (some ⟨g, 0, none⟩) xs.length lc) rfl (Or.inl ⟨by rfl, fun w' hSw => by obtain ⟨s1, s2, s3⟩ := hSw; go_simp⟩) hHeld ?_; refine wT 7 (.int .i64 m) rfl (Or.inl ⟨by rfl, fun w' hSw => by obtain ⟨s1, s2, s3⟩ := hSw; go_simp⟩) hHeld ?_; refine wT 8 (.pointer (some ⟨g, m, none⟩)) rfl (Or.inl ⟨by rfl, fun w' hSw => by obtain ⟨s1, s2, s3⟩ := hSw; go_simp⟩) hHeld ?_; refine wT 9 (.string ⟨lm.toArray⟩) rfl (Or.inl ⟨by rfl, fun w' hSw => by obtain ⟨s1, s2, s3⟩ := hSw; go_simp⟩) hHeld ?_; simp only [Act.put, jR2, jR3, jR4]; have HOB2 := hid HOB.out.drew; have HBW2 := hid HBW.out.drew; have hs2 : W1.heap.size <= wr.drew.heap.size := hsW; clear e4; generalize wr.drew = w2 at *; have hw3 : (w2.alloc (.cells #[.string ⟨nmm.toArray⟩, .string ⟨lm.toArray⟩] 9)).heap.size = w2.heap.size + 1 := by simp
         have HW3 := hid hw3; clear hw3; refine wR 10 rfl (fun K hK => ?_); go_simp; refine hK.out _ _ (HALL.out _ (HBW2.out.alloc hs2 _)) (fun hHeld => ?_); clear hK K; refine wR 11 rfl (fun K hK => ?_); go_simp; refine (HJH.out w2).mono ?_; rintro e w4 ⟨rfl, rfl⟩; refine hK.out _ _ hHeld (fun hHeld => ?_); clear hK K; refine wR 12 rfl (fun K hK => ?_); go_simp; refine hK.out _ _ (HALL.out _ ((HBW2.out.alloc hs2 _).alloc (by simp; omega) _)) (fun hHeld => ?_); clear hK K; refine wR 13 rfl (fun K hK => ?_)
         refine jAH rfl (.tmp 109) (.tmp 121) 33 rfl W1.heap.size 9 i0 (.string ⟨#[]⟩) 1 16 Tryz.underlying33 HI.out HI0.out HI1.out HI2.out rfl (by decide) _ m _ rfl ((HOB2.out.alloc _).alloc _) ⟨w2.heap.size + 1, 0, none⟩ 1 1 [.string ⟨S.toArray⟩] rfl (by decide) rfl (fun j u hu => by
          have := jFC (w2.alloc (.cells #[.string ⟨nmm.toArray⟩, .string ⟨lm.toArray⟩] 9)) S 9 j u hu
          rw [HW3.out] at this; exact this) (jEH S) (by unfold maxLen; omega) (by omega) (by simp; omega) ?_
         intro v' w5 hown5 hgr hloc; have hB5 := ((HBW2.out.alloc hs2 (.cells #[.string ⟨nmm.toArray⟩, .string ⟨lm.toArray⟩] 9)).alloc (by simp; omega) (.cells #[.string ⟨S.toArray⟩] 9)).grown hgr (by simp; omega) (fun kk hkk => (HOB2.out.lt kk hkk).1)
         have hl5 : jBB (B.take m) ++ [.string ⟨S.toArray⟩] = jBB (B.take (m + 1)) := by
          rw [<- jDC, List.take_add_one, HBM.out]; rfl
         rw [hl5] at hown5; have H1 := hid hown5; have H3 := hid hB5
         refine hK.out _ _ (HALL.out _ hB5) (fun hHeld => ?_); clear hown5 hB5 hgr hloc hl5 hK K; refine wR 14 rfl (fun K hK => ?_); go_simp; refine hK.out _ _ hHeld (fun hHeld => ?_); clear hK K; refine wpAnyH_done (by kernel_rfl) ?_ _; go_wp2
         go_roundw
         case rel => exact ⟨m + 1, by go_num, by omega, H1, H3⟩
         case measure => simp [intOf]; omega
       . obtain rfl : m = ns.length := by omega
         have htk : B.take ns.length = B := by rw [<- HBL.out, List.take_length]
         rw [htk] at HOB; clear htk; obtain ⟨pb, cb, rfl⟩ := jDX HOB.out; have HSR := hid (jCI HOB.out); have cz0 := World.ownsRow.cells HOWN.out rfl (xs.length - 1) (.string ⟨z.toArray⟩) (by unfold jBB; rw [List.getElem?_map, HZ.out]; rfl); rw [jKQ] at cz0; obtain ⟨J, hJ⟩ : ∃ J, J = xs.length - 1 := ⟨_, rfl⟩
         rw [<- hJ] at cz0; have cz1 : wr.cell? ⟨g, J, none⟩ = some (.string ⟨z.toArray⟩) := (HBW.out.cell (World.block_lt_of_cell? _ _ cz0)).trans cz0; have hJn : J < xs.length := by omega
         have hJi : (J : Int) < (xs.length : Int) := by omega
         have hw1 : IntKind.i64.wrap ((xs.length : Int) - 1) = (J : Int) := by rw [IntWalk.i64_in _ (by omega)]; omega
         have hw2 : wrap64 ((xs.length : Int) - 1) = (J : Int) := by unfold wrap64; omega
         clear hJ; have hgl : (glue B).length <= 900000 := by have := HGB.out; omega
         clear cz0; go_wp2_with fail
         go_still_tail 8, (by kernel_rfl)
         still_call (jBX _ B _ HSR.out hgl)
         repeat still_step
         refine wpStill_nil ?_; change wpList _ _ _ _ _ wr.drew; have HBD := hid (HB.out.trans (HBW.out.drew.mono HB.out.size)); have hsd : w.heap.size <= wr.drew.heap.size := HBD.out.size; clear cz1 e0 e4 hsW; generalize wr.drew = w2 at *; have hj := jBX _ _ _ (jII (w := w2) [[108, 101, 116], joined B, z] #[.string ⟨#[108, 101, 116]⟩, .string ⟨(joined B).toArray⟩, .string ⟨z.toArray⟩] rfl (by simp)) (by have := HBIG.out; omega); rw [<- HO.out] at hj; have HJ := hid hj; clear hj; go_wp2_with fail; refine HJ.out.mono ?_; rintro e w4 ⟨rfl, rfl⟩; go_wp2_with fail; go_ret; exact ⟨rfl, HBD.out.alloc hsd _⟩
    have b4 : ((kd : Int) == 4) = false := by simp; omega
    have k5 : kd = 5 := by omega
    subst k5; have hx1 := h35 (by simp); obtain ⟨s, hLs⟩ : ∃ s, L = [s] := List.length_eq_one_iff.1 (by rw [HLL.out, hx1])
    obtain ⟨C, hC⟩ : ∃ C, C = al.map fun a => joined [Px.showP f a.1, Px.showE f a.2] := ⟨_, rfl⟩
    have ho : out = joined ([99, 97, 115, 101] :: s :: C) := by rw [HOUT.out, hLs, hC]; rfl
    have hl0 : wr.cell? ⟨g, 0, none⟩ = some (.string ⟨s.toArray⟩) := by
     have := World.ownsRow.cells HOWN.out rfl 0 (.string ⟨s.toArray⟩) (by rw [hLs]; rfl)
     rwa [jKQ] at this
    have hbig := hlen; rw [ho, jAX] at hbig; have hcnt := jDV ([99, 97, 115, 101] :: s :: C); have hCl : C.length = al.length := by rw [hC]; simp
    have hall : al.length <= 800000 := by simp only [List.length_cons, hCl] at hcnt; omega
    have HO := hid ho; have HC := hid hC; have HCL := hid hCl; have HBIG := hid hbig
    clear ho hC hcnt hCl h35 h01 h67 h4 hi0 hbig; obtain ⟨W1, hW1⟩ : ∃ x, x = wr := ⟨wr, rfl⟩
    subst hW1; have hown1 := World.ownsRow_lit (base := W1.heap.size) (e := 9) (size := 1) W1 #[.string ⟨#[99, 97, 115, 101]⟩, .string ⟨s.toArray⟩] 2 (Nat.le_refl _) (by unfold maxLen; omega) rfl; have OWN1 := hid hown1; have HB1 := hid ((Below.refl W1.heap.size W1).alloc (Nat.le_refl _) (.cells #[.string ⟨#[99, 97, 115, 101]⟩, .string ⟨s.toArray⟩] 9)); clear hown1; go_wp2_with fail
    go_loopw [7, 8] (fun cv i wt => ∃ m : Nat, i = .int .i64 m /\ m <= al.length /\ Hid (wt.ownsRow W1.heap.size 9 1 cv (m + 2) (jBB ([99, 97, 115, 101] :: s :: C.take m))) /\ Hid (Below W1.heap.size W1 wt)) (fun _ i _ => al.length - (intOf i).toNat)
    case atStart => exact ⟨0, rfl, Nat.zero_le _, OWN1, HB1⟩
    case round =>
     obtain ⟨m, rfl, hm, HOB, HBW⟩ := hrel; clear OWN1 HB1 hl0; have EN2 := hid (jA0 EN.out HBW.out); have e6 := jA EN2.out 6 _ rfl; have hsW := HBW.out.size; obtain ⟨pc, cc, rfl⟩ := jDX HOB.out; by_cases hlt : m < al.length
     . obtain ⟨a, ha⟩ : ∃ a, al[m]? = some a := ⟨_, List.getElem?_eq_getElem hlt⟩
       rcases HAL.out with ⟨h, _⟩ | ⟨ga, oa, ca, hv, ha1, ha2, ha3⟩
       . rw [h] at hlt; simp at hlt
       injection hv with hq _ hc
       subst hq; subst hc
       obtain ⟨u, ⟨a0, a1, a2, a3, a4, b0, b1, b2, b3, b4, b5, b6, rfl, hpat, hexp⟩, _, huc⟩ := ha3 m a ha; obtain ⟨pk, pp, pi, ps, pq, pn, pcc, he1⟩ := jFB f _ _ _ hpat; obtain ⟨xk, xp, xi, xs2, r1, n1, d1, r2, n2, d2, r3, n3, d3, he2⟩ := jAU f _ _ _ hexp; simp only [Value.agg.injEq, Array.mk.injEq, List.cons.injEq, and_true] at he1 he2; obtain ⟨rfl, rfl, rfl, rfl, rfl⟩ := he1; obtain ⟨rfl, rfl, rfl, rfl, rfl, rfl, rfl⟩ := he2; have hcm : C[m]? = some (joined [Px.showP f a.1, Px.showE f a.2]) := by rw [HC.out, List.getElem?_map, ha]; rfl
       have hcml := jCF ([99, 97, 115, 101] :: s :: C) _ (List.mem_cons_of_mem _ (List.mem_cons_of_mem _ (List.mem_of_getElem? hcm))); rw [jAX] at hcml; have hgl : (glue [Px.showP f a.1, Px.showE f a.2]).length <= 799996 := by have := HBIG.out; omega
       have hpl : (Px.showP f a.1).length <= 800000 := by have := jCF [Px.showP f a.1, Px.showE f a.2] (Px.showP f a.1) (by simp); omega
       have hel : (Px.showE f a.2).length <= 800000 := by have := jCF [Px.showP f a.1, Px.showE f a.2] (Px.showE f a.2) (by simp); omega
       obtain ⟨hga1, hga2⟩ := HGA.out a (List.mem_of_getElem? ha); have ce0 := jA EN.out 6 _ rfl; have f0 : w.cell? ⟨ga, oa + m * 12, none⟩ = some (.int .i64 pk) := by have := huc 0 (.int .i64 pk) rfl; simpa [Nat.add_assoc] using this
       have f1 : w.cell? ⟨ga, oa + m * 12 + 1, none⟩ = some (.int .i64 pp) := by have := huc 1 (.int .i64 pp) rfl; simpa [Nat.add_assoc] using this
       have f2 : w.cell? ⟨ga, oa + m * 12 + 2, none⟩ = some (.string ps) := by have := huc 2 (.string ps) rfl; simpa [Nat.add_assoc] using this
       have f3 : w.cell? ⟨ga, oa + m * 12 + 3, none⟩ = some (.int .i64 pi) := by have := huc 3 (.int .i64 pi) rfl; simpa [Nat.add_assoc] using this
       have f4 : w.cell? ⟨ga, oa + m * 12 + 4, none⟩ = some (.slice pq pn pcc) := by have := huc 4 (.slice pq pn pcc) rfl; simpa [Nat.add_assoc] using this
       have f5 : w.cell? ⟨ga, oa + m * 12 + 5, none⟩ = some (.int .i64 xk) := by have := huc 5 (.int .i64 xk) rfl; simpa [Nat.add_assoc] using this
       have f6 : w.cell? ⟨ga, oa + m * 12 + 5 + 1, none⟩ = some (.int .i64 xp) := by have := huc 6 (.int .i64 xp) rfl; simpa [Nat.add_assoc] using this
       have f7 : w.cell? ⟨ga, oa + m * 12 + 5 + 2, none⟩ = some (.string xs2) := by have := huc 7 (.string xs2) rfl; simpa [Nat.add_assoc] using this
       have f8 : w.cell? ⟨ga, oa + m * 12 + 5 + 3, none⟩ = some (.int .i64 xi) := by have := huc 8 (.int .i64 xi) rfl; simpa [Nat.add_assoc] using this
       have f9 : w.cell? ⟨ga, oa + m * 12 + 5 + 4, none⟩ = some (.slice r1 n1 d1) := by have := huc 9 (.slice r1 n1 d1) rfl; simpa [Nat.add_assoc] using this
       have f10 : w.cell? ⟨ga, oa + m * 12 + 5 + 5, none⟩ = some (.slice r2 n2 d2) := by have := huc 10 (.slice r2 n2 d2) rfl; simpa [Nat.add_assoc] using this
       have f11 : w.cell? ⟨ga, oa + m * 12 + 5 + 6, none⟩ = some (.slice r3 n3 d3) := by have := huc 11 (.slice r3 n3 d3) rfl; simpa [Nat.add_assoc] using this
       have hup : ∀ u, Below W1.heap.size W1 u -> ∀ q z, w.cell? ⟨ga, q, none⟩ = some z -> u.cell? ⟨ga, q, none⟩ = some z := fun u hu q z hz => ((HB.out.trans (hu.mono HB.out.size)).cell (World.block_lt_of_cell? w _ hz)).trans hz
       have hallS : ∀ u, Below W1.heap.size W1 u -> u.cell? ⟨w.heap.size, 6, none⟩ = some (.slice (some ⟨ga, oa, none⟩) al.length c3) /\ u.cell? ⟨ga, oa + m * 12, none⟩ = some (.int .i64 pk) /\ u.cell? ⟨ga, oa + m * 12 + 1, none⟩ = some (.int .i64 pp) /\ u.cell? ⟨ga, oa + m * 12 + 2, none⟩ = some (.string ps) /\ u.cell? ⟨ga, oa + m * 12 + 3, none⟩ = some (.int .i64 pi) /\ u.cell? ⟨ga, oa + m * 12 + 4, none⟩ = some (.slice pq pn pcc) /\ u.cell? ⟨ga, oa + m * 12 + 5, none⟩ = some (.int .i64 xk) /\ u.cell? ⟨ga, oa + m * 12 + 5 + 1, none⟩ = some (.int .i64 xp) /\ u.cell? ⟨ga, oa + m * 12 + 5 + 2, none⟩ = some (.string xs2) /\ u.cell? ⟨ga, oa + m * 12 + 5 + 3, none⟩ = some (.int .i64 xi) /\ u.cell? ⟨ga, oa + m * 12 + 5 + 4, none⟩ = some (.slice r1 n1 d1) /\ u.cell? ⟨ga, oa + m * 12 + 5 + 5, none⟩ = some (.slice r2 n2 d2) /\ u.cell? ⟨ga, oa + m * 12 + 5 + 6, none⟩ = some (.slice r3 n3 d3) := fun u hu => ⟨(hu.cell (World.block_lt_of_cell? _ _ ce0)).trans ce0, hup u hu _ _ f0, hup u hu _ _ f1, hup u hu _ _ f2, hup u hu _ _ f3, hup u hu _ _ f4, hup u hu _ _ f5, hup u hu _ _ f6, hup u hu _ _ f7, hup u hu _ _ f8, hup u hu _ _ f9, hup u hu _ _ f10, hup u hu _ _ f11⟩
       have HALL := hid hallS; obtain ⟨S1, hS1⟩ : ∃ S, S = Px.showP f a.1 := ⟨_, rfl⟩
       obtain ⟨S2, hS2⟩ : ∃ S, S = Px.showE f a.2 := ⟨_, rfl⟩
       have HJ : ∀ u : World, Calls Tryz.prog 26 #[.slice (some ⟨u.heap.size, 0, none⟩) 2 2] (u.alloc (.cells #[.string ⟨S1.toArray⟩, .string ⟨S2.toArray⟩] 9)) fun e w' => e = .returned (.string ⟨(joined [S1, S2]).toArray⟩) /\ w' = u.alloc (.cells #[.string ⟨S1.toArray⟩, .string ⟨S2.toArray⟩] 9) := fun u =>
        jBX _ _ _ (jII (w := u) [S1, S2] #[.string ⟨S1.toArray⟩, .string ⟨S2.toArray⟩] rfl (by simp)) (by rw [hS1, hS2]; omega)
       have HPC : ∀ u : World, Below W1.heap.size W1 u -> Calls Tryz.prog 36 #[.agg #[.int .i64 pk, .int .i64 pp, .string ps, .int .i64 pi, .slice pq pn pcc]] u fun e w' => e = .returned (.string ⟨S1.toArray⟩) /\ Below u.heap.size u w' := fun u hu => by
        have hb := HB.out.trans (hu.mono HB.out.size); rw [hS1]; exact jHH f _ _ u (jFW hpat hb) hga1 hpl ((Lib.tabBelow_of_tabIs HTAB.out) _ hb)
       have HEC : ∀ u : World, Below W1.heap.size W1 u -> Calls Tryz.prog 16 #[.agg #[.int .i64 xk, .int .i64 xp, .string xs2, .int .i64 xi, .slice r1 n1 d1, .slice r2 n2 d2, .slice r3 n3 d3]] u fun e w' => e = .returned (.string ⟨S2.toArray⟩) /\ Below u.heap.size u w' := fun u hu => by
        have hb := HB.out.trans (hu.mono HB.out.size); rw [hS2]; exact IH.out _ _ u (jFI hexp hb) hga2 hel ((Lib.tabBelow_of_tabIs HTAB.out) _ hb)
       rw [<- hS1, <- hS2] at hcm; have HCM := hid hcm; have HJH := hid HJ; have HPCH := hid HPC; have HECH := hid HEC
       have hjl : (joined [S1, S2]).length <= 900000 := by rw [hS1, hS2, jAX]; omega
       clear f0 f1 f2 f3 f4 f5 f6 f7 f8 f9 f10 f11 huc ha3 hpat hexp hcm hcml hgl hpl hel hga1 hga2 ce0 hup hallS HJ HPC HEC hS1 hS2 ha; obtain ⟨S, hS⟩ : ∃ S, S = joined [S1, S2] := ⟨_, rfl⟩
       rw [<- hS] at HCM hjl HJH; clear hS; go_wp2_with fail; refine wp_region_held_drew (S := fun w' => w'.cell? ⟨w.heap.size, 6, none⟩ = some (.slice (some ⟨ga, oa, none⟩) al.length c3) /\ w'.cell? ⟨ga, oa + m * 12, none⟩ = some (.int .i64 pk) /\ w'.cell? ⟨ga, oa + m * 12 + 1, none⟩ = some (.int .i64 pp) /\ w'.cell? ⟨ga, oa + m * 12 + 2, none⟩ = some (.string ps) /\ w'.cell? ⟨ga, oa + m * 12 + 3, none⟩ = some (.int .i64 pi) /\ w'.cell? ⟨ga, oa + m * 12 + 4, none⟩ = some (.slice pq pn pcc) /\ w'.cell? ⟨ga, oa + m * 12 + 5, none⟩ = some (.int .i64 xk) /\ w'.cell? ⟨ga, oa + m * 12 + 5 + 1, none⟩ = some (.int .i64 xp) /\ w'.cell? ⟨ga, oa + m * 12 + 5 + 2, none⟩ = some (.string xs2) /\ w'.cell? ⟨ga, oa + m * 12 + 5 + 3, none⟩ = some (.int .i64 xi) /\ w'.cell? ⟨ga, oa + m * 12 + 5 + 4, none⟩ = some (.slice r1 n1 d1) /\ w'.cell? ⟨ga, oa + m * 12 + 5 + 5, none⟩ = some (.slice r2 n2 d2) /\ w'.cell? ⟨ga, oa + m * 12 + 5 + 6, none⟩ = some (.slice r3 n3 d3)) (by kernel_rfl) (HALL.out _ HBW.out.drew) (fun hHeld => ?_); refine wT 0 (.slice pc (m + 2) cc) rfl (Or.inl ⟨by rfl, fun w' hSw => by obtain ⟨s1, c0, c1, c2, c3, c4, c5, c6, c7, c8, c9, c10, c11⟩ := hSw; go_simp⟩) hHeld ?_; refine wT 1 (.pointer (some ⟨w.heap.size, 6, none⟩)) rfl (Or.inl ⟨by rfl, fun w' hSw => by obtain ⟨s1, c0, c1, c2, c3, c4, c5, c6, c7, c8, c9, c10, c11⟩ := hSw; go_simp⟩) hHeld ?_; refine wT 2 (.slice (some ⟨ga, oa, none⟩) al.length c3) rfl (Or.inl ⟨by rfl, fun w' hSw => by obtain ⟨s1, c0, c1, c2, c3, c4, c5, c6, c7, c8, c9, c10, c11⟩ := hSw; go_simp⟩) hHeld ?_; refine wT 3 (.int .i64 m) rfl (Or.inl ⟨by rfl, fun w' hSw => by obtain ⟨s1, c0, c1, c2, c3, c4, c5, c6, c7, c8, c9, c10, c11⟩ := hSw; go_simp⟩) hHeld ?_; refine wT 4 (.pointer (some ⟨ga, oa + m * 12, none⟩)) rfl (Or.inl ⟨by rfl, fun w' hSw => by obtain ⟨s1, c0, c1, c2, c3, c4, c5, c6, c7, c8, c9, c10, c11⟩ := hSw; go_simp⟩) hHeld ?_; refine wT 5 (.pointer (some ⟨ga, oa + m * 12, none⟩)) rfl (Or.inl ⟨by rfl, fun w' hSw => by obtain ⟨s1, c0, c1, c2, c3, c4, c5, c6, c7, c8, c9, c10, c11⟩ := hSw; go_simp⟩) hHeld ?_; refine wT 6 (.agg #[.int .i64 pk, .int .i64 pp, .string ps, .int .i64 pi, .slice pq pn pcc]) rfl (Or.inl ⟨by rfl, fun w' hSw => by obtain ⟨s1, c0, c1, c2, c3, c4, c5, c6, c7, c8, c9, c10, c11⟩ := hSw; go_simp⟩) hHeld ?_; refine wT 8 (.pointer (some ⟨w.heap.size, 6, none⟩)) rfl (Or.inl ⟨by rfl, fun w' hSw => by obtain ⟨s1, c0, c1, c2, c3, c4, c5, c6, c7, c8, c9, c10, c11⟩ := hSw; go_simp⟩) hHeld ?_; refine wT 9 (.slice (some ⟨ga, oa, none⟩) al.length c3) rfl (Or.inl ⟨by rfl, fun w' hSw => by obtain ⟨s1, c0, c1, c2, c3, c4, c5, c6, c7, c8, c9, c10, c11⟩ := hSw; go_simp⟩) hHeld ?_; refine wT 10 (.int .i64 m) rfl (Or.inl ⟨by rfl, fun w' hSw => by obtain ⟨s1, c0, c1, c2, c3, c4, c5, c6, c7, c8, c9, c10, c11⟩ := hSw; go_simp⟩) hHeld ?_; refine wT 11 (.pointer (some ⟨ga, oa + m * 12, none⟩)) rfl (Or.inl ⟨by rfl, fun w' hSw => by obtain ⟨s1, c0, c1, c2, c3, c4, c5, c6, c7, c8, c9, c10, c11⟩ := hSw; go_simp⟩) hHeld ?_; refine wT 12 (.pointer (some ⟨ga, oa + m * 12 + 5, none⟩)) rfl (Or.inl ⟨by rfl, fun w' hSw => by obtain ⟨s1, c0, c1, c2, c3, c4, c5, c6, c7, c8, c9, c10, c11⟩ := hSw; go_simp⟩) hHeld ?_; refine wT 13 (.agg #[.int .i64 xk, .int .i64 xp, .string xs2, .int .i64 xi, .slice r1 n1 d1, .slice r2 n2 d2, .slice r3 n3 d3]) rfl (Or.inl ⟨by rfl, fun w' hSw => by obtain ⟨s1, c0, c1, c2, c3, c4, c5, c6, c7, c8, c9, c10, c11⟩ := hSw; go_simp⟩) hHeld ?_; simp only [Act.put, jR2, jR3, jR4]; have HOB2 := hid HOB.out.drew; have HBW2 := hid HBW.out.drew; have hs2 : W1.heap.size <= wr.drew.heap.size := hsW; clear e6; refine wR 7 rfl (fun K hK => ?_); go_simp; refine (HPCH.out wr.drew HBW2.out).mono ?_; rintro e w3 ⟨rfl, hb3⟩; have HOB3 := hid (jA5 HOB2.out hb3); have HBW3 := bT HBW2 hb3; have hs3 := HBW3.out.size; refine hK.out _ _ (HALL.out _ HBW3.out) (fun hHeld => ?_); clear hK K hb3 HOB2; refine wR 14 rfl (fun K hK => ?_); go_simp; refine (HECH.out w3 HBW3.out).mono ?_; rintro e w4 ⟨rfl, hb4⟩; have HOB4 := hid (jA5 HOB3.out hb4); have HBW4 := bT HBW3 hb4; have hs4 := HBW4.out.size; refine hK.out _ _ (HALL.out _ HBW4.out) (fun hHeld => ?_); clear hK K hb4 HOB3; have HW4 := hid (show (w4.alloc (.cells #[.string ⟨S1.toArray⟩, .string ⟨S2.toArray⟩] 9)).heap.size = w4.heap.size + 1 by simp); refine wR 15 rfl (fun K hK => ?_); go_simp; refine hK.out _ _ (HALL.out _ (HBW4.out.alloc hs4 _)) (fun hHeld => ?_); clear hK K; refine wR 16 rfl (fun K hK => ?_); go_simp; refine (HJH.out w4).mono ?_; rintro e w5 ⟨rfl, rfl⟩; refine hK.out _ _ hHeld (fun hHeld => ?_); clear hK K; refine wR 17 rfl (fun K hK => ?_); go_simp; refine hK.out _ _ (HALL.out _ ((HBW4.out.alloc hs4 _).alloc (by simp; omega) _)) (fun hHeld => ?_); clear hK K; refine wR 18 rfl (fun K hK => ?_)
       refine jAH rfl (.tmp 144) (.tmp 161) 33 rfl W1.heap.size 9 i0 (.string ⟨#[]⟩) 1 16 Tryz.underlying33 HI.out HI0.out HI1.out HI2.out rfl (by decide) _ (m + 2) _ rfl ((HOB4.out.alloc _).alloc _) ⟨w4.heap.size + 1, 0, none⟩ 1 1 [.string ⟨S.toArray⟩] rfl (by decide) rfl (fun j u hu => by
        have := jFC (w4.alloc (.cells #[.string ⟨S1.toArray⟩, .string ⟨S2.toArray⟩] 9)) S 9 j u hu
        rw [HW4.out] at this; exact this) (jEH S) (by unfold maxLen; omega) (by omega) (by simp; omega) ?_
       intro v' w6 hown6 hgr hloc; have hB6 := ((HBW4.out.alloc hs4 (.cells #[.string ⟨S1.toArray⟩, .string ⟨S2.toArray⟩] 9)).alloc (by simp; omega) (.cells #[.string ⟨S.toArray⟩] 9)).grown hgr (by simp; omega) (fun kk hkk => (HOB4.out.lt kk hkk).1)
       have hl6 : jBB ([99, 97, 115, 101] :: s :: C.take m) ++ [.string ⟨S.toArray⟩] = jBB ([99, 97, 115, 101] :: s :: C.take (m + 1)) := by
        rw [<- jDC, List.take_add_one, HCM.out]; rfl
       rw [hl6] at hown6; have H1 := hid hown6; have H3 := hid hB6
       refine hK.out _ _ (HALL.out _ hB6) (fun hHeld => ?_); clear hown6 hB6 hgr hloc hl6 hK K; refine wR 19 rfl (fun K hK => ?_); go_simp; refine hK.out _ _ hHeld (fun hHeld => ?_); clear hK K; refine wpAnyH_done (by kernel_rfl) ?_ _; go_wp2
       go_roundw
       case rel => exact ⟨m + 1, by go_num, by omega, hid (by rw [show m + 1 + 2 = m + 2 + 1 by omega]; exact H1.out), H3⟩
       case measure => simp [intOf]; omega
     . obtain rfl : m = al.length := by omega
       have htk : C.take al.length = C := by rw [<- HCL.out, List.take_length]
       rw [htk] at HOB; clear htk; have hj := jBX _ _ wr (jCI HOB.out) (by have := HBIG.out; omega); rw [<- HO.out] at hj; have HJ := hid hj; have HBF := hid (HB.out.trans (HBW.out.mono HB.out.size)); clear hj; go_wp2_with fail; refine HJ.out.mono ?_; rintro e w4 ⟨rfl, rfl⟩; go_wp2_with fail; go_ret; exact ⟨rfl, HBF.out⟩
theorem show_any : ∀ f, ShowC f := by
 intro f
 induction f with
 | zero => intro v x w h; exact h.elim
 | succ f ih => exact jPO f ih
end Go.Proofs.YtnhndamfbeiljaaGreatDoor
