/-
  LexJoins: its walk.
-/
import Derived.Test.YtcnpbbhkdogdeaaDoorSrc
import Derived.Test.YtcnpbbhkdogdeaaDoorJoinPure
namespace Go.Proofs.YtcnpbbhkdogdeaaDoor
open Go Go.RowKit

/-- What Tokens answers of a text. -/
def TkCase (l : List UInt8) (ts : List Lx.Tok) (p c : Int) : Prop :=
  (4096 < l.length ∧ ts = [] ∧ p = 4096 ∧ c = 2) ∨ (l.length ≤ 4096 ∧ (∃ q, (Lx.toks (l.length + 1) 0 l).2 = some q ∧ ts = [] ∧ p = q ∧ c = 2)) ∨ (l.length ≤ 4096 ∧ (Lx.toks (l.length + 1) 0 l) = (ts, none) ∧ p = -1 ∧ c = 0)

theorem join_cases {la lb : List UInt8} {tsx tsy tsz : List Lx.Tok} {px py pz cx cy cz : Int} (hl : la.length + lb.length ≤ 2000)
    (hx : TkCase la tsx px cx) (hy : TkCase lb tsy py cy) (hz : TkCase (la ++ 10 :: lb) tsz pz cz) :
    (∃ q : Nat, q ≤ la.length ∧ tsx = [] ∧ px = q ∧ cx = 2 ∧ tsz = [] ∧ pz = q ∧ cz = 2) ∨
    (cx = 0 ∧ ∃ q : Nat, q ≤ lb.length ∧ tsy = [] ∧ py = q ∧ cy = 2 ∧ tsz = [] ∧ pz = (la.length : Int) + 1 + q ∧ cz = 2) ∨
    (cx = 0 ∧ cy = 0 ∧ cz = 0 ∧ tsz = tsx ++ tsy.map (Lx.shift (la.length + 1)) ∧ tsx.length ≤ 4096 ∧ tsy.length ≤ 4096 ∧ ∀ t ∈ tsy, t.pos ≤ lb.length) := by
  have hj := Lx.toks_join lb (la.length + 1) la 0 (by omega)
  have hzl : (la ++ 10 :: lb).length = la.length + 1 + lb.length := by simp; omega
  have hsh := Lx.toks_shift (la.length + 1) (lb.length + 1) 0 lb
  rw [← Nat.add_assoc] at hsh
  unfold TkCase at hx hy hz
  rw [hzl] at hz
  rcases hx with h | ⟨_, q, hq, rfl, rfl, rfl⟩ | ⟨_, hq, rfl, rfl⟩
  · omega
  · rw [hq] at hj
    simp only [] at hj
    left
    rcases hz with h | ⟨_, q', hq', rfl, rfl, rfl⟩ | ⟨_, hq', _⟩
    · omega
    · rw [hj] at hq'
      simp only [Option.some.injEq] at hq'
      subst hq'
      exact ⟨q, by have := (Lx.toks_place _ _ _ _ hq).2; omega, rfl, rfl, rfl, rfl, rfl, rfl⟩
    · rw [hj] at hq'; simp at hq'
  · rw [hq] at hj
    simp only [] at hj
    right
    rcases hy with h | ⟨_, q, hk, rfl, rfl, rfl⟩ | ⟨_, hk, rfl, rfl⟩
    · omega
    · left
      rw [hsh, hk] at hj
      rcases hz with h | ⟨_, q', hq', rfl, rfl, rfl⟩ | ⟨_, hq', _⟩
      · omega
      · rw [hj] at hq'
        simp only [Option.map_some, Option.some.injEq] at hq'
        subst hq'
        exact ⟨rfl, q, by have := (Lx.toks_place _ _ _ _ hk).2; omega, rfl, rfl, rfl, rfl, by omega, rfl⟩
      · rw [hj] at hq'; simp at hq'
    · right
      rw [hsh, hk] at hj
      rcases hz with h | ⟨_, q', hq', rfl, rfl, rfl⟩ | ⟨_, hq', rfl, rfl⟩
      · omega
      · rw [hj] at hq'; simp at hq'
      · rw [hj] at hq'
        simp only [Option.map_none, Prod.mk.injEq, and_true] at hq'
        refine ⟨rfl, rfl, rfl, hq'.symm, ?_, ?_, fun t ht => ?_⟩
        · have := Lx.toks_len (la.length + 1) 0 la; rw [hq] at this; simp only [] at this; omega
        · have := Lx.toks_len (lb.length + 1) 0 lb; rw [hk] at this; simp only [] at this; omega
        · have := Lx.toks_mem (lb.length + 1) 0 lb t (by rw [hk]; exact ht); omega

theorem src_one (w : World) : SrcAt (w.alloc (.cells #[.int .u8 10] 5)) (.slice (some ⟨w.heap.size, 0, none⟩) 1 1) [10] := by
  refine .inr ⟨⟨w.heap.size, 0, none⟩, 1, rfl, fun j u hu => ?_⟩
  have hj : j = 0 := by
    have := (List.getElem?_eq_some_iff.1 hu).1
    simp at this; omega
  subst hj
  have hu' : u = .int .u8 10 := by
    have : some (Value.int .u8 ((10 : UInt8).toNat : Int)) = some u := hu
    exact (Option.some.inj this).symm
  subst hu'
  show (w.alloc (.cells #[.int .u8 10] 5)).cell? ⟨w.heap.size, 0, none⟩ = _
  rw [World.cell?_alloc_mark]; rfl

set_option maxHeartbeats 2000000 in
set_option maxRecDepth 100000 in
theorem lexJoins_walk (w : World) (a0 : Option Addr) (len0 cap0 : Nat) (a1 : Option Addr) (len1 cap1 : Nat) (la lb : List UInt8)
    (hsa : SrcAt w (.slice a0 len0 cap0) la) (hsb : SrcAt w (.slice a1 len1 cap1) lb) (hta : SliceAt w (.slice a0 len0 cap0) la) (htb : SliceAt w (.slice a1 len1 cap1) lb)
    (hla : la.length = len0) (hlb : lb.length = len1) (hra : len0 ≤ 140737488351232) (hrb : len1 ≤ 140737488351232) :
    Calls Tryd.prog 6 #[.slice a0 len0 cap0, .slice a1 len1 cap1] w fun e w' => e = .returned (.bool true) ∧ Below w.heap.size w w' := by
  have HSA := Lib.hid hsa; have HSB := Lib.hid hsb; have HTA := Lib.hid hta; have HTB := Lib.hid htb; have HLA := Lib.hid hla; have HLB := Lib.hid hlb
  clear hsa hsb hta htb hla hlb
  go_enter Tryd.func6, Tryd.ntmps6
  go_wp2_with fail
  refine (lives_any _).mono ?_
  rintro e w1 ⟨rfl, hb1⟩
  have HB1 := Lib.hid hb1; clear hb1
  by_cases hlong : 2000 < len0 + len1
  · have hl2 : (2000 : Int) < (len0 : Int) + len1 := by omega
    go_wp2_with fail
    refine (lives_any _).mono ?_
    rintro e w2 ⟨rfl, hb2⟩
    have HB2 := Lib.hid (HB1.out.trans (hb2.mono HB1.out.size)); clear hb2
    go_wp2_with fail
    go_ret
    exact ⟨rfl, HB2.out⟩
  · have hl2 : ¬ (2000 : Int) < (len0 : Int) + len1 := by omega
    have ho0 := Lib.hid (own_empty w1)
    have hr1 := Lib.hid (show ([] : List UInt8).length + la.length ≤ 140737488355328 by rw [HLA.out, List.length_nil]; omega)
    have hr2 := Lib.hid (show la.length + [(10 : UInt8)].length ≤ 140737488355328 by rw [HLA.out, List.length_singleton]; omega)
    have hr3 := Lib.hid (show (la ++ [(10 : UInt8)]).length + lb.length ≤ 140737488355328 by rw [List.length_append, HLA.out, HLB.out, List.length_singleton]; omega)
    have hs1 := HB1.out.size
    go_wp2_with (at_builtin; refine wpList_append_bytes rfl (.tmp 29) (.tmp 30) rfl w1.heap.size _ [] la rfl ho0.out _ rfl ((HSA.out.below HB1.out).below ((Below.refl _ _).alloc (Nat.le_refl _) _)) hr1.out (by simp) ?_)
    intro v2 w2 hown2 hg2
    have hB2 := (HB1.out.alloc hs1 (.cells #[] 5)).grown hg2 (by simp; omega) (fun k hk => by cases hk; exact hs1)
    have HB2 := Lib.hid hB2; have HO2 := Lib.hid hown2
    have hs2 := hB2.size
    have hb12 : w1.heap.size ≤ w2.heap.size := by have := hg2.size; simp at this; omega
    clear hB2 hown2 hg2
    go_wp2_with (at_builtin; refine wpList_append_bytes rfl (.tmp 31) (.tmp 32) rfl w1.heap.size _ la [10] rfl (HO2.out.alloc _) _ rfl (src_one w2) hr2.out (by simp; omega) ?_)
    intro v3 w3 hown3 hg3
    have hB3 := (HB2.out.alloc hs2 (.cells #[.int .u8 10] 5)).grown hg3 (by simp; omega) (fun k hk => by have := (HO2.out.lt k hk).1; omega)
    have hown3' : w3.ownsRow w1.heap.size 5 1 v3 (la ++ [(10 : UInt8)]).length ((la ++ [(10 : UInt8)]).map byteV) := by simpa using hown3
    have HB3 := Lib.hid hB3; have HO3 := Lib.hid hown3'
    have hs3 := hB3.size
    have hb13 : w1.heap.size ≤ w3.heap.size := by have := hg3.size; simp at this; omega
    clear hB3 hown3 hown3' hg3
    go_wp2_with (at_builtin; refine wpList_append_bytes rfl (.tmp 33) (.tmp 34) rfl w1.heap.size _ (la ++ [10]) lb rfl HO3.out _ rfl (HSB.out.below HB3.out) hr3.out hb13 ?_)
    intro v4 w4 hown4 hg4
    have hB4 := HB3.out.grown hg4 hs3 (fun k hk => by have := (HO3.out.lt k hk).1; omega)
    have hown4' : w4.ownsRow w1.heap.size 5 1 v4 (la ++ 10 :: lb).length ((la ++ 10 :: lb).map byteV) := by simpa using hown4
    have HB4 := Lib.hid hB4; have HO4 := Lib.hid hown4'
    clear hB4 hown4 hown4' hg4
    go_wp2_with fail
    refine (tokens_any _ la _ (HTA.out.below HB4.out)).mono ?_
    rintro e w5 ⟨vx, tsx, px, cx, rfl, hB5, hownx, hx⟩
    have HB5 := Lib.hid hB5; have HOX := Lib.hid hownx; have HX : Hid (TkCase la tsx px cx) := Lib.hid hx
    clear hB5 hownx hx
    go_wp2_with fail
    have hB5' := HB4.out.trans (HB5.out.mono HB4.out.size)
    refine (tokens_any _ lb _ (HTB.out.below hB5')).mono ?_
    rintro e w6 ⟨vy, tsy, py, cy, rfl, hB6, howny, hy⟩
    have HB6 := Lib.hid hB6; have HOY := Lib.hid howny; have HY : Hid (TkCase lb tsy py cy) := Lib.hid hy
    have HB5' := Lib.hid hB5'
    clear hB6 howny hy hB5'
    go_wp2_with fail
    have hall := sliceAt_own (own_kept (own_kept HO4.out HB5.out) HB6.out)
    refine (tokens_any _ (la ++ 10 :: lb) _ hall).mono ?_
    rintro e w7 ⟨vz, tsz, pz, cz, rfl, hB7, hownz, hz⟩
    have hBw7 : Below w.heap.size w w7 := (HB5'.out.trans (HB6.out.mono HB5'.out.size)).trans (hB7.mono (by have h1 := HB5'.out.size; have h2 := HB6.out.size; omega))
    have HBW := Lib.hid hBw7
    have HOX7 := Lib.hid (own_kept (own_kept HOX.out HB6.out) hB7); have HOY7 := Lib.hid (own_kept HOY.out hB7); have HOZ := Lib.hid hownz
    have hjc := join_cases (by rw [HLA.out, HLB.out]; omega) HX.out HY.out (show TkCase (la ++ 10 :: lb) tsz pz cz from hz)
    rw [HLA.out, HLB.out] at hjc
    clear hB7 hownz hz hall hBw7 HO2 HO3 HO4 ho0 HX HY HOX HOY
    rcases hjc with ⟨q, hq, rfl, rfl, rfl, rfl, rfl, rfl⟩ | ⟨rfl, q, hq, rfl, rfl, rfl, rfl, rfl, rfl⟩ | ⟨rfl, rfl, rfl, hzz, hnx, hny, hpos⟩
    · obtain ⟨pp, cap, rfl⟩ := own_len HOZ.out
      go_wp2
      go_ret
      exact ⟨rfl, HBW.out⟩
    · obtain ⟨pp, cap, rfl⟩ := own_len HOZ.out
      go_wp2
      go_ret
      exact ⟨rfl, HBW.out⟩
    · obtain ⟨ppz, capz, rfl⟩ := own_len HOZ.out
      obtain ⟨ppx, capx, rfl⟩ := own_len HOX7.out
      obtain ⟨ppy, capy, rfl⟩ := own_len HOY7.out
      have hnz : tsz.length = tsx.length + tsy.length := by rw [hzz]; simp
      have HZZ := Lib.hid hzz; have HPOS := Lib.hid hpos
      clear hzz hpos
      have hcz : ∀ k t, tsz[k]? = some t → ∃ g, ppz = some ⟨g, 0, none⟩ ∧ g < w7.heap.size ∧ w7.cell? ⟨g, k * 4, none⟩ = some (.int .i64 t.kind) ∧ w7.cell? ⟨g, k * 4 + 1, none⟩ = some (.int .i64 t.pos) ∧ w7.cell? ⟨g, k * 4 + 2, none⟩ = some (.string ⟨t.text.toArray⟩) ∧ w7.cell? ⟨g, k * 4 + 3, none⟩ = some (.int .i64 t.int) := own_cells HOZ.out
      have hcx : ∀ k t, tsx[k]? = some t → ∃ g, ppx = some ⟨g, 0, none⟩ ∧ g < w7.heap.size ∧ w7.cell? ⟨g, k * 4, none⟩ = some (.int .i64 t.kind) ∧ w7.cell? ⟨g, k * 4 + 1, none⟩ = some (.int .i64 t.pos) ∧ w7.cell? ⟨g, k * 4 + 2, none⟩ = some (.string ⟨t.text.toArray⟩) ∧ w7.cell? ⟨g, k * 4 + 3, none⟩ = some (.int .i64 t.int) := own_cells HOX7.out
      have hcy : ∀ k t, tsy[k]? = some t → ∃ g, ppy = some ⟨g, 0, none⟩ ∧ g < w7.heap.size ∧ w7.cell? ⟨g, k * 4, none⟩ = some (.int .i64 t.kind) ∧ w7.cell? ⟨g, k * 4 + 1, none⟩ = some (.int .i64 t.pos) ∧ w7.cell? ⟨g, k * 4 + 2, none⟩ = some (.string ⟨t.text.toArray⟩) ∧ w7.cell? ⟨g, k * 4 + 3, none⟩ = some (.int .i64 t.int) := own_cells HOY7.out
      have HCZ := Lib.hid hcz; have HCX := Lib.hid hcx; have HCY := Lib.hid hcy
      clear hcz hcx hcy HOZ HOX7 HOY7
      obtain ⟨nz, hnz1⟩ : ∃ nz, nz = tsz.length := ⟨_, rfl⟩
      obtain ⟨nx, hnx1⟩ : ∃ nx, nx = tsx.length := ⟨_, rfl⟩
      obtain ⟨ny, hny1⟩ : ∃ ny, ny = tsy.length := ⟨_, rfl⟩
      rw [← hnz1, ← hnx1, ← hny1] at hnz
      rw [← hnz1, ← hnx1, ← hny1]
      rw [← hnx1] at hnx; rw [← hny1] at hny
      have HNZ := Lib.hid hnz; have HZ1 := Lib.hid hnz1; have HX1 := Lib.hid hnx1; have HY1 := Lib.hid hny1
      have hne : ((nz : Int) != (nx : Int) + (ny : Int)) = false := by rw [hnz]; simp
      have hnzl : nz ≤ 8192 := by omega
      clear hnz hnz1 hnx1 hny1
      go_wp2_with fail
      go_loopw [103] (fun i wr => ∃ k : Nat, i = .int .i64 k ∧ k ≤ nz ∧ Below w7.heap.size w7 wr) (fun i _ => nz - (intOf i).toNat)
      case atStart => exact ⟨0, rfl, by omega, Below.refl _ _⟩
      case round =>
        obtain ⟨k, rfl, hk, hb⟩ := hrel
        have HB := Lib.hid hb
        have hsz := hb.size
        clear hb
        by_cases hkz : k < nz
        · by_cases hkx : k < nx
          · obtain ⟨t, ht⟩ : ∃ t, tsx[k]? = some t := ⟨_, List.getElem?_eq_getElem (by rw [← HX1.out]; exact hkx)⟩
            have htz : tsz[k]? = some t := by rw [HZZ.out, List.getElem?_append_left (by rw [← HX1.out]; exact hkx)]; exact ht
            obtain ⟨gz, rfl, hgz, Z0, Z1, Z2, Z3⟩ := HCZ.out k t htz
            obtain ⟨gx, rfl, hgx, X0, X1, X2, X3⟩ := HCX.out k t ht
            have z0 := (HB.out.cell (p := ⟨gz, k * 4, none⟩) hgz).trans Z0
            have z1 := (HB.out.cell (p := ⟨gz, k * 4 + 1, none⟩) hgz).trans Z1
            have z2 := (HB.out.cell (p := ⟨gz, k * 4 + 2, none⟩) hgz).trans Z2
            have z3 := (HB.out.cell (p := ⟨gz, k * 4 + 3, none⟩) hgz).trans Z3
            have x0 := (HB.out.cell (p := ⟨gx, k * 4, none⟩) hgx).trans X0
            have x1 := (HB.out.cell (p := ⟨gx, k * 4 + 1, none⟩) hgx).trans X1
            have x2 := (HB.out.cell (p := ⟨gx, k * 4 + 2, none⟩) hgx).trans X2
            have x3 := (HB.out.cell (p := ⟨gx, k * 4 + 3, none⟩) hgx).trans X3
            have hgz' : gz < wr.heap.size := by omega
            have hgx' : gx < wr.heap.size := by omega
            clear Z0 Z1 Z2 Z3 X0 X1 X2 X3 ht htz
            go_wp2
            go_roundw
            case rel => exact ⟨k + 1, by go_num, by omega, (HB.out.alloc (by omega) _).alloc (by simp; omega) _⟩
            case measure => simp [intOf]; omega
          · have hky : k - nx < tsy.length := by rw [← HY1.out]; have := HNZ.out; omega
            obtain ⟨t, ht⟩ : ∃ t, tsy[k - nx]? = some t := ⟨_, List.getElem?_eq_getElem hky⟩
            have htz : tsz[k]? = some (Lx.shift (len0 + 1) t) := by
              rw [HZZ.out, List.getElem?_append_right (by rw [← HX1.out]; omega), ← HX1.out, List.getElem?_map, ht]; rfl
            have hp : t.pos ≤ 4096 := by have := HPOS.out t (List.mem_of_getElem? ht); omega
            obtain ⟨gz, rfl, hgz, Z0, Z1, Z2, Z3⟩ := HCZ.out k _ htz
            obtain ⟨gy, rfl, hgy, Y0, Y1, Y2, Y3⟩ := HCY.out (k - nx) t ht
            have z0 : wr.cell? ⟨gz, k * 4, none⟩ = some (.int .i64 t.kind) := (HB.out.cell (p := ⟨gz, k * 4, none⟩) hgz).trans Z0
            have z1 : wr.cell? ⟨gz, k * 4 + 1, none⟩ = some (.int .i64 ((t.pos : Int) + ((len0 : Int) + 1))) := (HB.out.cell (p := ⟨gz, k * 4 + 1, none⟩) hgz).trans Z1
            have z2 : wr.cell? ⟨gz, k * 4 + 2, none⟩ = some (.string ⟨t.text.toArray⟩) := (HB.out.cell (p := ⟨gz, k * 4 + 2, none⟩) hgz).trans Z2
            have z3 : wr.cell? ⟨gz, k * 4 + 3, none⟩ = some (.int .i64 t.int) := (HB.out.cell (p := ⟨gz, k * 4 + 3, none⟩) hgz).trans Z3
            have y0 := (HB.out.cell (p := ⟨gy, (k - nx) * 4, none⟩) hgy).trans Y0
            have y1 := (HB.out.cell (p := ⟨gy, (k - nx) * 4 + 1, none⟩) hgy).trans Y1
            have y2 := (HB.out.cell (p := ⟨gy, (k - nx) * 4 + 2, none⟩) hgy).trans Y2
            have y3 := (HB.out.cell (p := ⟨gy, (k - nx) * 4 + 3, none⟩) hgy).trans Y3
            have hgz' : gz < wr.heap.size := by omega
            have hgy' : gy < wr.heap.size := by omega
            have hk3 : (k : Int) - nx < ny := by have := HNZ.out; omega
            have hk4 : 0 ≤ (k : Int) - nx := by omega
            clear Z0 Z1 Z2 Z3 Y0 Y1 Y2 Y3 ht htz hky
            go_wp2
            go_roundw
            case rel => exact ⟨k + 1, by go_num, by omega, (HB.out.alloc (by omega) _).alloc (by simp; omega) _⟩
            case measure => simp [intOf]; omega
        · obtain rfl : k = nz := by omega
          go_wp2
          go_ret
          exact ⟨rfl, HBW.out.trans (HB.out.mono HBW.out.size)⟩

theorem lexJoins_row (w : World) (a0 : Option Addr) (len0 cap0 : Nat) (z0 : List Int) (w0 : IsRow .u8 w a0 len0 cap0 z0) (a1 : Option Addr) (len1 cap1 : Nat) (z1 : List Int) (w1 : IsRow .u8 w a1 len1 cap1 z1) :
    Calls Tryd.prog 6 #[.slice a0 len0 cap0, .slice a1 len1 cap1] w fun e w' => e = .returned (.bool true) ∧ Below w.heap.size w w' := by
  obtain ⟨s0, t0, l0, r0⟩ := row_src w0
  obtain ⟨s1, t1, l1, r1⟩ := row_src w1
  exact lexJoins_walk w a0 len0 cap0 a1 len1 cap1 _ _ s0 s1 t0 t1 l0 l1 r0 r1
end Go.Proofs.YtcnpbbhkdogdeaaDoor
