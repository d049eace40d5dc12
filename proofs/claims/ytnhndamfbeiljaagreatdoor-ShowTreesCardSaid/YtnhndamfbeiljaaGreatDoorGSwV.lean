/-
  Several texts in one: WRefTree, WTreeP, WTreeW, WTreesW, WNodes.
-/
import Derived.Test.YtnhndamfbeiljaaGreatDoorKWNumbersW
import Derived.Test.YtnhndamfbeiljaaGreatDoorGShw
import Derived.StillTailTactics
import Derived.BigRegion
import Derived.Test.YtnhndamfbeiljaaGreatDoorGSwW
import Derived.Test.YtnhndamfbeiljaaGreatDoorGOwn
import Derived.Deep.Slices
import Derived.Deep.Fields
import Derived.ChangeMaps5
import Derived.ProofKit
import Derived.OpenShut
import Derived.HandedShaped
import Derived.SizedLaws
namespace Go.Proofs.YtnhndamfbeiljaaGreatDoor
open Go Go.RowKit
set_option linter.unusedVariables false
set_option linter.unusedSimpArgs false
namespace Sw

def shTr : Nat → Tr → List UInt8
  | 0, _ => [63]
  | f + 1, .mk nm i re im args => if nm = [] then Lib.itoa i else if nm = [99, 112, 120] then joined [[99, 112, 120], Lib.itoa re, Lib.itoa im] else if args = [] then nm else joined (nm :: args.map (shTr f))
theorem run_tree : ∀ (f : Nat) (t : Tr), ∃ k, Run [Nd.tree f t] (shTr f t) k := by
  intro f
  induction f with
  | zero => intro t; exact run_text (by cases t; rfl)
  | succ f ih =>
    rintro ⟨nm, i, re, im, args⟩
    by_cases h1 : nm = []
    · subst h1; exact run_text (by simp [step, shTr])
    by_cases h2 : nm = [99, 112, 120]
    · subst h2
      have := run_joined (n := Nd.tree (f + 1) (.mk [99, 112, 120] i re im args)) (l := [.word [99, 112, 120], .word (Lib.itoa re), .word (Lib.itoa im)]) (ts := [[99, 112, 120], Lib.itoa re, Lib.itoa im]) (by simp [step])
        ⟨run_text (by simp [step, wd]), run_text (by simp [step, wd, itoa_ne]), run_text (by simp [step, wd, itoa_ne]), trivial⟩
      simpa [shTr] using this
    · have := run_named (n := Nd.tree (f + 1) (.mk nm i re im args)) h1 (by simp only [step, if_neg h1, if_neg h2]) (Texts.map (.tree f) (shTr f) args fun x _ => ih x)
      rw [shTr, if_neg h1, if_neg h2]
      simpa using this
theorem rowLitW {w : World} (l : List (List UInt8)) (cs : Array Value) (h : cs.toList = strVs l) (hn : l.length ≤ 1000) : RowAt 1 (StrAt (w.alloc (.cells cs 9))) (w.alloc (.cells cs 9)) (.slice (some ⟨w.heap.size, 0, none⟩) l.length l.length) l := by
  have := World.ownsRow_lit (base := w.heap.size) (e := 9) (size := 1) w cs l.length (Nat.le_refl _) (by unfold maxLen; omega) (by rw [← Array.length_toList, h, strVs_len]; omega)
  rw [h] at this
  exact row_of_own this
theorem treeAt_form (f : Nat) (w : World) (v : Value) (x : Tr) (h : TreeAt f w v x) : ∃ (s : ByteArray) (i re im : Int) (q1 : Option Addr) (n1 c1 : Nat), v = .agg #[.string s, .int .i64 i, .int .i64 re, .int .i64 im, .slice q1 n1 c1] := by
  cases f with
  | zero => exact h.elim
  | succ f =>
    obtain ⟨nm, i, re, im, args⟩ := x
    obtain ⟨av, rfl, _, _, _, h1⟩ := h
    obtain ⟨q1, c1, rfl⟩ := h1.len
    exact ⟨_, _, _, _, _, _, _, rfl⟩

set_option maxHeartbeats 2000000 in
set_option maxRecDepth 100000 in
theorem refTree_any : ∀ (f : Nat) (v : Value) (t : Tr) (w : World), TreeAt f w v t → (shTr f t).length ≤ 800000 → Lib.TabIs Tryz.prog w "internal/strconv.uint64pow10" .u64 Lib.pow10Tab →
    Calls Tryz.prog 20 #[v] w fun e w' => e = .returned (.string ⟨(shTr f t).toArray⟩) ∧ Below w.heap.size w w' := by
  intro f
  induction f with
  | zero => intro v t w h; exact h.elim
  | succ f ih =>
    intro v t w h hlen htab
    obtain ⟨nm, iv, re, im, args⟩ := t
    have HTAB := Lib.hid htab
    clear htab
    obtain ⟨av, rfl, hi64, hre, him, hargs⟩ := h
    obtain ⟨q, c, rfl⟩ := hargs.len
    obtain ⟨i0, hi, hz0, hz1, hz2⟩ := info_parts infoStr
    have HI1 := Lib.hid hz1; have HI2 := Lib.hid hz2; have HI0 := Lib.hid hz0; have HI := Lib.hid hi
    clear hi hz0 hz1 hz2
    have HA := Lib.hid hargs
    have IH := Lib.hid ih
    obtain ⟨out, hout⟩ : ∃ out, out = shTr (f + 1) (.mk nm iv re im args) := ⟨_, rfl⟩
    rw [← hout] at hlen ⊢
    have HOUT := Lib.hid hout
    clear hargs ih hout
    go_enter Tryz.func20, Tryz.ntmps20
    by_cases hk0 : nm = []
    · subst hk0
      have ho : out = Lib.itoa iv := by rw [HOUT.out]; rfl
      go_wp2_with fail
      have hal : Below w.heap.size w (w.alloc (.cells #[.string ⟨#[]⟩, .int .i64 iv, .int .i64 re, .int .i64 im, .slice q args.length c] 58)) := (Below.refl _ _).alloc (Nat.le_refl _) _
      refine (num_any iv hi64.1 hi64.2 _ ((Lib.tabBelow_of_tabIs HTAB.out) _ hal)).mono ?_
      rintro e w2 ⟨rfl, hb2⟩
      have HB2 := Lib.hid (hal.trans (hb2.mono hal.size))
      go_wp2_with fail
      go_ret
      exact ⟨by rw [ho]; rfl, HB2.out⟩
    have hkb0 : nm.isEmpty = false := by simpa using hk0
    by_cases hk2 : nm = [99, 112, 120]
    · subst hk2
      have ho : out = joined [[99, 112, 120], Lib.itoa re, Lib.itoa im] := by rw [HOUT.out]; rfl
      go_wp2_with fail
      have EX := Lib.hid (ent_new w #[.string ⟨#[99, 112, 120]⟩, .int .i64 iv, .int .i64 re, .int .i64 im, .slice q args.length c] 58)
      have HB := Lib.hid (show Below w.heap.size w (w.alloc (.cells #[.string ⟨#[99, 112, 120]⟩, .int .i64 iv, .int .i64 re, .int .i64 im, .slice q args.length c] 58)) from (Below.refl _ _).alloc (Nat.le_refl _) _)
      generalize w.alloc (.cells #[.string ⟨#[99, 112, 120]⟩, .int .i64 iv, .int .i64 re, .int .i64 im, .slice q args.length c] 58) = wb at EX HB ⊢
      refine wp_region_held_drew (S := fun (u : World) => u.heap[w.heap.size]? = some (.cells #[.string ⟨#[99, 112, 120]⟩, .int .i64 iv, .int .i64 re, .int .i64 im, .slice q args.length c] 58 (0, 0))) (by kernel_rfl) (show wb.drew.heap[w.heap.size]? = some (.cells #[.string ⟨#[99, 112, 120]⟩, .int .i64 iv, .int .i64 re, .int .i64 im, .slice q args.length c] 58 (0, 0)) from EX.out) (fun hHeld => ?_)
      have HBd := Lib.hid (show Below w.heap.size w wb.drew from HB.out.drew)
      have EXd := Lib.hid (show wb.drew.heap[w.heap.size]? = some (.cells #[.string ⟨#[99, 112, 120]⟩, .int .i64 iv, .int .i64 re, .int .i64 im, .slice q args.length c] 58 (0, 0)) from EX.out)
      clear HB EX
      generalize wb.drew = wd at HBd EXd hHeld ⊢
      have HB := HBd
      have EX := EXd
      clear HBd EXd
      refine wpAnyH_take (i := 0) (v := .pointer (some ⟨w.heap.size, 2, none⟩)) rfl (by kernel_rfl) (by kernel_rfl) (by kernel_rfl) (fun _ _ _ h => h) (Or.inl ⟨by rfl, fun w' hSw => by go_simp⟩) hHeld ?_
      refine wpAnyH_take (i := 1) (v := .int .i64 re) rfl (by kernel_rfl) (by kernel_rfl) (by kernel_rfl) (fun _ _ _ h => h) (Or.inl ⟨by rfl, fun w' hSw => by have hq : w'.heap[w.heap.size]? = some (.cells #[.string ⟨#[99, 112, 120]⟩, .int .i64 iv, .int .i64 re, .int .i64 im, .slice q args.length c] 58 (0, 0)) := hSw; have z0 := ent_cell hq 2 (.int .i64 re) rfl; go_simp⟩) hHeld ?_
      refine wpAnyH_take (i := 3) (v := .pointer (some ⟨w.heap.size, 3, none⟩)) rfl (by kernel_rfl) (by kernel_rfl) (by kernel_rfl) (fun _ _ _ h => h) (Or.inl ⟨by rfl, fun w' hSw => by go_simp⟩) hHeld ?_
      refine wpAnyH_take (i := 4) (v := .int .i64 im) rfl (by kernel_rfl) (by kernel_rfl) (by kernel_rfl) (fun _ _ _ h => h) (Or.inl ⟨by rfl, fun w' hSw => by have hq : w'.heap[w.heap.size]? = some (.cells #[.string ⟨#[99, 112, 120]⟩, .int .i64 iv, .int .i64 re, .int .i64 im, .slice q args.length c] 58 (0, 0)) := hSw; have z0 := ent_cell hq 3 (.int .i64 im) rfl; go_simp⟩) hHeld ?_
      try simp only [Act.put, List.getElem_toArray, List.getElem_cons_succ, List.getElem_cons_zero, List.setIfInBounds_toArray, List.set_cons_zero, List.set_cons_succ]
      have HO := Lib.hid ho
      clear ho
      refine wpAnyH_ready (rs := [2]) (by kernel_rfl) (by simp) ?_
      refine AllReadyH.cons rfl (fun K hK => ?_) AllReadyH.nil
      go_simp
      refine (num_any re hre.1 hre.2 _ ((Lib.tabBelow_of_tabIs HTAB.out) _ HB.out)).mono ?_
      rintro e u1 ⟨rfl, hb⟩
      replace EX := Lib.hid (ent_below EX.out hb)
      replace HB := Lib.hid (HB.out.trans (hb.mono HB.out.size))
      clear hb
      refine hK.out _ _ EX.out (fun hHeld => ?_)
      clear hK K
      refine wpAnyH_ready (rs := [5]) (by kernel_rfl) (by simp) ?_
      refine AllReadyH.cons rfl (fun K hK => ?_) AllReadyH.nil
      go_simp
      refine (num_any im him.1 him.2 _ ((Lib.tabBelow_of_tabIs HTAB.out) _ HB.out)).mono ?_
      rintro e u2 ⟨rfl, hb⟩
      replace EX := Lib.hid (ent_below EX.out hb)
      replace HB := Lib.hid (HB.out.trans (hb.mono HB.out.size))
      clear hb
      refine hK.out _ _ EX.out (fun hHeld => ?_)
      clear hK K
      refine wpAnyH_ready (rs := [6]) (by kernel_rfl) (by simp) ?_
      refine AllReadyH.cons rfl (fun K hK => ?_) AllReadyH.nil
      go_simp
      have hs2 := HB.out.size
      have hj := join_any _ _ _ (rowLitW (w := u2) [[99, 112, 120], Lib.itoa re, Lib.itoa im] #[.string ⟨#[99, 112, 120]⟩, .string ⟨(Lib.itoa re).toArray⟩, .string ⟨(Lib.itoa im).toArray⟩] rfl (by simp)) (by have h := hlen; rw [HO.out, joined_len] at h; omega)
      rw [← HO.out] at hj
      have HJ := Lib.hid hj
      clear hj
      refine hK.out _ _ (ent_alloc EX.out _) (fun hHeld => ?_)
      clear hK K
      refine wpAnyH_ready (rs := [7]) (by kernel_rfl) (by simp) ?_
      refine AllReadyH.cons rfl (fun K hK => ?_) AllReadyH.nil
      go_simp
      refine HJ.out.mono ?_
      rintro e w4 ⟨rfl, rfl⟩
      refine hK.out _ _ (ent_alloc EX.out _) (fun hHeld => ?_)
      clear hK K
      refine wpAnyH_ready (rs := [8]) (by kernel_rfl) (by simp) ?_
      refine AllReadyH.cons rfl (fun K hK => ?_) AllReadyH.nil
      go_simp
      refine hK.out _ _ (ent_alloc EX.out _) (fun hHeld => ?_)
      clear hK K
      refine wpAnyH_done (by kernel_rfl) ?_ _
      go_wp2_with fail
      go_ret
      exact ⟨rfl, HB.out.alloc hs2 _⟩
    have hkb2 : (nm == [99, 112, 120]) = false := by simpa using hk2
    by_cases he : args = []
    · subst he
      have ho : out = nm := by rw [HOUT.out, shTr, if_neg hk0, if_neg hk2, if_pos rfl]
      subst ho
      go_wp2_with fail
      go_ret
      exact ⟨rfl, (Below.refl _ _).alloc (Nat.le_refl _) _⟩
    · have hne : ¬ ((args.length : Int) = 0) := by have := List.length_pos_iff.2 he; omega
      have hb0 : ((args.length : Int) == 0) = false := by simpa using hne
      have ho : out = joined (nm :: args.map (shTr f)) := by rw [HOUT.out, shTr, if_neg hk0, if_neg hk2, if_neg he]
      go_wp2_with fail
      have hg : (glue (nm :: args.map (shTr f))).length ≤ 799998 := by have := hlen; rw [ho, joined_len] at this; omega
      have hcnt := glue_count (nm :: args.map (shTr f))
      have hpart : ∀ t ∈ args, (shTr f t).length ≤ 800000 := fun t ht => by have := glue_mem (nm :: args.map (shTr f)) (shTr f t) (List.mem_cons_of_mem _ (List.mem_map_of_mem ht)); omega
      have hal : args.length ≤ 800000 := by simp only [List.length_cons, List.length_map] at hcnt; omega
      have HG := Lib.hid hg; have HPART := Lib.hid hpart; have HO := Lib.hid ho
      clear hg hcnt hpart ho hlen
      obtain ⟨g0, hg0⟩ : ∃ g0, g0 = w.heap.size + 1 := ⟨_, rfl⟩
      have hal1 : (w.alloc (.cells #[.string ⟨nm.toArray⟩, .int .i64 iv, .int .i64 re, .int .i64 im, .slice q args.length c] 58)).heap.size = w.heap.size + 1 := by simp
      have hown := World.ownsRow_lit (base := w.heap.size + 1) (e := 9) (size := 1) (w.alloc (.cells #[.string ⟨nm.toArray⟩, .int .i64 iv, .int .i64 re, .int .i64 im, .slice q args.length c] 58)) #[.string ⟨nm.toArray⟩] 1 (by rw [hal1]; exact Nat.le_refl _) (by unfold maxLen; omega) rfl
      rw [hal1] at hown
      have HOWN := Lib.hid hown
      have HB0 := Lib.hid ((((Below.refl w.heap.size w).alloc (Nat.le_refl _) (.cells #[.string ⟨nm.toArray⟩, .int .i64 iv, .int .i64 re, .int .i64 im, .slice q args.length c] 58)).alloc (by simp) (.cells #[.string ⟨nm.toArray⟩] 9)))
      have EN := Lib.hid (ent_alloc (ent_new w #[.string ⟨nm.toArray⟩, .int .i64 iv, .int .i64 re, .int .i64 im, .slice q args.length c] 58) (.cells #[.string ⟨nm.toArray⟩] 9))
      clear hown hal1 hg0
      go_loopw [3, 4] (fun lv i wr => ∃ k : Nat, i = .int .i64 k ∧ k ≤ args.length ∧ Hid (wr.ownsRow (w.heap.size + 1) 9 1 lv (k + 1) (strVs (nm :: (args.map (shTr f)).take k))) ∧
        Hid (wr.heap[w.heap.size]? = some (.cells #[.string ⟨nm.toArray⟩, .int .i64 iv, .int .i64 re, .int .i64 im, .slice q args.length c] 58 (0, 0))) ∧ Hid (Below w.heap.size w wr)) (fun _ i _ => args.length - (intOf i).toNat)
      case atStart => exact ⟨0, rfl, Nat.zero_le _, HOWN, EN, HB0⟩
      case round =>
        clear HOWN EN HB0
        obtain ⟨k, rfl, hk, HOWN, EN, HB⟩ := hrel
        have ef := ent_free EN.out
        have e0 := ent_cell EN.out 0 _ rfl
        have e4 := ent_cell EN.out 4 _ rfl
        by_cases hlt : k < args.length
        · obtain ⟨t, ht⟩ : ∃ t, args[k]? = some t := ⟨_, List.getElem?_eq_getElem hlt⟩
          rcases HA.out with ⟨h, _⟩ | ⟨g, o, c', hv, h1, h2, h3⟩
          · exact absurd h he
          injection hv with hq _ hc
          subst hq; subst hc
          obtain ⟨u, hu, hus, huc⟩ := h3 k t ht
          obtain ⟨ts, ti, tr, tm, q1, n1, c1, rfl⟩ := treeAt_form f _ _ _ hu
          have c0 := huc 0 _ rfl; have c1' := huc 1 _ rfl; have c2 := huc 2 _ rfl; have c3 := huc 3 _ rfl; have c4 := huc 4 _ rfl
          replace c0 := (HB.out.cell (World.block_lt_of_cell? w _ c0)).trans c0
          replace c1' := (HB.out.cell (World.block_lt_of_cell? w _ c1')).trans c1'
          replace c2 := (HB.out.cell (World.block_lt_of_cell? w _ c2)).trans c2
          replace c3 := (HB.out.cell (World.block_lt_of_cell? w _ c3)).trans c3
          replace c4 := (HB.out.cell (World.block_lt_of_cell? w _ c4)).trans c4
          rw [Nat.add_zero] at c0
          have HU := Lib.hid (treeK hu HB.out)
          have HT := Lib.hid ht
          have hpl := HPART.out t (List.mem_of_getElem? ht)
          clear h3 huc hu hus ht
          go_wp2_with fail
          refine (IH.out _ t _ HU.out hpl ((Lib.tabBelow_of_tabIs HTAB.out) _ HB.out)).mono ?_
          rintro e w2 ⟨rfl, hb2⟩
          have hown2 := own_kept HOWN.out hb2
          have HOWN2 := Lib.hid hown2
          have EN2 := Lib.hid (ent_below EN.out hb2)
          have HB2 := Lib.hid (HB.out.trans (hb2.mono HB.out.size))
          have hs2 := HB2.out.size
          have hen := ent_lt EN2.out
          obtain ⟨S, hS⟩ : ∃ S, S = shTr f t := ⟨_, rfl⟩
          rw [← hS]
          have HS := Lib.hid hS
          clear hb2 hown2 hS hpl
          go_wp2_with (at_builtin; refine wpList_append_loc _ rfl (.tmp 38) (.tmp 45) 33 rfl (w.heap.size + 1) 9 i0 (.string ⟨#[]⟩) 1 16 Tryz.underlying33 HI.out HI0.out HI1.out HI2.out rfl (by decide) _ (k + 1) _ rfl (HOWN2.out.alloc _) ⟨w2.heap.size, 0, none⟩ 1 1 [.string ⟨S.toArray⟩] rfl (by decide) rfl ?c1 ?c2 ?c3 ?c4 ?c5 ?_)
          case c1 => exact fun j u h => newText w2 S _ j u h
          case c2 => exact one_text S
          case c3 => unfold maxLen; omega
          case c4 => omega
          case c5 => simp; omega
          intro v' w3 hown3 hgr hloc
          have hB3 := (HB2.out.alloc hs2 (.cells #[.string ⟨S.toArray⟩] 9)).grown hgr (by simp; omega) (fun kk hkk => by have := (HOWN2.out.lt kk hkk).1; omega)
          have hEN3 : w3.heap[w.heap.size]? = some (.cells #[.string ⟨nm.toArray⟩, .int .i64 iv, .int .i64 re, .int .i64 im, .slice (some ⟨g, o, none⟩) args.length c] 58 (0, 0)) :=
            (hgr.block _ (by simp; omega) (fun e => by have := (HOWN2.out.lt _ e.symm).1; omega)).trans (ent_alloc EN2.out _)
          have hl3 : strVs (nm :: (args.map (shTr f)).take k) ++ [.string ⟨S.toArray⟩] = strVs (nm :: (args.map (shTr f)).take (k + 1)) := by
            rw [← strVs_snoc, List.take_add_one, List.getElem?_map, HT.out, HS.out]; simp
          rw [hl3] at hown3
          have H1 := Lib.hid hown3; have H2 := Lib.hid hEN3; have H3 := Lib.hid hB3
          clear hown3 hEN3 hB3 hgr hloc hl3 e0 e4 ef c0 c1' c2 c3 c4
          go_wp2
          go_roundw
          case rel => exact ⟨k + 1, by go_num, by omega, H1, H2, H3⟩
          case measure => simp [intOf]; omega
        · obtain rfl : k = args.length := by omega
          have hj := join_any _ _ wr (row_of_own HOWN.out) (by rw [show args.length = (args.map (shTr f)).length by simp, List.take_length]; exact Nat.le_trans HG.out (by omega))
          rw [show (args.map (shTr f)).take args.length = args.map (shTr f) by rw [show args.length = (args.map (shTr f)).length by simp, List.take_length], ← HO.out] at hj
          obtain ⟨p3, c3, rfl⟩ := own_len HOWN.out
          have HJ := Lib.hid hj
          clear hj
          go_wp2_with fail
          refine HJ.out.mono ?_
          rintro e w2 ⟨rfl, rfl⟩
          go_wp2_with fail
          go_ret
          exact ⟨rfl, HB.out⟩
end Sw
end Go.Proofs.YtnhndamfbeiljaaGreatDoor

namespace Go.Proofs.YtnhndamfbeiljaaGreatDoor
open Go Go.RowKit
set_option linter.unusedVariables false
set_option linter.unusedSimpArgs false
namespace Sw

/-- A node that came in. -/
structure Nod where
  name : List UInt8
  int : Int
  re : Int
  im : Int
  fields : Nat
def endT : Tr := .mk [69, 110, 100] 0 0 0 []
/-- The first k fields, and where what is behind them begins. -/
def kidsUp (g : List Nod → Tr × Nat) (l : List Nod) : Nat → List Tr × Nat
  | 0 => ([], 1)
  | k + 1 => ((kidsUp g l k).1 ++ [(g (l.drop (kidsUp g l k).2)).1], (kidsUp g l k).2 + (g (l.drop (kidsUp g l k).2)).2)
/-- The tree, and how many nodes it took: f is 32 less the depth. -/
def mkT : Nat → List Nod → Tr × Nat
  | 0, _ => (endT, 0)
  | f + 1, l => if f = 0 then (endT, 0) else match l with
    | [] => (endT, 0)
    | n :: r => (.mk n.name n.int n.re n.im (kidsUp (mkT f) (n :: r) (n.fields % 4)).1, (kidsUp (mkT f) (n :: r) (n.fields % 4)).2)
theorem mkT_one (l : List Nod) : mkT 1 l = (endT, 0) := by cases l <;> rfl
theorem mkT_nil (f : Nat) : mkT f [] = (endT, 0) := by cases f with
  | zero => rfl
  | succ f => cases f <;> rfl
theorem mkT_cons (f : Nat) (n : Nod) (r : List Nod) : mkT (f + 2) (n :: r) = (.mk n.name n.int n.re n.im (kidsUp (mkT (f + 1)) (n :: r) (n.fields % 4)).1, (kidsUp (mkT (f + 1)) (n :: r) (n.fields % 4)).2) := rfl
theorem kids_len (g : List Nod → Tr × Nat) (l : List Nod) : ∀ k, (kidsUp g l k).1.length = k
  | 0 => rfl
  | k + 1 => by simp [kidsUp, kids_len g l k]
theorem kids_le {g : List Nod → Tr × Nat} (hg : ∀ l, (g l).2 ≤ l.length) (l : List Nod) (h : l ≠ []) : ∀ k, 1 ≤ (kidsUp g l k).2 ∧ (kidsUp g l k).2 ≤ l.length
  | 0 => ⟨Nat.le_refl _, List.length_pos_iff.2 h⟩
  | k + 1 => by
    have h1 := kids_le hg l h k
    have h2 := hg (l.drop (kidsUp g l k).2)
    rw [List.length_drop] at h2
    simp only [kidsUp]; omega
theorem mkT_le : ∀ (f : Nat) (l : List Nod), (mkT f l).2 ≤ l.length := by
  intro f
  induction f with
  | zero => intro l; exact Nat.zero_le _
  | succ f ih =>
    intro l
    cases l with
    | nil => rw [mkT_nil]; exact Nat.zero_le _
    | cons n r =>
      cases f with
      | zero => rw [mkT_one]; exact Nat.zero_le _
      | succ f => rw [mkT_cons]; exact (kids_le ih _ (by simp) _).2
def NodOk (n : Nod) : Prop := I64 n.int ∧ I64 n.re ∧ I64 n.im ∧ n.fields < 256
theorem mkT_sz : ∀ (f : Nat) (l : List Nod), (∀ n ∈ l, NodOk n ∧ n.name.length ≤ 20) → (shTr f (mkT f l).1).length ≤ 70 * (mkT f l).2 + 3 := by
  intro f
  induction f with
  | zero => intro l _; simp [shTr]
  | succ f ih =>
    intro l hl
    cases l with
    | nil => rw [mkT_nil]; simp [shTr, endT]
    | cons n r =>
    cases f with
    | zero => rw [mkT_one]; simp [shTr, endT]
    | succ f =>
      rw [mkT_cons]
      obtain ⟨⟨hi, hr, hm, hf⟩, hn⟩ := hl n (by simp)
      have hk : ∀ k, (((kidsUp (mkT (f + 1)) (n :: r) k).1.map (shTr (f + 1))).flatMap fun t => 32 :: t).length + 70 ≤ 70 * (kidsUp (mkT (f + 1)) (n :: r) k).2 + 4 * k := by
        intro k
        induction k with
        | zero => simp [kidsUp]
        | succ k ik =>
          have := ih ((n :: r).drop (kidsUp (mkT (f + 1)) (n :: r) k).2) (fun x hx => hl x (List.mem_of_mem_drop hx))
          simp only [kidsUp, List.map_append, List.flatMap_append, List.length_append, List.map_cons, List.map_nil, List.flatMap_cons, List.flatMap_nil, List.length_cons, List.length_nil]
          omega
      have h4 := hk (n.fields % 4)
      have h3 : n.fields % 4 < 4 := Nat.mod_lt _ (by decide)
      have b1 := itoa_len21 n.int hi
      have b2 := itoa_len21 n.re hr
      have b3 := itoa_len21 n.im hm
      have a1 := (kids_le (mkT_le (f + 1)) (n :: r) (by simp) (n.fields % 4)).1
      rw [shTr]
      split
      · simp only; omega
      split
      · simp only [joined, glue, List.length_append, List.length_cons, List.length_nil, List.flatMap_cons, List.flatMap_nil]; omega
      split
      · simp only; omega
      · simp only [joined, glue, List.length_append, List.length_cons, List.length_nil]
        omega
end Sw
end Go.Proofs.YtnhndamfbeiljaaGreatDoor

namespace Go.Proofs.YtnhndamfbeiljaaGreatDoor
open Go Go.RowKit
set_option linter.unusedVariables false
set_option linter.unusedSimpArgs false
namespace Sw

theorem ent_set5 {w : World} {g : Nat} {T : TypeId} {z0 z1 z2 z3 z4 : Value} (h : w.heap[g]? = some (.cells #[z0, z1, z2, z3, z4] T (0, 0))) (v0 v1 v2 v3 v4 : Value) :
    (((((w.setCell ⟨g, 0, none⟩ v0).setCell ⟨g, 1, none⟩ v1).setCell ⟨g, 2, none⟩ v2).setCell ⟨g, 3, none⟩ v3).setCell ⟨g, 4, none⟩ v4).heap[g]? = some (.cells #[v0, v1, v2, v3, v4] T (0, 0)) := by
  have h0 : (w.setCell ⟨g, 0, none⟩ v0).heap[g]? = some (.cells #[v0, z1, z2, z3, z4] T (0, 0)) := by have := ent_set h 0 v0; simpa using this
  have h1 : ((w.setCell ⟨g, 0, none⟩ v0).setCell ⟨g, 1, none⟩ v1).heap[g]? = some (.cells #[v0, v1, z2, z3, z4] T (0, 0)) := by have := ent_set h0 1 v1; simpa using this
  have h2 : (((w.setCell ⟨g, 0, none⟩ v0).setCell ⟨g, 1, none⟩ v1).setCell ⟨g, 2, none⟩ v2).heap[g]? = some (.cells #[v0, v1, v2, z3, z4] T (0, 0)) := by have := ent_set h1 2 v2; simpa using this
  have h3 : ((((w.setCell ⟨g, 0, none⟩ v0).setCell ⟨g, 1, none⟩ v1).setCell ⟨g, 2, none⟩ v2).setCell ⟨g, 3, none⟩ v3).heap[g]? = some (.cells #[v0, v1, v2, v3, z4] T (0, 0)) := by have := ent_set h2 3 v3; simpa using this
  have h4 : (((((w.setCell ⟨g, 0, none⟩ v0).setCell ⟨g, 1, none⟩ v1).setCell ⟨g, 2, none⟩ v2).setCell ⟨g, 3, none⟩ v3).setCell ⟨g, 4, none⟩ v4).heap[g]? = some (.cells #[v0, v1, v2, v3, v4] T (0, 0)) := by have := ent_set h3 4 v4; simpa using this
  exact h4
def NodV (u : Value) (x : Nod) : Prop := u = .agg #[.string ⟨x.name.toArray⟩, .int .i64 x.int, .int .i64 x.re, .int .i64 x.im, .int .u8 (x.fields : Nat)] ∧ NodOk x
theorem end_new (f : Nat) (w w' : World) : New (TreeAt (f + 1)) w w' (.agg #[.string ⟨#[69, 110, 100]⟩, .int .i64 0, .int .i64 0, .int .i64 0, .slice none 0 0]) endT :=
  fun u _ => ⟨_, rfl, ⟨by decide, by decide⟩, ⟨by decide, by decide⟩, ⟨by decide, by decide⟩, row_nil _ _ _⟩

theorem row_lo {α : Type} {sz lo : Nat} {rep : World → Value → α → Prop} {w : World} {E n : Nat} {v : Value} {vs : List Value} {xs : List α} (h : w.ownsRow lo E sz v n (cellsOf vs)) (hn : n = xs.length)
    (hr : Reps (Kept rep lo w v.ownBlock) vs xs) (hs : ∀ v ∈ vs, v.cells.size = sz) (u : World) (hu : ∀ b, lo ≤ b → b < w.heap.size → u.heap[b]? = w.heap[b]?) : RowAt sz (rep u) u v xs := by
  subst hn
  rcases h.2 with ⟨rfl, hn⟩ | ⟨g, cap, cur, rfl, hb, hg, hc1, hc2, hc3, hc4⟩
  · exact .inl ⟨List.eq_nil_of_length_eq_zero hn, none, 0, rfl⟩
  · refine .inr ⟨g, 0, cap, rfl, hc1, by unfold maxLen at hc2; omega, fun i x hx => ?_⟩
    obtain ⟨y, hy, l1, hi, h0, h1, _, h3⟩ := hr.at hx
    refine ⟨y, h3 u fun b hb1 hb2 => hu b (by omega) (by omega), hs y (List.mem_of_getElem? hy), fun j z hz => ?_⟩
    have hcell := World.ownsRow.cells h (g := g) rfl (i * sz + j) z (cellsOf_at sz hs hy hz)
    have e : (⟨g, 0, none⟩ : Addr).add (i * sz + j) = ⟨g, 0 + i * sz + j, none⟩ := by unfold Addr.add; split <;> simp_all
    rw [e] at hcell
    have hlt : g < w.heap.size := (Array.getElem?_eq_some_iff.1 hg).1
    rw [World.cell?_of_block (w := w) (hu g hb hlt)]; exact hcell
theorem newCells (w : World) (l : List Value) (T : TypeId) (j : Nat) (u : Value) (h : l[j]? = some u) : (w.alloc (.cells l.toArray T)).cell? ((⟨w.heap.size, 0, none⟩ : Addr).add j) = some u := by
  have e : (⟨w.heap.size, 0, none⟩ : Addr).add j = ⟨w.heap.size, j, none⟩ := by unfold Addr.add; split <;> simp_all
  rw [e, World.cell?_alloc_mark]
  simpa using h
theorem own_lo {w : World} {lo lo' E sz n : Nat} {v : Value} {xs : List Value} (h : w.ownsRow lo E sz v n xs) (hl : lo' ≤ lo) : w.ownsRow lo' E sz v n xs :=
  ⟨h.1, h.2.imp id fun ⟨g, cap, cur, a, b, rest⟩ => ⟨g, cap, cur, a, Nat.le_trans hl b, rest⟩⟩
theorem rowAt_drop {α : Type} {sz g o n c a : Nat} {rep : Value → α → Prop} {w : World} {xs : List α} (h : RowAt sz rep w (.slice (some ⟨g, o, none⟩) n c) xs) (ha : a ≤ xs.length) :
    RowAt sz rep w (.slice (some ⟨g, o + a * sz, none⟩) (n - a) (c - a)) (xs.drop a) := by
  rcases h with ⟨rfl, q, c', h⟩ | ⟨g', o', c', hv, h1, h2, h3⟩
  · injection h with _ h0 _
    subst h0
    exact .inl ⟨by simp, _, _, by rw [Nat.zero_sub]⟩
  · injection hv with e1 e2 e3
    injection e1 with e1
    injection e1 with e4 e5 _
    subst e2; subst e3; subst e4; subst e5
    refine .inr ⟨g, o + a * sz, c - a, by rw [List.length_drop], by rw [List.length_drop]; omega, by omega, fun i x hx => ?_⟩
    rw [List.getElem?_drop] at hx
    obtain ⟨u, hu, hs, hc⟩ := h3 (a + i) x hx
    exact ⟨u, hu, hs, fun j z hz => by have := hc j z hz; rwa [Nat.add_mul, ← Nat.add_assoc] at this⟩

set_option maxHeartbeats 4000000 in
set_option maxRecDepth 100000 in
theorem lawTree_any : ∀ (f : Nat) (l : List Nod) (v : Value) (w : World), 1 ≤ f → f ≤ 32 → RowAt 5 NodV w v l → l.length ≤ 1000000 →
    Calls Tryz.prog 18 #[v, .int .i64 (32 - (f : Int))] w fun e w' => ∃ tv, e = .returned (.tuple #[tv, .int .i64 ((mkT f l).2 : Int)]) ∧ New (TreeAt f) w w' tv (mkT f l).1 ∧ Below w.heap.size w w' := by
  intro f
  induction f with
  | zero => intro l v w h; omega
  | succ f ih =>
    intro l v w _ hf hl hlen
    obtain ⟨i0, hi, hz0, hz1, hz2⟩ := info_parts (show (Tryz.prog.info? 58).map (fun i => (i.zero, i.size, i.bytes)) = some (some (.agg #[.string ⟨#[]⟩, .int .i64 0, .int .i64 0, .int .i64 0, .slice none 0 0]), 5, 64) by kernel_rfl)
    have I := Lib.hid hi; have I0 := Lib.hid hz0; have I1 := Lib.hid hz1; have I2 := Lib.hid hz2
    clear hi hz0 hz1 hz2
    have IH := Lib.hid ih
    obtain ⟨q, c, rfl⟩ := hl.len
    have HL := Lib.hid hl
    clear hl ih
    obtain ⟨R, hR⟩ : ∃ R, R = mkT (f + 1) l := ⟨_, rfl⟩
    rw [← hR]
    have HR := Lib.hid hR
    clear hR
    go_enter Tryz.func18, Tryz.ntmps18
    have EX := Lib.hid (ent_new w #[.string ⟨#[]⟩, .int .i64 0, .int .i64 0, .int .i64 0, .slice none 0 0] 58)
    have HB := Lib.hid (show Below w.heap.size w (w.alloc (.cells #[.string ⟨#[]⟩, .int .i64 0, .int .i64 0, .int .i64 0, .slice none 0 0] 58)) from (Below.refl _ _).alloc (Nat.le_refl _) _)
    go_upto_region 1 with fail
    generalize w.alloc (.cells #[.string ⟨#[]⟩, .int .i64 0, .int .i64 0, .int .i64 0, .slice none 0 0] 58) = wb at EX HB ⊢
    have efree := ent_free EX.out
    have ec0 := ent_cell EX.out 0 _ rfl
    have ec1 := ent_cell EX.out 1 _ rfl
    have ec2 := ent_cell EX.out 2 _ rfl
    have ec3 := ent_cell EX.out 3 _ rfl
    have ec4 := ent_cell EX.out 4 _ rfl
    by_cases he : l = []
    · subst he
      have hE : R = (endT, 0) := by rw [HR.out, mkT_nil]
      have l0 : ([] : List Nod).length = 0 := rfl
      rw [l0]
      go_wp2_with fail
      have E5 := ent_set5 EX.out (.string ⟨#[69, 110, 100]⟩) (.int .i64 0) (.int .i64 0) (.int .i64 0) (.slice none 0 0)
      have r0 := ent_cell E5 0 _ rfl
      have r1 := ent_cell E5 1 _ rfl
      have r2 := ent_cell E5 2 _ rfl
      have r3 := ent_cell E5 3 _ rfl
      have r4 := ent_cell E5 4 _ rfl
      have hb := (((((HB.out.setCell (p := ⟨w.heap.size, 0, none⟩) (Nat.le_refl _) (.string ⟨#[69, 110, 100]⟩)).setCell (p := ⟨w.heap.size, 1, none⟩) (Nat.le_refl _) (.int .i64 0)).setCell (p := ⟨w.heap.size, 2, none⟩) (Nat.le_refl _) (.int .i64 0)).setCell (p := ⟨w.heap.size, 3, none⟩) (Nat.le_refl _) (.int .i64 0)).setCell (p := ⟨w.heap.size, 4, none⟩) (Nat.le_refl _) (.slice none 0 0))
      refine bodyPost_ret (v := .tuple #[.agg #[.string ⟨#[69, 110, 100]⟩, .int .i64 0, .int .i64 0, .int .i64 0, .slice none 0 0], .int .i64 0]) (by simp [results, Tryz.results18, go_sem, r0, r1, r2, r3, r4]) rfl ?_
      exact ⟨_, by rw [hE]; rfl, by rw [hE]; exact end_new _ _ _, hb⟩
    have hpos := List.length_pos_iff.2 he
    obtain ⟨N, hN⟩ : ∃ N, N = l.length := ⟨_, rfl⟩
    rw [← hN] at hpos hlen ⊢
    have l1 : ((N : Int) == 0) = false := by simp; omega
    by_cases hf0 : f = 0
    · subst hf0
      have hE : R = (endT, 0) := by rw [HR.out, mkT_one]
      have d0 : (32 : Int) - ((0 + 1 : Nat) : Int) = 31 := rfl
      rw [d0]
      go_wp2_with fail
      have E5 := ent_set5 EX.out (.string ⟨#[69, 110, 100]⟩) (.int .i64 0) (.int .i64 0) (.int .i64 0) (.slice none 0 0)
      have r0 := ent_cell E5 0 _ rfl
      have r1 := ent_cell E5 1 _ rfl
      have r2 := ent_cell E5 2 _ rfl
      have r3 := ent_cell E5 3 _ rfl
      have r4 := ent_cell E5 4 _ rfl
      have hb := (((((HB.out.setCell (p := ⟨w.heap.size, 0, none⟩) (Nat.le_refl _) (.string ⟨#[69, 110, 100]⟩)).setCell (p := ⟨w.heap.size, 1, none⟩) (Nat.le_refl _) (.int .i64 0)).setCell (p := ⟨w.heap.size, 2, none⟩) (Nat.le_refl _) (.int .i64 0)).setCell (p := ⟨w.heap.size, 3, none⟩) (Nat.le_refl _) (.int .i64 0)).setCell (p := ⟨w.heap.size, 4, none⟩) (Nat.le_refl _) (.slice none 0 0))
      refine bodyPost_ret (v := .tuple #[.agg #[.string ⟨#[69, 110, 100]⟩, .int .i64 0, .int .i64 0, .int .i64 0, .slice none 0 0], .int .i64 0]) (by simp [results, Tryz.results18, go_sem, r0, r1, r2, r3, r4]) rfl ?_
      exact ⟨_, by rw [hE]; rfl, by rw [hE]; exact end_new _ _ _, hb⟩
    obtain ⟨D, hD⟩ : ∃ D : Int, D = 32 - ((f + 1 : Nat) : Int) := ⟨_, rfl⟩
    rw [← hD]
    have d1 : decide ((30 : Int) < D) = false := by simp; omega
    obtain ⟨n, r, rfl⟩ : ∃ n r, l = n :: r := List.exists_cons_of_ne_nil he
    rcases HL.out with ⟨h, _⟩ | ⟨g, o, c', hv, h1, h2, h3⟩
    · exact absurd h he
    injection hv with hq hn' hc
    subst hq; subst hc
    have h2' : (c : Int) ≤ 9223372036854775807 := h2
    obtain ⟨u, ⟨rfl, hok⟩, hus, huc⟩ := h3 0 n rfl
    have HD := Lib.hid hD
    have HN := Lib.hid hN
    have HOK := Lib.hid hok
    have HU := Lib.hid huc
    clear h3 huc hus hD hN hok ec0 ec1 ec2 ec3 ec4 efree
    go_upto_region 3 with fail
    refine wp_region_held_drew (S := fun (u : World) => Below w.heap.size w u) (by kernel_rfl) (show Below w.heap.size w wb.drew from HB.out.drew) (fun hHeld => ?_)
    have HBd := Lib.hid (show Below w.heap.size w wb.drew from HB.out.drew)
    have EXd := Lib.hid (show wb.drew.heap[w.heap.size]? = some (.cells #[.string ⟨#[]⟩, .int .i64 0, .int .i64 0, .int .i64 0, .slice none 0 0] 58 (0, 0)) from EX.out)
    clear HB EX
    generalize wb.drew = wd at HBd EXd hHeld ⊢
    have HB := HBd
    have EX := EXd
    clear HBd EXd
    have x0 := HU.out 0 (.string ⟨n.name.toArray⟩) rfl
    have x1 := HU.out 1 (.int .i64 n.int) rfl
    have x2 := HU.out 2 (.int .i64 n.re) rfl
    have x3 := HU.out 3 (.int .i64 n.im) rfl
    have x4 := HU.out 4 (.int .u8 (n.fields : Nat)) rfl
    rw [Nat.zero_mul, Nat.add_zero] at x0
    rw [Nat.zero_mul, Nat.add_zero] at x1
    rw [Nat.zero_mul, Nat.add_zero] at x2
    rw [Nat.zero_mul, Nat.add_zero] at x3
    rw [Nat.zero_mul, Nat.add_zero] at x4
    have k1 : (0 : Int) < (N : Int) := by omega
    have k2 : (N : Int) ≤ (c : Int) := by have := HN.out; omega
    refine wpAnyH_take (i := 0) (v := .slice (some ⟨g, o, none⟩) N c) rfl (by kernel_rfl) (by kernel_rfl) (by kernel_rfl) (fun _ _ _ h => h) (Or.inl ⟨by rfl, fun w' hSw => by go_simp⟩) hHeld ?_
    refine wpAnyH_take (i := 1) (v := .pointer (some ⟨g, o, none⟩)) rfl (by kernel_rfl) (by kernel_rfl) (by kernel_rfl) (fun _ _ _ h => h) (Or.inl ⟨by rfl, fun w' hSw => by go_simp⟩) hHeld ?_
    refine wpAnyH_take (i := 2) (v := .pointer (some ⟨g, o, none⟩)) rfl (by kernel_rfl) (by kernel_rfl) (by kernel_rfl) (fun _ _ _ h => h) (Or.inl ⟨by rfl, fun w' hSw => by go_simp⟩) hHeld ?_
    refine wpAnyH_take (i := 3) (v := .string ⟨n.name.toArray⟩) rfl (by kernel_rfl) (by kernel_rfl) (by kernel_rfl) (fun _ _ _ h => h) (Or.inl ⟨by rfl, fun w' hSw => by have hq : Below w.heap.size w w' := hSw; have z := (hq.cell (World.block_lt_of_cell? w _ x0)).trans x0; go_simp⟩) hHeld ?_
    refine wpAnyH_take (i := 4) (v := .slice (some ⟨g, o, none⟩) N c) rfl (by kernel_rfl) (by kernel_rfl) (by kernel_rfl) (fun _ _ _ h => h) (Or.inl ⟨by rfl, fun w' hSw => by go_simp⟩) hHeld ?_
    refine wpAnyH_take (i := 5) (v := .pointer (some ⟨g, o, none⟩)) rfl (by kernel_rfl) (by kernel_rfl) (by kernel_rfl) (fun _ _ _ h => h) (Or.inl ⟨by rfl, fun w' hSw => by go_simp⟩) hHeld ?_
    refine wpAnyH_take (i := 6) (v := .pointer (some ⟨g, o + 1, none⟩)) rfl (by kernel_rfl) (by kernel_rfl) (by kernel_rfl) (fun _ _ _ h => h) (Or.inl ⟨by rfl, fun w' hSw => by go_simp⟩) hHeld ?_
    refine wpAnyH_take (i := 7) (v := .int .i64 n.int) rfl (by kernel_rfl) (by kernel_rfl) (by kernel_rfl) (fun _ _ _ h => h) (Or.inl ⟨by rfl, fun w' hSw => by have hq : Below w.heap.size w w' := hSw; have z := (hq.cell (World.block_lt_of_cell? w _ x1)).trans x1; go_simp⟩) hHeld ?_
    refine wpAnyH_take (i := 8) (v := .slice (some ⟨g, o, none⟩) N c) rfl (by kernel_rfl) (by kernel_rfl) (by kernel_rfl) (fun _ _ _ h => h) (Or.inl ⟨by rfl, fun w' hSw => by go_simp⟩) hHeld ?_
    refine wpAnyH_take (i := 9) (v := .pointer (some ⟨g, o, none⟩)) rfl (by kernel_rfl) (by kernel_rfl) (by kernel_rfl) (fun _ _ _ h => h) (Or.inl ⟨by rfl, fun w' hSw => by go_simp⟩) hHeld ?_
    refine wpAnyH_take (i := 10) (v := .pointer (some ⟨g, o + 2, none⟩)) rfl (by kernel_rfl) (by kernel_rfl) (by kernel_rfl) (fun _ _ _ h => h) (Or.inl ⟨by rfl, fun w' hSw => by go_simp⟩) hHeld ?_
    refine wpAnyH_take (i := 11) (v := .int .i64 n.re) rfl (by kernel_rfl) (by kernel_rfl) (by kernel_rfl) (fun _ _ _ h => h) (Or.inl ⟨by rfl, fun w' hSw => by have hq : Below w.heap.size w w' := hSw; have z := (hq.cell (World.block_lt_of_cell? w _ x2)).trans x2; go_simp⟩) hHeld ?_
    refine wpAnyH_take (i := 12) (v := .slice (some ⟨g, o, none⟩) N c) rfl (by kernel_rfl) (by kernel_rfl) (by kernel_rfl) (fun _ _ _ h => h) (Or.inl ⟨by rfl, fun w' hSw => by go_simp⟩) hHeld ?_
    refine wpAnyH_take (i := 13) (v := .pointer (some ⟨g, o, none⟩)) rfl (by kernel_rfl) (by kernel_rfl) (by kernel_rfl) (fun _ _ _ h => h) (Or.inl ⟨by rfl, fun w' hSw => by go_simp⟩) hHeld ?_
    refine wpAnyH_take (i := 14) (v := .pointer (some ⟨g, o + 3, none⟩)) rfl (by kernel_rfl) (by kernel_rfl) (by kernel_rfl) (fun _ _ _ h => h) (Or.inl ⟨by rfl, fun w' hSw => by go_simp⟩) hHeld ?_
    refine wpAnyH_take (i := 15) (v := .int .i64 n.im) rfl (by kernel_rfl) (by kernel_rfl) (by kernel_rfl) (fun _ _ _ h => h) (Or.inl ⟨by rfl, fun w' hSw => by have hq : Below w.heap.size w w' := hSw; have z := (hq.cell (World.block_lt_of_cell? w _ x3)).trans x3; go_simp⟩) hHeld ?_
    refine wpAnyH_take (i := 16) (v := .agg #[.string ⟨n.name.toArray⟩, .int .i64 n.int, .int .i64 n.re, .int .i64 n.im, .slice none 0 0]) rfl (by kernel_rfl) (by kernel_rfl) (by kernel_rfl) (fun _ _ _ h => h) (Or.inl ⟨by rfl, fun w' hSw => by go_simp⟩) hHeld ?_
    try simp only [Act.put, List.getElem_toArray, List.getElem_cons_succ, List.getElem_cons_zero, List.setIfInBounds_toArray, List.set_cons_zero, List.set_cons_succ]
    refine wpAnyH_ready (rs := [17]) (by kernel_rfl) (by simp) ?_
    refine AllReadyH.cons rfl (fun K hK => ?_) AllReadyH.nil
    go_simp
    have HBA := Lib.hid (HB.out.alloc HB.out.size (.cells #[.string ⟨#[]⟩, .int .i64 0, .int .i64 0, .int .i64 0, .slice none 0 0] 58))
    have EXA := Lib.hid (ent_alloc EX.out (.cells #[.string ⟨#[]⟩, .int .i64 0, .int .i64 0, .int .i64 0, .slice none 0 0] 58))
    have EYA := Lib.hid (ent_new wd #[.string ⟨#[]⟩, .int .i64 0, .int .i64 0, .int .i64 0, .slice none 0 0] 58)
    have hsz := HB.out.size
    have hlt := ent_lt EX.out
    obtain ⟨tb, htb⟩ : ∃ tb, tb = wd.heap.size := ⟨_, rfl⟩
    rw [← htb] at EYA hsz hlt ⊢
    refine hK.out _ _ HBA.out (fun hHeld => ?_)
    clear hK K HB EX htb
    generalize wd.alloc (.cells #[.string ⟨#[]⟩, .int .i64 0, .int .i64 0, .int .i64 0, .slice none 0 0] 58) = we at HBA EXA EYA hHeld ⊢
    have HB := HBA
    have EX := EXA
    have EY := EYA
    clear HBA EXA EYA
    have efree := ent_free EY.out
    have ec0 := ent_cell EY.out 0 _ rfl
    have ec1 := ent_cell EY.out 1 _ rfl
    have ec2 := ent_cell EY.out 2 _ rfl
    have ec3 := ent_cell EY.out 3 _ rfl
    have ec4 := ent_cell EY.out 4 _ rfl
    refine wpAnyH_ready (rs := [18]) (by kernel_rfl) (by simp) ?_
    refine AllReadyH.cons rfl (fun K hK => ?_) AllReadyH.nil
    go_simp
    clear efree ec0 ec1 ec2 ec3 ec4
    replace HB := Lib.hid (((((HB.out.setCell (p := ⟨tb, 0, none⟩) hsz (.string ⟨n.name.toArray⟩)).setCell (p := ⟨tb, 1, none⟩) hsz (.int .i64 n.int)).setCell (p := ⟨tb, 2, none⟩) hsz (.int .i64 n.re)).setCell (p := ⟨tb, 3, none⟩) hsz (.int .i64 n.im)).setCell (p := ⟨tb, 4, none⟩) hsz (.slice none 0 0))
    replace EX := Lib.hid (ent_other (ent_other (ent_other (ent_other (ent_other EX.out tb 0 (.string ⟨n.name.toArray⟩) (by omega)) tb 1 (.int .i64 n.int) (by omega)) tb 2 (.int .i64 n.re) (by omega)) tb 3 (.int .i64 n.im) (by omega)) tb 4 (.slice none 0 0) (by omega))
    replace EY := Lib.hid (ent_set5 EY.out (.string ⟨n.name.toArray⟩) (.int .i64 n.int) (.int .i64 n.re) (.int .i64 n.im) (.slice none 0 0))
    refine hK.out _ _ HB.out (fun hHeld => ?_)
    clear hK K
    refine wpAnyH_done (by kernel_rfl) ?_ _
    generalize (((((we.setCell ⟨tb, 0, none⟩ (.string ⟨n.name.toArray⟩)).setCell ⟨tb, 1, none⟩ (.int .i64 n.int)).setCell ⟨tb, 2, none⟩ (.int .i64 n.re)).setCell ⟨tb, 3, none⟩ (.int .i64 n.im)).setCell ⟨tb, 4, none⟩ (.slice none 0 0)) = wf at HB EX EY ⊢
    clear hHeld
    replace x4 := (HB.out.cell (World.block_lt_of_cell? w _ x4)).trans x4
    clear x0 x1 x2 x3
    obtain ⟨M, hM⟩ : ∃ M, M = n.fields % 4 := ⟨_, rfl⟩
    have HM4 := Lib.hid (show M < 4 by omega)
    have HMi : Hid (((n.fields : Nat) : Int) % 4 = (M : Int)) := Lib.hid (by omega)
    have HM := Lib.hid hM
    clear hM
    go_wp2_with fail
    rw [HMi.out]
    clear HMi x4
    go_loopw [7, 41] (fun av i wr => ∃ (k at' : Nat) (p : Option Addr) (d : Nat) (vs : List Value), i = .int .i64 k ∧ k ≤ M ∧ av = .int .i64 at' ∧ Hid (at' = (kidsUp (mkT f) (n :: r) k).2) ∧ Hid (wr.heap[w.heap.size]? = some (.cells #[.string ⟨#[]⟩, .int .i64 0, .int .i64 0, .int .i64 0, .slice none 0 0] 58 (0, 0))) ∧ Hid (wr.heap[tb]? = some (.cells #[.string ⟨n.name.toArray⟩, .int .i64 n.int, .int .i64 n.re, .int .i64 n.im, .slice p k d] 58 (0, 0))) ∧
      Hid (wr.ownsRow (tb + 1) 58 5 (.slice p k d) k (cellsOf vs)) ∧ Hid (Reps (Kept (TreeAt f) (tb + 1) wr (Value.slice p k d).ownBlock) vs (kidsUp (mkT f) (n :: r) k).1) ∧ Hid (∀ v ∈ vs, v.cells.size = 5) ∧ Hid (Below w.heap.size w wr)) (fun _ i _ => M - (intOf i).toNat)
    case atStart => exact ⟨0, 1, none, 0, [], rfl, Nat.zero_le _, rfl, Lib.hid rfl, EX, EY, Lib.hid (World.ownsRow_nil _ _ _ _), Lib.hid trivial, Lib.hid (by simp), HB⟩
    case round =>
      clear EX EY HB
      obtain ⟨k, a, p, d, vs, rfl, hk, rfl, HA, EX, EY, HO, HV, HC, HB⟩ := hrel
      have hle := kids_le (mkT_le f) (n :: r) (by simp) k
      rw [← HA.out, ← HN.out] at hle
      have hDr : 0 ≤ D ∧ D ≤ 31 := by have := HD.out; omega
      by_cases hlt : k < M
      · have m1 : ((a : Int) ≤ (N : Int)) := by omega
        have m3 : min (a : Int) (N : Int) = (a : Int) := by omega
        have HL2 : Hid (∀ q, (q = ⟨g, o + a * 5, none⟩ ∨ c = a) → RowAt 5 NodV wr (.slice (some q) (N - a) (c - a)) ((n :: r).drop a)) := Lib.hid (by
          rintro q (rfl | hq)
          · have := HL.out; rw [← HN.out] at this
            exact (rowAt_drop this (by have := HN.out; omega)).mono HB.out (fun u x _ hu => hu)
          · have : N = a := by have := HN.out; omega
            exact .inl ⟨List.drop_of_length_le (by have := HN.out; omega), _, _, by rw [this, Nat.sub_self]⟩)
        have HL3 := Lib.hid (show ((n :: r).drop a).length ≤ 1000000 by rw [List.length_drop]; have := HN.out; omega)
        have HD1 := Lib.hid (show D + 1 = 32 - ((f : Nat) : Int) by have := HD.out; omega)
        by_cases hac : c = a
        · have HAC := Lib.hid hac
          have hac2 : a = c := hac.symm
          have hac3 : (a : Int) = (c : Int) := by omega
          have m3c : min (c : Int) (N : Int) = (c : Int) := by omega
          clear hac
          go_wp2_with fail
          rw [HD1.out]
          refine (IH.out ((n :: r).drop a) _ wr (by omega) (by omega) (by have h := HL2.out ⟨g, o, none⟩ (.inr HAC.out); have e1 : c - a = 0 := (by omega); rw [e1] at h; first | exact h | (rw [hac2] at h; rw [hac2]; exact h)) HL3.out).mono ?_
          rintro e w2 ⟨tv, rfl, hnew, hb2⟩
          obtain ⟨ts, ti, tr, tm, q1, n1, c1, rfl⟩ := treeAt_form f _ _ _ hnew.now
          have hct := mkT_le f ((n :: r).drop a)
          rw [List.length_drop] at hct
          obtain ⟨ct, hctd⟩ : ∃ ct, ct = (mkT f ((n :: r).drop a)).2 := ⟨_, rfl⟩
          rw [← hctd] at hct ⊢
          have HCT := Lib.hid hctd
          have HCB := Lib.hid (show a + ct ≤ N by have := HN.out; omega)
          have hty := ent_lt EY.out
          have HKN : Hid (Kept (TreeAt f) (tb + 1) w2 (Value.slice p k d).ownBlock (.agg #[.string ts, .int .i64 ti, .int .i64 tr, .int .i64 tm, .slice q1 n1 c1]) (mkT f ((n :: r).drop a)).1) := Lib.hid (hnew.kept hty (fun g hg => (HO.out.lt g hg).2))
          have HV2 : Hid (Reps (Kept (TreeAt f) (tb + 1) w2 (Value.slice p k d).ownBlock) vs (kidsUp (mkT f) (n :: r) k).1) := Lib.hid (HV.out.mono fun v x h => h.below hb2)
          have EX2 := Lib.hid (ent_below EX.out hb2)
          have EY2 := Lib.hid (ent_below EY.out hb2)
          have HO2 := Lib.hid (own_kept HO.out hb2)
          have HB2 := Lib.hid (HB.out.trans (hb2.mono HB.out.size))
          clear EX EY HO HV HB hb2 hnew hctd hty
          go_upto_region 8 with fail
          have hba : Below w2.heap.size w2 (w2.alloc (.cells #[.string ts, .int .i64 ti, .int .i64 tr, .int .i64 tm, .slice q1 n1 c1] 58)) := (Below.refl _ _).alloc (Nat.le_refl _) _
          have ZX := Lib.hid (ent_new w2 #[.string ts, .int .i64 ti, .int .i64 tr, .int .i64 tm, .slice q1 n1 c1] 58)
          have EX := Lib.hid (ent_below EX2.out hba)
          have EY := Lib.hid (ent_below EY2.out hba)
          have HO := Lib.hid (own_kept HO2.out hba)
          have HB := Lib.hid (HB2.out.trans (hba.mono HB2.out.size))
          have HKA := Lib.hid (HKN.out.below hba)
          have HV : Hid (Reps (Kept (TreeAt f) (tb + 1) (w2.alloc (.cells #[.string ts, .int .i64 ti, .int .i64 tr, .int .i64 tm, .slice q1 n1 c1] 58)) (Value.slice p k d).ownBlock) vs (kidsUp (mkT f) (n :: r) k).1) := Lib.hid (HV2.out.mono fun v x h => h.below hba)
          clear hba HKN HV2 EX2 EY2 HO2 HB2
          generalize w2.heap.size = xb at ZX ⊢
          generalize w2.alloc (.cells #[.string ts, .int .i64 ti, .int .i64 tr, .int .i64 tm, .slice q1 n1 c1] 58) = w3 at ZX EX EY HO HB HKA HV ⊢
          have y4 := ent_cell EY.out 4 (.slice p k d) rfl
          have z0 := ent_cell ZX.out 0 _ rfl
          have z1 := ent_cell ZX.out 1 _ rfl
          have z2 := ent_cell ZX.out 2 _ rfl
          have z3 := ent_cell ZX.out 3 _ rfl
          have z4 := ent_cell ZX.out 4 _ rfl
          have hM4 := HM4.out
          go_wp2_with (at_builtin; refine wpList_append_loc _ rfl (.tmp 56) (.tmp 58) 56 rfl (tb + 1) 58 i0 _ 5 64 Tryz.underlying56 I.out I0.out I1.out I2.out rfl (by decide) _ k _ rfl (HO.out.alloc _) ⟨w3.heap.size, 0, none⟩ 1 1 [.string ts, .int .i64 ti, .int .i64 tr, .int .i64 tm, .slice q1 n1 c1] rfl (by decide) rfl ?c1 ?c2 ?c3 ?c4 ?c5 ?_)
          case c1 => exact fun j u h => newCells w3 [.string ts, .int .i64 ti, .int .i64 tr, .int .i64 tm, .slice q1 n1 c1] _ j u h
          case c2 => simp [Value.oneCell']
          case c3 => unfold maxLen; omega
          case c4 => omega
          case c5 => have := ent_lt EY.out; simp; omega
          intro v' w' h1 h2 h3
          have hty := ent_lt EY.out
          have hby : Below w3.heap.size w3 (w3.alloc (.cells #[.string ts, .int .i64 ti, .int .i64 tr, .int .i64 tm, .slice q1 n1 c1] 58)) := (Below.refl _ _).alloc (Nat.le_refl _) _
          have hbw : Below w.heap.size w w' := (HB.out.trans (hby.mono HB.out.size)).grown h2 (by have := HB.out.size; simp; omega) (fun j hj => by have := (own_ent HO.out hj).1; omega)
          have hey : w'.heap[tb]? = some (.cells #[.string ⟨n.name.toArray⟩, .int .i64 n.int, .int .i64 n.re, .int .i64 n.im, .slice p k d] 58 (0, 0)) :=
            (h2.block tb (by simp; omega) (fun e => by have := (own_ent HO.out e.symm).1; omega)).trans (ent_below EY.out hby)
          have hex : w'.heap[w.heap.size]? = some (.cells #[.string ⟨#[]⟩, .int .i64 0, .int .i64 0, .int .i64 0, .slice none 0 0] 58 (0, 0)) :=
            (h2.block w.heap.size (by simp; omega) (fun e => by have := (own_ent HO.out e.symm).1; omega)).trans (ent_below EX.out hby)
          have hkall : ∀ {v : Value} {x : Tr}, Kept (TreeAt f) (tb + 1) w3 (Value.slice p k d).ownBlock v x → Kept (TreeAt f) (tb + 1) w' v'.ownBlock v x := fun h =>
            (h.below hby).step h2.size (fun b hb hne => h2.block b hb (fun e => hne e.symm)) (h3.imp id fun h g hg => by have := h g hg; simp; omega)
          obtain ⟨p7, d7, rfl⟩ := own_sl h1
          have hne : (Value.slice p7 (k + 1) d7).ownBlock ≠ some tb := fun e => by have := (own_ent h1 e).1; omega
          have hkset : ∀ {v : Value} {x : Tr}, Kept (TreeAt f) (tb + 1) w' (Value.slice p7 (k + 1) d7).ownBlock v x → Kept (TreeAt f) (tb + 1) (w'.setCell ⟨tb, 4, none⟩ (.slice p7 (k + 1) d7)) (Value.slice p7 (k + 1) d7).ownBlock v x := fun h =>
            h.since (by simp [World.setCell]) (fun b hb _ _ => Below.heap_setCell w' ⟨tb, 4, none⟩ (.slice p7 (k + 1) d7) b (by dsimp only; omega)) (.inl rfl)
          have hkk : (kidsUp (mkT f) (n :: r) (k + 1)).1 = (kidsUp (mkT f) (n :: r) k).1 ++ [(mkT f ((n :: r).drop a)).1] := by rw [kidsUp, ← HA.out]
          have HVn := Lib.hid (Reps.snoc (hkset (hkall HKA.out)) (HV.out.mono fun v x h => hkset (hkall h)))
          rw [← hkk] at HVn
          clear hkk
          have HEX := Lib.hid (ent_other hex tb 4 (.slice p7 (k + 1) d7) (by omega))
          have HEY := Lib.hid (show (w'.setCell ⟨tb, 4, none⟩ (.slice p7 (k + 1) d7)).heap[tb]? = some (.cells #[.string ⟨n.name.toArray⟩, .int .i64 n.int, .int .i64 n.re, .int .i64 n.im, .slice p7 (k + 1) d7] 58 (0, 0)) from ent_set hey 4 _)
          have HO2 : Hid ((w'.setCell ⟨tb, 4, none⟩ (.slice p7 (k + 1) d7)).ownsRow (tb + 1) 58 5 (.slice p7 (k + 1) d7) (k + 1) (cellsOf (vs ++ [.agg #[.string ts, .int .i64 ti, .int .i64 tr, .int .i64 tm, .slice q1 n1 c1]]))) := Lib.hid (by
            rw [show cellsOf (vs ++ [.agg #[.string ts, .int .i64 ti, .int .i64 tr, .int .i64 tm, .slice q1 n1 c1]]) = cellsOf vs ++ [.string ts, .int .i64 ti, .int .i64 tr, .int .i64 tm, .slice q1 n1 c1] by simp [cellsOf, Value.cells]]
            exact h1.kept (row := some tb) ⟨rfl, rfl, rfl, by simp [World.setCell], fun j _ hj => Below.heap_setCell w' ⟨tb, 4, none⟩ (.slice p7 (k + 1) d7) j (fun e => hj (congrArg some e.symm).symm)⟩ (Or.inr hne))
          have HBn := Lib.hid (hbw.setCell (p := ⟨tb, 4, none⟩) (by dsimp only; omega) (.slice p7 (k + 1) d7))
          have HCn : Hid (∀ v ∈ vs ++ [.agg #[.string ts, .int .i64 ti, .int .i64 tr, .int .i64 tm, .slice q1 n1 c1]], v.cells.size = 5) := Lib.hid (by
            intro v hv
            rcases List.mem_append.1 hv with h | h
            · exact HC.out v h
            · rw [List.mem_singleton.1 h]; rfl)
          have y4b := ent_cell hey 4 (.slice p k d) rfl
          have yfb := ent_free hey 4
          have hac3 := HCB.out
          clear h1 h2 h3 hbw hex hey hne y4 z0 z1 z2 z3 z4 hby hkall hkset ZX HKA HV EX EY HO HB
          go_wp2_with fail
          clear y4b yfb
          exact ⟨⟨k + 1, a + ct, p7, d7, vs ++ [.agg #[.string ts, .int .i64 ti, .int .i64 tr, .int .i64 tm, .slice q1 n1 c1]], by go_num, by omega, by go_num, Lib.hid (by rw [kidsUp, ← HA.out, ← HCT.out]), HEX, HEY, HO2, HVn, HCn, HBn⟩, by simp [intOf]; omega⟩
        · have hac2 : ¬ (c : Int) = (a : Int) := by omega
          go_wp2_with fail
          rw [HD1.out]
          refine (IH.out _ _ wr (by omega) (by omega) (HL2.out _ (.inl rfl)) HL3.out).mono ?_
          rintro e w2 ⟨tv, rfl, hnew, hb2⟩
          obtain ⟨ts, ti, tr, tm, q1, n1, c1, rfl⟩ := treeAt_form f _ _ _ hnew.now
          have hct := mkT_le f ((n :: r).drop a)
          rw [List.length_drop] at hct
          obtain ⟨ct, hctd⟩ : ∃ ct, ct = (mkT f ((n :: r).drop a)).2 := ⟨_, rfl⟩
          rw [← hctd] at hct ⊢
          have HCT := Lib.hid hctd
          have HCB := Lib.hid (show a + ct ≤ N by have := HN.out; omega)
          have hty := ent_lt EY.out
          have HKN : Hid (Kept (TreeAt f) (tb + 1) w2 (Value.slice p k d).ownBlock (.agg #[.string ts, .int .i64 ti, .int .i64 tr, .int .i64 tm, .slice q1 n1 c1]) (mkT f ((n :: r).drop a)).1) := Lib.hid (hnew.kept hty (fun g hg => (HO.out.lt g hg).2))
          have HV2 : Hid (Reps (Kept (TreeAt f) (tb + 1) w2 (Value.slice p k d).ownBlock) vs (kidsUp (mkT f) (n :: r) k).1) := Lib.hid (HV.out.mono fun v x h => h.below hb2)
          have EX2 := Lib.hid (ent_below EX.out hb2)
          have EY2 := Lib.hid (ent_below EY.out hb2)
          have HO2 := Lib.hid (own_kept HO.out hb2)
          have HB2 := Lib.hid (HB.out.trans (hb2.mono HB.out.size))
          clear EX EY HO HV HB hb2 hnew hctd hty
          go_upto_region 8 with fail
          have hba : Below w2.heap.size w2 (w2.alloc (.cells #[.string ts, .int .i64 ti, .int .i64 tr, .int .i64 tm, .slice q1 n1 c1] 58)) := (Below.refl _ _).alloc (Nat.le_refl _) _
          have ZX := Lib.hid (ent_new w2 #[.string ts, .int .i64 ti, .int .i64 tr, .int .i64 tm, .slice q1 n1 c1] 58)
          have EX := Lib.hid (ent_below EX2.out hba)
          have EY := Lib.hid (ent_below EY2.out hba)
          have HO := Lib.hid (own_kept HO2.out hba)
          have HB := Lib.hid (HB2.out.trans (hba.mono HB2.out.size))
          have HKA := Lib.hid (HKN.out.below hba)
          have HV : Hid (Reps (Kept (TreeAt f) (tb + 1) (w2.alloc (.cells #[.string ts, .int .i64 ti, .int .i64 tr, .int .i64 tm, .slice q1 n1 c1] 58)) (Value.slice p k d).ownBlock) vs (kidsUp (mkT f) (n :: r) k).1) := Lib.hid (HV2.out.mono fun v x h => h.below hba)
          clear hba HKN HV2 EX2 EY2 HO2 HB2
          generalize w2.heap.size = xb at ZX ⊢
          generalize w2.alloc (.cells #[.string ts, .int .i64 ti, .int .i64 tr, .int .i64 tm, .slice q1 n1 c1] 58) = w3 at ZX EX EY HO HB HKA HV ⊢
          have y4 := ent_cell EY.out 4 (.slice p k d) rfl
          have z0 := ent_cell ZX.out 0 _ rfl
          have z1 := ent_cell ZX.out 1 _ rfl
          have z2 := ent_cell ZX.out 2 _ rfl
          have z3 := ent_cell ZX.out 3 _ rfl
          have z4 := ent_cell ZX.out 4 _ rfl
          have hM4 := HM4.out
          go_wp2_with (at_builtin; refine wpList_append_loc _ rfl (.tmp 56) (.tmp 58) 56 rfl (tb + 1) 58 i0 _ 5 64 Tryz.underlying56 I.out I0.out I1.out I2.out rfl (by decide) _ k _ rfl (HO.out.alloc _) ⟨w3.heap.size, 0, none⟩ 1 1 [.string ts, .int .i64 ti, .int .i64 tr, .int .i64 tm, .slice q1 n1 c1] rfl (by decide) rfl ?c1 ?c2 ?c3 ?c4 ?c5 ?_)
          case c1 => exact fun j u h => newCells w3 [.string ts, .int .i64 ti, .int .i64 tr, .int .i64 tm, .slice q1 n1 c1] _ j u h
          case c2 => simp [Value.oneCell']
          case c3 => unfold maxLen; omega
          case c4 => omega
          case c5 => have := ent_lt EY.out; simp; omega
          intro v' w' h1 h2 h3
          have hty := ent_lt EY.out
          have hby : Below w3.heap.size w3 (w3.alloc (.cells #[.string ts, .int .i64 ti, .int .i64 tr, .int .i64 tm, .slice q1 n1 c1] 58)) := (Below.refl _ _).alloc (Nat.le_refl _) _
          have hbw : Below w.heap.size w w' := (HB.out.trans (hby.mono HB.out.size)).grown h2 (by have := HB.out.size; simp; omega) (fun j hj => by have := (own_ent HO.out hj).1; omega)
          have hey : w'.heap[tb]? = some (.cells #[.string ⟨n.name.toArray⟩, .int .i64 n.int, .int .i64 n.re, .int .i64 n.im, .slice p k d] 58 (0, 0)) :=
            (h2.block tb (by simp; omega) (fun e => by have := (own_ent HO.out e.symm).1; omega)).trans (ent_below EY.out hby)
          have hex : w'.heap[w.heap.size]? = some (.cells #[.string ⟨#[]⟩, .int .i64 0, .int .i64 0, .int .i64 0, .slice none 0 0] 58 (0, 0)) :=
            (h2.block w.heap.size (by simp; omega) (fun e => by have := (own_ent HO.out e.symm).1; omega)).trans (ent_below EX.out hby)
          have hkall : ∀ {v : Value} {x : Tr}, Kept (TreeAt f) (tb + 1) w3 (Value.slice p k d).ownBlock v x → Kept (TreeAt f) (tb + 1) w' v'.ownBlock v x := fun h =>
            (h.below hby).step h2.size (fun b hb hne => h2.block b hb (fun e => hne e.symm)) (h3.imp id fun h g hg => by have := h g hg; simp; omega)
          obtain ⟨p7, d7, rfl⟩ := own_sl h1
          have hne : (Value.slice p7 (k + 1) d7).ownBlock ≠ some tb := fun e => by have := (own_ent h1 e).1; omega
          have hkset : ∀ {v : Value} {x : Tr}, Kept (TreeAt f) (tb + 1) w' (Value.slice p7 (k + 1) d7).ownBlock v x → Kept (TreeAt f) (tb + 1) (w'.setCell ⟨tb, 4, none⟩ (.slice p7 (k + 1) d7)) (Value.slice p7 (k + 1) d7).ownBlock v x := fun h =>
            h.since (by simp [World.setCell]) (fun b hb _ _ => Below.heap_setCell w' ⟨tb, 4, none⟩ (.slice p7 (k + 1) d7) b (by dsimp only; omega)) (.inl rfl)
          have hkk : (kidsUp (mkT f) (n :: r) (k + 1)).1 = (kidsUp (mkT f) (n :: r) k).1 ++ [(mkT f ((n :: r).drop a)).1] := by rw [kidsUp, ← HA.out]
          have HVn := Lib.hid (Reps.snoc (hkset (hkall HKA.out)) (HV.out.mono fun v x h => hkset (hkall h)))
          rw [← hkk] at HVn
          clear hkk
          have HEX := Lib.hid (ent_other hex tb 4 (.slice p7 (k + 1) d7) (by omega))
          have HEY := Lib.hid (show (w'.setCell ⟨tb, 4, none⟩ (.slice p7 (k + 1) d7)).heap[tb]? = some (.cells #[.string ⟨n.name.toArray⟩, .int .i64 n.int, .int .i64 n.re, .int .i64 n.im, .slice p7 (k + 1) d7] 58 (0, 0)) from ent_set hey 4 _)
          have HO2 : Hid ((w'.setCell ⟨tb, 4, none⟩ (.slice p7 (k + 1) d7)).ownsRow (tb + 1) 58 5 (.slice p7 (k + 1) d7) (k + 1) (cellsOf (vs ++ [.agg #[.string ts, .int .i64 ti, .int .i64 tr, .int .i64 tm, .slice q1 n1 c1]]))) := Lib.hid (by
            rw [show cellsOf (vs ++ [.agg #[.string ts, .int .i64 ti, .int .i64 tr, .int .i64 tm, .slice q1 n1 c1]]) = cellsOf vs ++ [.string ts, .int .i64 ti, .int .i64 tr, .int .i64 tm, .slice q1 n1 c1] by simp [cellsOf, Value.cells]]
            exact h1.kept (row := some tb) ⟨rfl, rfl, rfl, by simp [World.setCell], fun j _ hj => Below.heap_setCell w' ⟨tb, 4, none⟩ (.slice p7 (k + 1) d7) j (fun e => hj (congrArg some e.symm).symm)⟩ (Or.inr hne))
          have HBn := Lib.hid (hbw.setCell (p := ⟨tb, 4, none⟩) (by dsimp only; omega) (.slice p7 (k + 1) d7))
          have HCn : Hid (∀ v ∈ vs ++ [.agg #[.string ts, .int .i64 ti, .int .i64 tr, .int .i64 tm, .slice q1 n1 c1]], v.cells.size = 5) := Lib.hid (by
            intro v hv
            rcases List.mem_append.1 hv with h | h
            · exact HC.out v h
            · rw [List.mem_singleton.1 h]; rfl)
          have y4b := ent_cell hey 4 (.slice p k d) rfl
          have yfb := ent_free hey 4
          have hac3 := HCB.out
          clear h1 h2 h3 hbw hex hey hne y4 z0 z1 z2 z3 z4 hby hkall hkset ZX HKA HV EX EY HO HB
          go_wp2_with fail
          clear y4b yfb
          exact ⟨⟨k + 1, a + ct, p7, d7, vs ++ [.agg #[.string ts, .int .i64 ti, .int .i64 tr, .int .i64 tm, .slice q1 n1 c1]], by go_num, by omega, by go_num, Lib.hid (by rw [kidsUp, ← HA.out, ← HCT.out]), HEX, HEY, HO2, HVn, HCn, HBn⟩, by simp [intOf]; omega⟩
      · obtain rfl : k = M := by omega
        have htot : R = (.mk n.name n.int n.re n.im (kidsUp (mkT f) (n :: r) k).1, a) := by
          obtain ⟨f', rfl⟩ : ∃ f', f = f' + 1 := ⟨f - 1, by omega⟩
          rw [HR.out, mkT_cons, ← HM.out, ← HA.out]
        have m3 : min (a : Int) (N : Int) = (a : Int) := by omega
        have hty := ent_lt EY.out
        have hlw : w.heap.size < tb + 1 := by omega
        have y0 := ent_cell EY.out 0 _ rfl
        have y1 := ent_cell EY.out 1 _ rfl
        have y2 := ent_cell EY.out 2 _ rfl
        have y3 := ent_cell EY.out 3 _ rfl
        have y4 := ent_cell EY.out 4 (.slice p k d) rfl
        have ec0 := ent_cell EX.out 0 _ rfl
        have ec1 := ent_cell EX.out 1 _ rfl
        have ec2 := ent_cell EX.out 2 _ rfl
        have ec3 := ent_cell EX.out 3 _ rfl
        have ec4 := ent_cell EX.out 4 _ rfl
        have efree := ent_free EX.out
        go_wp2_with fail
        have E5 := ent_set5 EX.out (.string ⟨n.name.toArray⟩) (.int .i64 n.int) (.int .i64 n.re) (.int .i64 n.im) (.slice p k d)
        have r0 := ent_cell E5 0 _ rfl
        have r1 := ent_cell E5 1 _ rfl
        have r2 := ent_cell E5 2 _ rfl
        have r3 := ent_cell E5 3 _ rfl
        have r4 := ent_cell E5 4 (.slice p k d) rfl
        have hb := (((((HB.out.setCell (p := ⟨w.heap.size, 0, none⟩) (Nat.le_refl _) (.string ⟨n.name.toArray⟩)).setCell (p := ⟨w.heap.size, 1, none⟩) (Nat.le_refl _) (.int .i64 n.int)).setCell (p := ⟨w.heap.size, 2, none⟩) (Nat.le_refl _) (.int .i64 n.re)).setCell (p := ⟨w.heap.size, 3, none⟩) (Nat.le_refl _) (.int .i64 n.im)).setCell (p := ⟨w.heap.size, 4, none⟩) (Nat.le_refl _) (.slice p k d))
        refine bodyPost_ret (v := .tuple #[.agg #[.string ⟨n.name.toArray⟩, .int .i64 n.int, .int .i64 n.re, .int .i64 n.im, .slice p k d], .int .i64 a]) (by simp [results, Tryz.results18, go_sem, r0, r1, r2, r3, r4]) rfl ?_
        refine ⟨_, by rw [htot], ?_, hb⟩
        rw [htot]
        intro u hu
        refine ⟨_, rfl, HOK.out.1, HOK.out.2.1, HOK.out.2.2.1, row_lo HO.out (kids_len _ _ _).symm HV.out HC.out u fun b hb1 hb2 => ?_⟩
        have e1 := hu b (by omega) (by simpa [World.setCell] using hb2)
        refine e1.trans ?_
        simp only [Below.heap_setCell _ ⟨w.heap.size, _, none⟩ _ b (show b ≠ w.heap.size by omega)]
end Sw
end Go.Proofs.YtnhndamfbeiljaaGreatDoor

namespace Go.Proofs.YtnhndamfbeiljaaGreatDoor
open Go Go.RowKit
set_option linter.unusedVariables false
set_option linter.unusedSimpArgs false
namespace Sw

theorem mkT_small (l : List Nod) (h : ∀ n ∈ l, NodOk n ∧ n.name.length ≤ 20) (hl : l.length ≤ 60) : (shTr 32 (mkT 32 l).1).length ≤ 5000 := by
  have h1 := mkT_sz 32 l h
  have h2 := mkT_le 32 l
  omega
theorem tree5 {w : World} {v : Value} {t : Tr} {f : Nat} (h : TreeAt (f + 1) w v t) : ∃ s a b c d, v = .agg #[s, a, b, c, d] := by
  obtain ⟨nm, i, re, im, args⟩ := t
  obtain ⟨av, rfl, _⟩ := h
  exact ⟨_, _, _, _, _, rfl⟩

set_option maxHeartbeats 2000000 in
set_option maxRecDepth 100000 in
theorem showTrees_walk (w : World) (htab : Lib.TabIs Tryz.prog w "internal/strconv.uint64pow10" .u64 Lib.pow10Tab) (v : Value) (l : List Nod) (hr : RowAt 5 NodV w v l) (hlen : l.length ≤ 100000000000000) :
    Calls Tryz.prog 5 #[v] w fun e w' => e = .returned (.bool true) ∧ Below w.heap.size w w' := by
  obtain ⟨q, c, rfl⟩ := hr.len
  have HR := Lib.hid hr
  have HTAB := Lib.hid htab
  have HTB := Lib.hid (fun (w' : World) (h : Below w.heap.size w w') => (Lib.tabBelow_of_tabIs htab) w' h)
  clear hr htab
  go_enter Tryz.func5, Tryz.ntmps5
  go_wp2_with fail
  refine (lives_any _ HTAB.out).mono ?_
  rintro e w1 ⟨rfl, hb1⟩
  have HB1 := Lib.hid hb1
  clear hb1
  by_cases c1 : 60 < l.length
  · have f1 : decide ((60 : Int) < (l.length : Int)) = true := by simp; omega
    clear c1
    go_wp2_with fail
    refine (lives_any _ (HTB.out _ HB1.out)).mono ?_
    rintro e w2 ⟨rfl, hb2⟩
    go_wp2_with fail
    go_ret
    exact ⟨rfl, HB1.out.trans (hb2.mono HB1.out.size)⟩
  have f1 : decide ((60 : Int) < (l.length : Int)) = false := by simp; omega
  have C1 := Lib.hid c1
  clear c1
  go_wp2_with fail
  clear f1
  go_loopw [16] (fun i wr => ∃ k : Nat, i = .int .i64 k ∧ k ≤ l.length ∧ Hid (∀ n ∈ l.take k, n.name.length ≤ 20) ∧ Hid (Below w.heap.size w wr)) (fun i _ => l.length - (intOf i).toNat)
  case atStart => exact ⟨0, rfl, Nat.zero_le _, Lib.hid (by simp), HB1⟩
  case round =>
    clear HB1
    obtain ⟨k, rfl, hk, HS, HB⟩ := hrel
    by_cases hlt : k < l.length
    · obtain ⟨n, hn⟩ : ∃ n, l[k]? = some n := ⟨_, List.getElem?_eq_getElem hlt⟩
      rcases HR.out with ⟨h0, _⟩ | ⟨g, o, c', hv, e1, e2, e3⟩
      · rw [h0] at hlt; simp at hlt
      injection hv with q1 _ q2
      subst q1; subst q2
      obtain ⟨u, ⟨rfl, hok⟩, _, hc⟩ := e3 k n hn
      have hc0 := hc 0 _ rfl
      have x0 : wr.cell? ⟨g, o + k * 5, none⟩ = some (.string ⟨n.name.toArray⟩) := (HB.out.cell (World.block_lt_of_cell? w _ hc0)).trans hc0
      have k1 : (k : Int) < (l.length : Int) := by omega
      have k2 : (l.length : Int) ≤ (c : Int) := by omega
      have k3 := e2
      by_cases c2 : 20 < n.name.length
      · have f2 : decide ((20 : Int) < (n.name.length : Int)) = true := by simp; omega
        clear c2 hc hc0 e1 e2 e3
        go_wp2_with fail
        go_ret
        exact ⟨rfl, HB.out⟩
      · have f2 : decide ((20 : Int) < (n.name.length : Int)) = false := by simp; omega
        have HS2 : Hid (∀ m ∈ l.take (k + 1), m.name.length ≤ 20) := Lib.hid (by
          rw [List.take_add_one, hn]
          intro m hm
          rcases List.mem_append.1 hm with h | h
          · exact HS.out m h
          · obtain rfl : m = n := by simpa using h
            omega)
        clear c2 hc hc0 e1 e2 e3 hn
        go_wp2_with fail
        exact ⟨⟨k + 1, by go_num, by omega, HS2, HB⟩, by simp [intOf]; omega⟩
    · obtain rfl : k = l.length := by omega
      have hall : ∀ n ∈ l, NodOk n ∧ n.name.length ≤ 20 := by
        intro n hn
        obtain ⟨i, hi⟩ := List.getElem?_of_mem hn
        refine ⟨?_, HS.out n (by rw [List.take_length]; exact hn)⟩
        rcases HR.out with ⟨h0, _⟩ | ⟨g, o, c', hv, e1, e2, e3⟩
        · rw [h0] at hn; cases hn
        · obtain ⟨u, hu, _⟩ := e3 i n hi
          exact hu.2
      have HSM := Lib.hid (mkT_small l hall (by have := C1.out; omega))
      clear hall HS
      have hrow : RowAt 5 NodV wr (.slice q l.length c) l := HR.out.mono HB.out (fun _ _ _ h => h)
      have hlt0 : ¬ ((l.length : Int) < (l.length : Int)) := by omega
      go_wp2_with fail
      refine (lawTree_any 32 l _ wr (by decide) (by decide) hrow (by have := C1.out; omega)).mono ?_
      rintro e w2 ⟨tv, rfl, hnew, hb2⟩
      have HB2 := Lib.hid (HB.out.trans (hb2.mono HB.out.size))
      have ht2 := hnew.now
      obtain ⟨zs, zi, zr, zm, zq, zn, zc, rfl⟩ := treeAt_form 32 _ _ _ ht2
      have HT := Lib.hid ht2
      clear hnew hb2 HB ht2
      generalize hX : (mkT 32 l).1 = X at HT HSM
      clear hX
      generalize ((mkT 32 l).2 : Int) = M
      go_upto_region 10 with fail
      have EX := Lib.hid (ent_new w2 #[.string zs, .int .i64 zi, .int .i64 zr, .int .i64 zm, .slice zq zn zc] 58)
      have hbx : Below w2.heap.size w2 (w2.alloc (.cells #[.string zs, .int .i64 zi, .int .i64 zr, .int .i64 zm, .slice zq zn zc] 58)) := (Below.refl _ _).alloc (Nat.le_refl _) _
      have HT3 := Lib.hid (treeK HT.out hbx)
      have HB3 := Lib.hid (HB2.out.trans (hbx.mono HB2.out.size))
      clear hbx HT HB2
      generalize hw2s : w2.heap.size = tb at *
      generalize w2.alloc (.cells #[.string zs, .int .i64 zi, .int .i64 zr, .int .i64 zm, .slice zq zn zc] 58) = w3 at *
      clear hw2s
      refine wp_region_held_drew (S := fun (u : World) => Below w3.heap.size w3 u) (by kernel_rfl) (show Below w3.heap.size w3 w3.drew from (Below.refl _ _).drew) (fun hHeld => ?_)
      have x0 := ent_cell EX.out 0 _ rfl
      have x1 := ent_cell EX.out 1 _ rfl
      have x2 := ent_cell EX.out 2 _ rfl
      have x3 := ent_cell EX.out 3 _ rfl
      have x4 := ent_cell EX.out 4 _ rfl
      refine wpAnyH_take (i := 0) (v := .agg #[.string zs, .int .i64 zi, .int .i64 zr, .int .i64 zm, .slice zq zn zc]) rfl (by kernel_rfl) (by kernel_rfl) (by kernel_rfl) (fun _ _ _ h => h) (Or.inl ⟨by rfl, fun w' hSw => by have hq : Below w3.heap.size w3 w' := hSw; have z0 := (hq.cell (World.block_lt_of_cell? w3 _ x0)).trans x0; have z1 := (hq.cell (World.block_lt_of_cell? w3 _ x1)).trans x1; have z2 := (hq.cell (World.block_lt_of_cell? w3 _ x2)).trans x2; have z3 := (hq.cell (World.block_lt_of_cell? w3 _ x3)).trans x3; have z4 := (hq.cell (World.block_lt_of_cell? w3 _ x4)).trans x4; clear x0 x1 x2 x3 x4; go_simp⟩) hHeld ?_
      refine wpAnyH_take (i := 2) (v := .agg #[.string zs, .int .i64 zi, .int .i64 zr, .int .i64 zm, .slice zq zn zc]) rfl (by kernel_rfl) (by kernel_rfl) (by kernel_rfl) (fun _ _ _ h => h) (Or.inl ⟨by rfl, fun w' hSw => by have hq : Below w3.heap.size w3 w' := hSw; have z0 := (hq.cell (World.block_lt_of_cell? w3 _ x0)).trans x0; have z1 := (hq.cell (World.block_lt_of_cell? w3 _ x1)).trans x1; have z2 := (hq.cell (World.block_lt_of_cell? w3 _ x2)).trans x2; have z3 := (hq.cell (World.block_lt_of_cell? w3 _ x3)).trans x3; have z4 := (hq.cell (World.block_lt_of_cell? w3 _ x4)).trans x4; clear x0 x1 x2 x3 x4; go_simp⟩) hHeld ?_
      clear x0 x1 x2 x3 x4
      simp only [Act.put, List.setIfInBounds_toArray, List.set_cons_zero, List.set_cons_succ]
      have hd : Below w3.heap.size w3 w3.drew := (Below.refl _ _).drew
      have HD := Lib.hid hd
      clear hd
      generalize w3.drew = w4 at HD hHeld ⊢
      refine wpAnyH_ready (rs := [1]) (by kernel_rfl) (by simp) ?_
      refine AllReadyH.cons rfl (fun K hK => ?_) AllReadyH.nil
      go_simp
      refine (showTree2 32 w4 (HTB.out _ (HB3.out.trans (HD.out.mono HB3.out.size))) _ _ (treeK HT3.out HD.out) (shTr 32 X) (run_tree 32 X) (by have := HSM.out; omega)).mono ?_
      rintro e w5 ⟨rfl, hb5⟩
      have HD5 := Lib.hid (HD.out.trans (hb5.mono HD.out.size))
      clear hb5
      refine hK.out _ _ HD5.out (fun hHeld => ?_); clear hK K
      refine wpAnyH_ready (rs := [3]) (by kernel_rfl) (by simp) ?_
      refine AllReadyH.cons rfl (fun K hK => ?_) AllReadyH.nil
      go_simp
      refine (refTree_any 32 _ X w5 (treeK HT3.out HD5.out) (by have := HSM.out; omega) (HTB.out _ (HB3.out.trans (HD5.out.mono HB3.out.size)))).mono ?_
      rintro e w6 ⟨rfl, hb6⟩
      have HD6 := Lib.hid (HD5.out.trans (hb6.mono HD5.out.size))
      clear hb6
      refine hK.out _ _ HD6.out (fun hHeld => ?_); clear hK K
      generalize shTr 32 X = TX at *
      refine wpAnyH_ready (rs := [4]) (by kernel_rfl) (by simp) ?_
      refine AllReadyH.cons rfl (fun K hK => ?_) AllReadyH.nil
      go_simp
      refine hK.out _ _ HD6.out (fun hHeld => ?_); clear hK K
      refine wpAnyH_ready (rs := [5]) (by kernel_rfl) (by simp) ?_
      refine AllReadyH.cons rfl (fun K hK => ?_) AllReadyH.nil
      go_simp
      refine hK.out _ _ HD6.out (fun hHeld => ?_); clear hK K
      refine wpAnyH_done (by kernel_rfl) ?_ _
      go_wp2_with fail
      go_ret
      exact ⟨rfl, HB3.out.trans (HD6.out.mono HB3.out.size)⟩
end Sw
end Go.Proofs.YtnhndamfbeiljaaGreatDoor

namespace Go.Proofs.YtnhndamfbeiljaaGreatDoor
open Go Go.RowKit Go.ChangeShapes Go.WideShapes
set_option linter.unusedVariables false
set_option linter.unusedSimpArgs false
namespace Sw

theorem cell_at {cs : List Value} {i : Nat} {u : Value} (h : (cs.drop i).take 1 = [u]) : cs[i]? = some u := by
  have : ((cs.drop i).take 1)[0]? = some u := by rw [h]; rfl
  rw [List.getElem?_take, List.getElem?_drop] at this
  simpa using this

theorem open_node {H : Type} {enc : TypeId × Value → H} {w : World} {base n : Nat} {sp : Nat → Bool} {held : Bool} {cs : List Value} {y : DataW H × List MemPlace}
    (h : DataW.trod enc Tryz.prog w base sp held n 55 cs = some y) :
    ∃ x : Nod, cs = [.string ⟨x.name.toArray⟩, .int .i64 x.int, .int .i64 x.re, .int .i64 x.im, .int .u8 (x.fields : Nat)] ∧ NodOk x := by
  obtain ⟨xs, m, _, _, hl, hx, hf⟩ := DataW.trod_struct Tryz.underlying55 h
  have hl5 : cs.length = 5 := hl.trans (by kernel_rfl)
  have get : ∀ i, i < 5 → ∃ z, xs[i]? = some z := fun i hi => ⟨_, List.getElem?_eq_getElem (by rw [hx]; exact hi)⟩
  obtain ⟨z0, e0⟩ := get 0 (by omega)
  obtain ⟨z1, e1⟩ := get 1 (by omega)
  obtain ⟨z2, e2⟩ := get 2 (by omega)
  obtain ⟨z3, e3⟩ := get 3 (by omega)
  obtain ⟨z4, e4⟩ := get 4 (by omega)
  have ks : Tryz.prog.cellsOf 9 = 1 := by kernel_rfl
  have ki : Tryz.prog.cellsOf 2 = 1 := by kernel_rfl
  have ku : Tryz.prog.cellsOf 5 = 1 := by kernel_rfl
  have g0 : DataW.trod enc Tryz.prog w base sp held m 9 ((cs.drop 0).take (Tryz.prog.cellsOf 9)) = some z0 := (hf 0 _ rfl).trans e0
  rw [ks] at g0
  have g1 : DataW.trod enc Tryz.prog w base sp held m 2 ((cs.drop 1).take (Tryz.prog.cellsOf 2)) = some z1 := (hf 1 _ rfl).trans e1
  rw [ki] at g1
  have g2 : DataW.trod enc Tryz.prog w base sp held m 2 ((cs.drop 2).take (Tryz.prog.cellsOf 2)) = some z2 := (hf 2 _ rfl).trans e2
  rw [ki] at g2
  have g3 : DataW.trod enc Tryz.prog w base sp held m 2 ((cs.drop 3).take (Tryz.prog.cellsOf 2)) = some z3 := (hf 3 _ rfl).trans e3
  rw [ki] at g3
  have g4 : DataW.trod enc Tryz.prog w base sp held m 5 ((cs.drop 4).take (Tryz.prog.cellsOf 5)) = some z4 := (hf 4 _ rfl).trans e4
  rw [ku] at g4
  obtain ⟨s, c0, _, _⟩ := DataW.trod_string Tryz.underlying9 g0
  obtain ⟨a, c1, _, w1⟩ := DataW.trod_int Tryz.underlying2 g1
  obtain ⟨b, c2, _, w2⟩ := DataW.trod_int Tryz.underlying2 g2
  obtain ⟨c, c3, _, w3⟩ := DataW.trod_int Tryz.underlying2 g3
  obtain ⟨d, c4, _, w4⟩ := DataW.trod_int Tryz.underlying5 g4
  have d0 : cs[0]? = some (.string s) := cell_at c0
  have d1 : cs[1]? = some (.int .i64 a) := cell_at c1
  have d2 : cs[2]? = some (.int .i64 b) := cell_at c2
  have d3 : cs[3]? = some (.int .i64 c) := cell_at c3
  have d4 : cs[4]? = some (.int .u8 d) := cell_at c4
  have b4 := bounds_u8 w4
  clear hf hx e0 e1 e2 e3 e4 g0 g1 g2 g3 g4 c0 c1 c2 c3 c4 h
  obtain ⟨q0, q1, q2, q3, q4, rfl⟩ : ∃ q0 q1 q2 q3 q4, cs = [q0, q1, q2, q3, q4] := by
    rcases cs with _ | ⟨q0, _ | ⟨q1, _ | ⟨q2, _ | ⟨q3, _ | ⟨q4, _ | ⟨q5, r⟩⟩⟩⟩⟩⟩ <;> simp at hl5
    exact ⟨q0, q1, q2, q3, q4, rfl⟩
  · 
    simp only [List.getElem?_cons_zero, List.getElem?_cons_succ, Option.some.injEq] at d0 d1 d2 d3 d4
    subst d0 d1 d2 d3 d4
    refine ⟨⟨s.data.toList, a, b, c, d.toNat⟩, ?_, bounds_i64 w1, bounds_i64 w2, bounds_i64 w3, by show d.toNat < 256; omega⟩
    have hs : (⟨s.data.toList.toArray⟩ : ByteArray) = s := by cases s; simp
    have hd : ((d.toNat : Nat) : Int) = d := by omega
    simp only [hs, hd]

theorem pick_row {α : Type} [Inhabited α] (n : Nat) (Q : Nat → α → Prop) (h : ∀ i, i < n → ∃ x, Q i x) : ∃ l : List α, l.length = n ∧ ∀ i x, l[i]? = some x → Q i x := by
  induction n with
  | zero => exact ⟨[], rfl, fun i x hx => by simp at hx⟩
  | succ n ih =>
    obtain ⟨l, hl, hq⟩ := ih fun i hi => h i (by omega)
    obtain ⟨x, hx⟩ := h n (by omega)
    refine ⟨l ++ [x], by simp [hl], fun i y hy => ?_⟩
    by_cases hi : i < n
    · rw [List.getElem?_append_left (by omega)] at hy; exact hq i y hy
    · have hin : i = n := by
        have := (List.getElem?_eq_some_iff.1 hy).1
        simp at this; omega
      subst hin
      rw [List.getElem?_append_right (by omega), hl] at hy
      simp at hy; subst hy; exact hx

instance : Inhabited Nod := ⟨⟨[], 0, 0, 0, 0⟩⟩

theorem open_nodes {H : Type} {enc : TypeId × Value → H} {W : World} {a0 : Option Addr} {len0 cap0 : Nat} {d0 : DataW H} {p0 : List MemPlace} {ts : List TypeId} {ds : List (DataW H)}
    (h : DataW.Trod enc Tryz.prog W 0 (fun _ => true) true 53 (.slice a0 len0 cap0) d0 p0) (hreach : (DataW.weightsEach Tryz.prog (53 :: ts) (d0 :: ds)).all (· ≤ reachBytes) = true) :
    ∃ l : List Nod, RowAt 5 NodV W (.slice a0 len0 cap0) l ∧ l.length ≤ 100000000000000 := by
  obtain ⟨fuel, hf⟩ := h
  rcases Deep.open_slice Tryz.underlying53 hf with ⟨hcs, _⟩ | ⟨a, len, cap, m, n, D, Pl, hcs, _, hl, hm, hmm, hx, hall⟩
  · simp [Value.cells] at hcs
    obtain ⟨rfl, rfl, rfl⟩ := hcs
    exact ⟨[], .inl ⟨rfl, none, 0, rfl⟩, by simp⟩
  · simp [Value.cells] at hcs
    obtain ⟨rfl, rfl, rfl⟩ := hcs
    simp only [if_true] at hmm
    subst hmm
    simp only [Prod.mk.injEq] at hx
    have hd : d0 = _ := hx.1
    have hcap : m ≤ 100000000000000 := by
      have this := sized_slice hreach (j := 0) (t := 53) (e := 55) rfl (by rw [hd]; rfl) Tryz.underlying53
      rw [show Tryz.prog.bytesOf 55 = 48 by kernel_rfl] at this
      simp only [List.length_map, List.length_range, reachBytes] at this
      omega
    rw [show Tryz.prog.cellsOf 55 = 5 by kernel_rfl] at hall
    obtain ⟨l, hll, hlq⟩ := pick_row len0 (fun i (x : Nod) => NodOk x ∧ ∀ j z, ([.string ⟨x.name.toArray⟩, .int .i64 x.int, .int .i64 x.re, .int .i64 x.im, .int .u8 (x.fields : Nat)] : List Value)[j]? = some z → W.cell? (a.add (i * 5 + j)) = some z) (fun i hi => by
      obtain ⟨cs', hc, ht⟩ := hall i (by omega)
      obtain ⟨x, rfl, hok⟩ := open_node ht
      refine ⟨x, hok, fun j z hz => ?_⟩
      obtain ⟨_, hlen, hcell⟩ := World.cells?_some hc
      have hj : j < 5 := by have := (List.getElem?_eq_some_iff.1 hz).1; simpa using this
      have := hcell j hj
      rw [hz] at this
      rw [Addr.add_add] at this
      exact this)
    by_cases h0 : len0 = 0
    · subst h0
      have : l = [] := List.length_eq_zero_iff.1 hll
      subst this
      exact ⟨[], .inl ⟨rfl, some a, m, rfl⟩, by simp⟩
    · obtain ⟨x, hx0⟩ : ∃ x, l[0]? = some x := ⟨_, List.getElem?_eq_getElem (by omega)⟩
      have hc0 := (hlq 0 x hx0).2 0 _ rfl
      obtain ⟨b, o, spot⟩ := a
      have hspot : spot = none := by simpa [Addr.add] using World.cell?_spot hc0
      subst hspot
      refine ⟨l, .inr ⟨b, o, m, by rw [hll], by omega, by omega, fun i y hy => ⟨_, ⟨rfl, (hlq i y hy).1⟩, rfl, fun j z hz => ?_⟩⟩, by omega⟩
      have hz' : ([.string ⟨y.name.toArray⟩, .int .i64 y.int, .int .i64 y.re, .int .i64 y.im, .int .u8 (y.fields : Nat)] : List Value)[j]? = some z := by simpa [Value.cells] using hz
      have := (hlq i y hy).2 j z hz'
      have e : ((⟨b, o, none⟩ : Addr).add (i * 5 + j)) = ⟨b, o + i * 5 + j, none⟩ := by simp [Addr.add, Nat.add_assoc]
      rw [e] at this
      exact this

theorem showTrees_row (w : World) (a0 : Option Addr) (len0 cap0 : Nat) (l : List Nod) (hr : RowAt 5 NodV w (.slice a0 len0 cap0) l) (hl : l.length ≤ 100000000000000) (hL : laidMetH Tryz.prog laidList w) :
    Calls Tryz.prog 5 #[.slice a0 len0 cap0] w fun e w' => e = .returned (.bool true) ∧ Below w.heap.size w w' :=
  showTrees_walk w (pow_tableW hL) _ l hr hl
end Sw
end Go.Proofs.YtnhndamfbeiljaaGreatDoor
