/-
  Several texts in one: PShT, PShPure, PWhole, PShSim.
-/
import Derived.Test.YtnhndamfbeiljaaGreatDoorT00
import Derived.Test.YtnhndamfbeiljaaGreatDoorT16
import Derived.StillTailTactics
import Derived.BigRegion
import Derived.Test.YtnhndamfbeiljaaGreatDoorT02
set_option linter.unusedVariables false
set_option linter.unusedSimpArgs false
set_option maxHeartbeats 4000000
set_option maxRecDepth 100000
namespace Go.Proofs.YtnhndamfbeiljaaGreatDoor
open Go Go.RowKit
open Go.Lib (hid)
open List renaming getElem_toArray → jR, getElem_cons_succ → jR0, getElem_cons_zero → jR1, setIfInBounds_toArray → jR2, set_cons_zero → jR3, set_cons_succ → jR4
def jBB (l : List (List UInt8)) : List Value := l.map fun s => .string ⟨s.toArray⟩
theorem jDC (l : List (List UInt8)) (s : List UInt8) : jBB (l ++ [s]) = jBB l ++ [.string ⟨s.toArray⟩] := by simp [jBB]
theorem jH1 (l : List (List UInt8)) : (jBB l).length = l.length := by simp [jBB]
theorem jCI {w : World} {base : Nat} {v : Value} {l : List (List UInt8)} {n : Nat} (h : w.ownsRow base 9 1 v n (jBB l)) : jAI 1 (jEL w) w v l := by
 have hl : l.length = n := by have := h.1; simpa [jBB] using this
 subst hl
 rcases h.2 with ⟨rfl, hn⟩ | ⟨g, cap, cur, rfl, hb, hh, hn, hm, hsz, htk⟩
 . exact .inl ⟨List.eq_nil_of_length_eq_zero hn, none, 0, rfl⟩
 . refine .inr ⟨g, 0, cap, rfl, by omega, by unfold maxLen at hm; omega, fun i x hx => ⟨_, rfl, rfl, fun j z hz => ?_⟩⟩
   have hj : j = 0 := by
    have := (Array.getElem?_eq_some_iff.1 hz).1; simp [Value.cells] at this; exact this
   subst hj; have hz' : z = .string ⟨x.toArray⟩ := by simpa [Value.cells] using hz.symm
   subst hz'; have := World.ownsRow.cells h rfl i (.string ⟨x.toArray⟩) (by unfold jBB; rw [List.getElem?_map, hx]; rfl); have e : (⟨g, 0, none⟩ : Addr).add i = ⟨g, 0 + i * 1 + 0, none⟩ := by unfold Addr.add; split <;> simp_all
   rw [e] at this; exact this
theorem jCF (l : List (List UInt8)) : ∀ x ∈ l, x.length <= (glue l).length := by
 cases l with
 | nil => intro x h; cases h
 | cons a r =>
   intro x h; simp only [glue, List.length_append]
   rcases List.mem_cons.1 h with rfl | h
   . omega
   . have : ∀ r : List (List UInt8), x ∈ r -> x.length <= (r.flatMap fun y => 32 :: y).length := by
      intro r
      induction r with
      | nil => intro h; cases h
      | cons b r ih =>
        intro h; simp only [List.flatMap_cons, List.length_append, List.length_cons]
        rcases List.mem_cons.1 h with rfl | h
        . omega
        . have := ih h; omega
     have := this r h; omega
theorem jAX (l : List (List UInt8)) : (joined l).length = (glue l).length + 2 := by simp [joined]
theorem jDV (l : List (List UInt8)) : l.length <= (glue l).length + 1 := by
 cases l with
 | nil => simp
 | cons a r =>
   have : ∀ r : List (List UInt8), r.length <= (r.flatMap fun y => 32 :: y).length := by
    intro r
    induction r with
    | nil => simp
    | cons b r ih => simp only [List.flatMap_cons, List.length_append, List.length_cons]; omega
   have := this r; simp only [glue, List.length_append, List.length_cons]; omega
theorem jHD (f : Nat) (w : World) (v : Value) (x : Px.TypeE) (h : jCM f w v x) : ∃ (p : Int) (s : ByteArray) (q1 : Option Addr) (n1 c1 : Nat), v = .agg #[.int .i64 p, .string s, .slice q1 n1 c1] := by
 cases f with
 | zero => exact h.elim
 | succ f =>
   obtain ⟨p, nm, args⟩ := x; obtain ⟨av, rfl, h1⟩ := h; obtain ⟨q1, c1, rfl⟩ := h1.len; exact ⟨_, _, _, _, _, rfl⟩
theorem jFA : ∀ {f : Nat} {w w' : World} {v : Value} {t : Px.TypeE}, jCM f w v t -> Below w.heap.size w w' -> jCM f w' v t := by
 intro f
 induction f with
 | zero => intro w w' v t h; exact h.elim
 | succ f ih =>
   intro w w' v t h hb; obtain ⟨p, nm, args⟩ := t; obtain ⟨av, rfl, h1⟩ := h; exact ⟨av, rfl, h1.mono hb (fun u x _ hu => ih hu hb)⟩
theorem jFW : ∀ {f : Nat} {w w' : World} {v : Value} {t : Px.Pat}, jE f w v t -> Below w.heap.size w w' -> jE f w' v t := by
 intro f
 induction f with
 | zero => intro w w' v t h; exact h.elim
 | succ f ih =>
   intro w w' v t h hb; obtain ⟨k, p, nm, i, args⟩ := t; obtain ⟨av, rfl, h1⟩ := h; exact ⟨av, rfl, h1.mono hb (fun u x _ hu => ih hu hb)⟩
theorem jFI : ∀ {f : Nat} {w w' : World} {v : Value} {t : Px.Expr}, jB f w v t -> Below w.heap.size w w' -> jB f w' v t := by
 intro f
 induction f with
 | zero => intro w w' v t h; exact h.elim
 | succ f ih =>
   intro w w' v t h hb; obtain ⟨k, p, nm, i, ns, xs, al⟩ := t; obtain ⟨nv, xv, av, rfl, h1, h2, h3⟩ := h; refine ⟨nv, xv, av, rfl, h1.mono hb (fun u x _ hu => hu), h2.mono hb (fun u x _ hu => ih hu hb), h3.mono hb (fun u x _ hu => ?_)⟩; obtain ⟨a0, a1, a2, a3, a4, b0, b1, b2, b3, b4, b5, b6, e, ha, hx⟩ := hu; exact ⟨a0, a1, a2, a3, a4, b0, b1, b2, b3, b4, b5, b6, e, jFW ha hb, ih hx hb⟩
theorem jDI {w w' : World} {v : Value} {l : List (List UInt8)} (h : jAI 1 (jEL w) w v l) (hb : Below w.heap.size w w') : jAI 1 (jEL w') w' v l := h.mono hb (fun u x _ hu => hu)
theorem jFC (w : World) (s : List UInt8) (T : TypeId) (j : Nat) (u : Value) (h : ([.string ⟨s.toArray⟩] : List Value)[j]? = some u) :
 (w.alloc (.cells #[.string ⟨s.toArray⟩] T)).cell? ((⟨w.heap.size, 0, none⟩ : Addr).add j) = some u := jH7 w ⟨s.toArray⟩ T j u h
theorem jEH (s : List UInt8) : ∀ u ∈ ([.string ⟨s.toArray⟩] : List Value), u.oneCell' = true := by simp [Value.oneCell']
theorem jP0 (n : Int) (h0 : -9223372036854775808 <= n) (h1 : n <= 9223372036854775807) (w : World) (htab : Lib.TabIs Tryz.prog w "internal/strconv.uint64pow10" .u64 Lib.pow10Tab) :
 Calls Tryz.prog 35 #[.int .i64 n] w fun e w' => e = .returned (.string ⟨(Lib.itoa n).toArray⟩) /\ Below w.heap.size w w' := jNU n h0 h1 w htab
theorem jKV : ∀ (f : Nat) (v : Value) (t : Px.TypeE) (w : World), jCM f w v t -> (Px.showT f t).length <= 800000 ->
 Calls Tryz.prog 13 #[v] w fun e w' => e = .returned (.string ⟨(Px.showT f t).toArray⟩) /\ Below w.heap.size w w' := by
 intro f
 induction f with
 | zero => intro v t w h; exact h.elim
 | succ f ih =>
   intro v t w h hlen; obtain ⟨p, nm, args⟩ := t; obtain ⟨av, rfl, hargs⟩ := h; obtain ⟨q, c, rfl⟩ := hargs.len; obtain ⟨i0, hi, hz0, hz1, hz2⟩ := info_parts jG6; have HI1 := hid hz1; have HI2 := hid hz2; have HI0 := hid hz0; have HI := hid hi
   clear hi hz0 hz1 hz2; have HA := hid hargs; have IH := hid ih; obtain ⟨out, hout⟩ : ∃ out, out = Px.showT (f + 1) (.mk p nm args) := ⟨_, rfl⟩
   rw [<- hout] at hlen ⊢; have HOUT := hid hout; clear hargs ih hout; go_enter Tryz.func13, Tryz.ntmps13; by_cases he : args = []
   . subst he; have ho : out = nm := by rw [HOUT.out]; rfl
     subst ho; go_wp2_with fail; go_ret; exact ⟨rfl, (Below.refl _ _).alloc (Nat.le_refl _) _⟩
   . have hne : ¬ ((args.length : Int) = 0) := by have := List.length_pos_iff.2 he; omega
     have hb0 : ((args.length : Int) == 0) = false := by simpa using hne
     have ho : out = joined (nm :: args.map (Px.showT f)) := by rw [HOUT.out, Px.showT, if_neg he]
     go_wp2_with fail; have hg : (glue (nm :: args.map (Px.showT f))).length <= 799998 := by have := hlen; rw [ho, jAX] at this; omega
     have hcnt := jDV (nm :: args.map (Px.showT f)); have hpart : ∀ t ∈ args, (Px.showT f t).length <= 800000 := fun t ht => by have := jCF (nm :: args.map (Px.showT f)) (Px.showT f t) (List.mem_cons_of_mem _ (List.mem_map_of_mem ht)); omega
     have hal : args.length <= 800000 := by simp only [List.length_cons, List.length_map] at hcnt; omega
     have HG := hid hg; have HPART := hid hpart; have HO := hid ho
     clear hg hcnt hpart ho hlen; obtain ⟨g0, hg0⟩ : ∃ g0, g0 = w.heap.size + 1 := ⟨_, rfl⟩
     have hal1 : (w.alloc (.cells #[.int .i64 p, .string ⟨nm.toArray⟩, .slice q args.length c] 42)).heap.size = w.heap.size + 1 := by simp
     have hown := World.ownsRow_lit (base := w.heap.size + 1) (e := 9) (size := 1) (w.alloc (.cells #[.int .i64 p, .string ⟨nm.toArray⟩, .slice q args.length c] 42)) #[.string ⟨nm.toArray⟩] 1 (by rw [hal1]; exact Nat.le_refl _) (by unfold maxLen; omega) rfl; rw [hal1] at hown; have HOWN := hid hown; have HB0 := hid ((((Below.refl w.heap.size w).alloc (Nat.le_refl _) (.cells #[.int .i64 p, .string ⟨nm.toArray⟩, .slice q args.length c] 42)).alloc (by simp) (.cells #[.string ⟨nm.toArray⟩] 9))); have EN := hid (jA2 (jA3 w #[.int .i64 p, .string ⟨nm.toArray⟩, .slice q args.length c] 42) (.cells #[.string ⟨nm.toArray⟩] 9)); clear hown hal1 hg0
     go_loopw [3, 4] (fun lv i wr => ∃ k : Nat, i = .int .i64 k /\ k <= args.length /\ Hid (wr.ownsRow (w.heap.size + 1) 9 1 lv (k + 1) (jBB (nm :: (args.map (Px.showT f)).take k))) /\
      Hid (wr.heap[w.heap.size]? = some (.cells #[.int .i64 p, .string ⟨nm.toArray⟩, .slice q args.length c] 42 (0, 0))) /\ Hid (Below w.heap.size w wr)) (fun _ i _ => args.length - (intOf i).toNat)
     case atStart => exact ⟨0, rfl, Nat.zero_le _, HOWN, EN, HB0⟩
     case round =>
      clear HOWN EN HB0; obtain ⟨k, rfl, hk, HOWN, EN, HB⟩ := hrel; have ef := jA1 EN.out; have e1 := jA EN.out 1 _ rfl; have e2 := jA EN.out 2 _ rfl; by_cases hlt : k < args.length
      . obtain ⟨t, ht⟩ : ∃ t, args[k]? = some t := ⟨_, List.getElem?_eq_getElem hlt⟩
        rcases HA.out with ⟨h, _⟩ | ⟨g, o, c', hv, h1, h2, h3⟩
        . exact absurd h he
        injection hv with hq _ hc
        subst hq; subst hc
        obtain ⟨u, hu, hus, huc⟩ := h3 k t ht; obtain ⟨tp, ts, q1, n1, c1, rfl⟩ := jHD f _ _ _ hu; have c0 := huc 0 _ rfl; have c1' := huc 1 _ rfl; have c2 := huc 2 _ rfl
        replace c0 := (HB.out.cell (World.block_lt_of_cell? w _ c0)).trans c0; replace c1' := (HB.out.cell (World.block_lt_of_cell? w _ c1')).trans c1'; replace c2 := (HB.out.cell (World.block_lt_of_cell? w _ c2)).trans c2; rw [Nat.add_zero] at c0; have HU := hid (jFA hu HB.out); have HT := hid ht; have hpl := HPART.out t (List.mem_of_getElem? ht); clear h3 huc hu hus ht; go_wp2_with fail; refine (IH.out _ t _ HU.out hpl).mono ?_; rintro e w2 ⟨rfl, hb2⟩; have hown2 := jA5 HOWN.out hb2; have HOWN2 := hid hown2; have EN2 := hid (jA0 EN.out hb2); have HB2 := bT HB hb2; have hs2 := HB2.out.size; have hen := jA6 EN2.out; obtain ⟨S, hS⟩ : ∃ S, S = Px.showT f t := ⟨_, rfl⟩
        rw [<- hS]; have HS := hid hS; clear hb2 hown2 hS hpl; go_wp2_with (at_builtin; refine jAN _ rfl (.tmp 21) (.tmp 28) 33 rfl (w.heap.size + 1) 9 i0 (.string ⟨#[]⟩) 1 16 Tryz.underlying33 HI.out HI0.out HI1.out HI2.out rfl (by decide) _ (k + 1) _ rfl (HOWN2.out.alloc _) ⟨w2.heap.size, 0, none⟩ 1 1 [.string ⟨S.toArray⟩] rfl (by decide) rfl ?c1 ?c2 ?c3 ?c4 ?c5 ?_)
        case c1 => exact fun j u h => jFC w2 S _ j u h
        case c2 => exact jEH S
        case c3 => unfold maxLen; omega
        case c4 => omega
        case c5 => simp; omega
        intro v' w3 hown3 hgr hloc; have hB3 := (HB2.out.alloc hs2 (.cells #[.string ⟨S.toArray⟩] 9)).grown hgr (by simp; omega) (fun kk hkk => by have := (HOWN2.out.lt kk hkk).1; omega)
        have hEN3 : w3.heap[w.heap.size]? = some (.cells #[.int .i64 p, .string ⟨nm.toArray⟩, .slice (some ⟨g, o, none⟩) args.length c] 42 (0, 0)) :=
         (hgr.block _ (by simp; omega) (fun e => by have := (HOWN2.out.lt _ e.symm).1; omega)).trans (jA2 EN2.out _)
        have hl3 : jBB (nm :: (args.map (Px.showT f)).take k) ++ [.string ⟨S.toArray⟩] = jBB (nm :: (args.map (Px.showT f)).take (k + 1)) := by
         rw [<- jDC, List.take_add_one, List.getElem?_map, HT.out, HS.out]; simp
        rw [hl3] at hown3; have H1 := hid hown3; have H2 := hid hEN3; have H3 := hid hB3
        clear hown3 hEN3 hB3 hgr hloc hl3 e1 e2 ef c0 c1' c2; go_wp2
        go_roundw
        case rel => exact ⟨k + 1, by go_num, by omega, H1, H2, H3⟩
        case measure => simp [intOf]; omega
      . obtain rfl : k = args.length := by omega
        have hj := jBX _ _ wr (jCI HOWN.out) (by rw [show args.length = (args.map (Px.showT f)).length by simp, List.take_length]; exact Nat.le_trans HG.out (by omega)); rw [show (args.map (Px.showT f)).take args.length = args.map (Px.showT f) by rw [show args.length = (args.map (Px.showT f)).length by simp, List.take_length], <- HO.out] at hj; obtain ⟨p3, c3, rfl⟩ := jDX HOWN.out; have HJ := hid hj; clear hj; go_wp2_with fail; refine HJ.out.mono ?_; rintro e w2 ⟨rfl, rfl⟩; go_wp2_with fail; go_ret; exact ⟨rfl, HB.out⟩
def jH0 (i : Int) : Prop := -9223372036854775808 <= i /\ i <= 9223372036854775807
def OkP : Nat -> Px.Pat -> Prop
 | 0, _ => True
 | f + 1, .mk k _ _ i args => (k = 2 -> jH0 i) /\ ∀ a ∈ args, OkP f a
theorem jHH : ∀ (f : Nat) (v : Value) (t : Px.Pat) (w : World), jE f w v t -> OkP f t -> (Px.showP f t).length <= 800000 -> Lib.TabIs Tryz.prog w "internal/strconv.uint64pow10" .u64 Lib.pow10Tab ->
 Calls Tryz.prog 36 #[v] w fun e w' => e = .returned (.string ⟨(Px.showP f t).toArray⟩) /\ Below w.heap.size w w' := by
 intro f
 induction f with
 | zero => intro v t w h; exact h.elim
 | succ f ih =>
   intro v t w h hok hlen htab; obtain ⟨kd, p, nm, iv, args⟩ := t; obtain ⟨hki, hka⟩ := hok; have HKA := hid hka; have HTAB := hid htab
   clear hka htab; obtain ⟨av, rfl, hargs⟩ := h; obtain ⟨q, c, rfl⟩ := hargs.len; obtain ⟨i0, hi, hz0, hz1, hz2⟩ := info_parts jG6; have HI1 := hid hz1; have HI2 := hid hz2; have HI0 := hid hz0; have HI := hid hi
   clear hi hz0 hz1 hz2; have HA := hid hargs; have IH := hid ih; obtain ⟨out, hout⟩ : ∃ out, out = Px.showP (f + 1) (.mk kd p nm iv args) := ⟨_, rfl⟩
   rw [<- hout] at hlen ⊢; have HOUT := hid hout; clear hargs ih hout; go_enter Tryz.func36, Tryz.ntmps36; by_cases hk0 : kd = 0
   . subst hk0; have ho : out = [95] := by rw [HOUT.out]; rfl
     subst ho; go_wp2_with fail; go_ret; exact ⟨rfl, (Below.refl _ _).alloc (Nat.le_refl _) _⟩
   have hkb0 : ((kd : Int) == 0) = false := by simp; omega
   by_cases hk2 : kd = 2
   . subst hk2; have ho : out = Lib.itoa iv := by rw [HOUT.out]; rfl
     have hi2 := hki rfl; go_wp2_with fail; have hal : Below w.heap.size w (w.alloc (.cells #[.int .i64 2, .int .i64 p, .string ⟨nm.toArray⟩, .int .i64 iv, .slice q args.length c] 84)) := (Below.refl _ _).alloc (Nat.le_refl _) _; refine (jP0 iv hi2.1 hi2.2 _ ((Lib.tabBelow_of_tabIs HTAB.out) _ hal)).mono ?_; rintro e w2 ⟨rfl, hb2⟩; have HB2 := hid (hal.trans (hb2.mono hal.size)); go_wp2_with fail; go_ret; exact ⟨by rw [ho]; rfl, HB2.out⟩
   have hkb2 : ((kd : Int) == 2) = false := by simp; omega
   by_cases he : args = []
   . subst he; have ho : out = nm := by rw [HOUT.out, Px.showP, if_neg hk0, if_neg hk2, if_pos rfl]
     subst ho; go_wp2_with fail; go_ret; exact ⟨rfl, (Below.refl _ _).alloc (Nat.le_refl _) _⟩
   . have hne : ¬ ((args.length : Int) = 0) := by have := List.length_pos_iff.2 he; omega
     have hb0 : ((args.length : Int) == 0) = false := by simpa using hne
     have ho : out = joined (nm :: args.map (Px.showP f)) := by rw [HOUT.out, Px.showP, if_neg hk0, if_neg hk2, if_neg he]
     go_wp2_with fail; have hg : (glue (nm :: args.map (Px.showP f))).length <= 799998 := by have := hlen; rw [ho, jAX] at this; omega
     have hcnt := jDV (nm :: args.map (Px.showP f)); have hpart : ∀ t ∈ args, (Px.showP f t).length <= 800000 := fun t ht => by have := jCF (nm :: args.map (Px.showP f)) (Px.showP f t) (List.mem_cons_of_mem _ (List.mem_map_of_mem ht)); omega
     have hal : args.length <= 800000 := by simp only [List.length_cons, List.length_map] at hcnt; omega
     have HG := hid hg; have HPART := hid hpart; have HO := hid ho
     clear hg hcnt hpart ho hlen; obtain ⟨g0, hg0⟩ : ∃ g0, g0 = w.heap.size + 1 := ⟨_, rfl⟩
     have hal1 : (w.alloc (.cells #[.int .i64 kd, .int .i64 p, .string ⟨nm.toArray⟩, .int .i64 iv, .slice q args.length c] 84)).heap.size = w.heap.size + 1 := by simp
     have hown := World.ownsRow_lit (base := w.heap.size + 1) (e := 9) (size := 1) (w.alloc (.cells #[.int .i64 kd, .int .i64 p, .string ⟨nm.toArray⟩, .int .i64 iv, .slice q args.length c] 84)) #[.string ⟨nm.toArray⟩] 1 (by rw [hal1]; exact Nat.le_refl _) (by unfold maxLen; omega) rfl; rw [hal1] at hown; have HOWN := hid hown; have HB0 := hid ((((Below.refl w.heap.size w).alloc (Nat.le_refl _) (.cells #[.int .i64 kd, .int .i64 p, .string ⟨nm.toArray⟩, .int .i64 iv, .slice q args.length c] 84)).alloc (by simp) (.cells #[.string ⟨nm.toArray⟩] 9))); have EN := hid (jA2 (jA3 w #[.int .i64 kd, .int .i64 p, .string ⟨nm.toArray⟩, .int .i64 iv, .slice q args.length c] 84) (.cells #[.string ⟨nm.toArray⟩] 9)); clear hown hal1 hg0
     go_loopw [3, 4] (fun lv i wr => ∃ k : Nat, i = .int .i64 k /\ k <= args.length /\ Hid (wr.ownsRow (w.heap.size + 1) 9 1 lv (k + 1) (jBB (nm :: (args.map (Px.showP f)).take k))) /\
      Hid (wr.heap[w.heap.size]? = some (.cells #[.int .i64 kd, .int .i64 p, .string ⟨nm.toArray⟩, .int .i64 iv, .slice q args.length c] 84 (0, 0))) /\ Hid (Below w.heap.size w wr)) (fun _ i _ => args.length - (intOf i).toNat)
     case atStart => exact ⟨0, rfl, Nat.zero_le _, HOWN, EN, HB0⟩
     case round =>
      clear HOWN EN HB0; obtain ⟨k, rfl, hk, HOWN, EN, HB⟩ := hrel; have ef := jA1 EN.out; have e2 := jA EN.out 2 _ rfl; have e4 := jA EN.out 4 _ rfl; by_cases hlt : k < args.length
      . obtain ⟨t, ht⟩ : ∃ t, args[k]? = some t := ⟨_, List.getElem?_eq_getElem hlt⟩
        rcases HA.out with ⟨h, _⟩ | ⟨g, o, c', hv, h1, h2, h3⟩
        . exact absurd h he
        injection hv with hq _ hc
        subst hq; subst hc
        obtain ⟨u, hu, hus, huc⟩ := h3 k t ht; obtain ⟨tk, tp, ti, ts, q1, n1, c1, rfl⟩ := jFB f _ _ _ hu; have c0 := huc 0 _ rfl; have c1' := huc 1 _ rfl; have c2 := huc 2 _ rfl; have c3 := huc 3 _ rfl; have c4 := huc 4 _ rfl
        replace c0 := (HB.out.cell (World.block_lt_of_cell? w _ c0)).trans c0; replace c1' := (HB.out.cell (World.block_lt_of_cell? w _ c1')).trans c1'; replace c2 := (HB.out.cell (World.block_lt_of_cell? w _ c2)).trans c2; replace c3 := (HB.out.cell (World.block_lt_of_cell? w _ c3)).trans c3; replace c4 := (HB.out.cell (World.block_lt_of_cell? w _ c4)).trans c4; rw [Nat.add_zero] at c0; have HU := hid (jFW hu HB.out); have HT := hid ht; have hpl := HPART.out t (List.mem_of_getElem? ht); clear h3 huc hu hus ht; go_wp2_with fail; refine (IH.out _ t _ HU.out (HKA.out t (List.mem_of_getElem? HT.out)) hpl ((Lib.tabBelow_of_tabIs HTAB.out) _ HB.out)).mono ?_; rintro e w2 ⟨rfl, hb2⟩; have hown2 := jA5 HOWN.out hb2; have HOWN2 := hid hown2; have EN2 := hid (jA0 EN.out hb2); have HB2 := bT HB hb2; have hs2 := HB2.out.size; have hen := jA6 EN2.out; obtain ⟨S, hS⟩ : ∃ S, S = Px.showP f t := ⟨_, rfl⟩
        rw [<- hS]; have HS := hid hS; clear hb2 hown2 hS hpl; go_wp2_with (at_builtin; refine jAN _ rfl (.tmp 30) (.tmp 37) 33 rfl (w.heap.size + 1) 9 i0 (.string ⟨#[]⟩) 1 16 Tryz.underlying33 HI.out HI0.out HI1.out HI2.out rfl (by decide) _ (k + 1) _ rfl (HOWN2.out.alloc _) ⟨w2.heap.size, 0, none⟩ 1 1 [.string ⟨S.toArray⟩] rfl (by decide) rfl ?c1 ?c2 ?c3 ?c4 ?c5 ?_)
        case c1 => exact fun j u h => jFC w2 S _ j u h
        case c2 => exact jEH S
        case c3 => unfold maxLen; omega
        case c4 => omega
        case c5 => simp; omega
        intro v' w3 hown3 hgr hloc; have hB3 := (HB2.out.alloc hs2 (.cells #[.string ⟨S.toArray⟩] 9)).grown hgr (by simp; omega) (fun kk hkk => by have := (HOWN2.out.lt kk hkk).1; omega)
        have hEN3 : w3.heap[w.heap.size]? = some (.cells #[.int .i64 kd, .int .i64 p, .string ⟨nm.toArray⟩, .int .i64 iv, .slice (some ⟨g, o, none⟩) args.length c] 84 (0, 0)) :=
         (hgr.block _ (by simp; omega) (fun e => by have := (HOWN2.out.lt _ e.symm).1; omega)).trans (jA2 EN2.out _)
        have hl3 : jBB (nm :: (args.map (Px.showP f)).take k) ++ [.string ⟨S.toArray⟩] = jBB (nm :: (args.map (Px.showP f)).take (k + 1)) := by
         rw [<- jDC, List.take_add_one, List.getElem?_map, HT.out, HS.out]; simp
        rw [hl3] at hown3; have H1 := hid hown3; have H2 := hid hEN3; have H3 := hid hB3
        clear hown3 hEN3 hB3 hgr hloc hl3 e2 e4 ef c0 c1' c2 c3 c4; go_wp2
        go_roundw
        case rel => exact ⟨k + 1, by go_num, by omega, H1, H2, H3⟩
        case measure => simp [intOf]; omega
      . obtain rfl : k = args.length := by omega
        have hj := jBX _ _ wr (jCI HOWN.out) (by rw [show args.length = (args.map (Px.showP f)).length by simp, List.take_length]; exact Nat.le_trans HG.out (by omega)); rw [show (args.map (Px.showP f)).take args.length = args.map (Px.showP f) by rw [show args.length = (args.map (Px.showP f)).length by simp, List.take_length], <- HO.out] at hj; obtain ⟨p3, c3, rfl⟩ := jDX HOWN.out; have HJ := hid hj; clear hj; go_wp2_with fail; refine HJ.out.mono ?_; rintro e w2 ⟨rfl, rfl⟩; go_wp2_with fail; go_ret; exact ⟨rfl, HB.out⟩
def jF7 : Nat -> Px.Expr -> Prop
 | 0, _ => False
 | f + 1, .mk k _ _ i ns xs al => k <= 8 /\ (k = 0 -> jH0 i) /\ (k = 0 \/ k = 1 \/ k = 8 -> xs = []) /\ (k = 3 \/ k = 5 -> xs.length = 1) /\ (k = 4 -> xs.length = ns.length + 1 /\ ns ≠ []) /\ (k = 6 \/ k = 7 -> xs ≠ []) /\
    (∀ x ∈ xs, jF7 f x) /\ (∀ a ∈ al, OkP f a.1 /\ jF7 f a.2)
theorem jC1 {l : List (List UInt8)} {x : List UInt8} (h : x ∈ l) : x.length <= (joined l).length := by
 rw [jAX]; have := jCF l x h; omega
theorem jE7 (l : List (List UInt8)) : l.length <= (joined l).length := by
 rw [jAX]; have := jDV l; omega
theorem jBC (f k p : Nat) (nm : List UInt8) (i : Int) (ns : List (List UInt8)) (xs : List Px.Expr) (al : List (Px.Pat × Px.Expr)) (h : jF7 (f + 1) (.mk k p nm i ns xs al)) :
 Px.showE (f + 1) (.mk k p nm i ns xs al) =
  if k = 0 then Lib.itoa i else if k = 1 then nm else if k = 2 then (if xs.map (Px.showE f) = [] then nm else joined (nm :: xs.map (Px.showE f))) else if k = 7 then joined (nm :: xs.map (Px.showE f))
  else if k = 3 then joined [[102, 110], joined ns, (xs.map (Px.showE f)).headD []] else if k = 6 then joined (xs.map (Px.showE f)) else if k = 8 then [102, 97, 105, 108]
  else if k = 4 then joined [[108, 101, 116], joined ((ns.zip (xs.map (Px.showE f))).map fun p => joined [p.1, p.2]), (xs.map (Px.showE f)).getLastD []]
  else joined ([99, 97, 115, 101] :: (xs.map (Px.showE f)).headD [] :: al.map fun a => joined [Px.showP f a.1, Px.showE f a.2]) := by
 obtain ⟨_, _, _, h35, h4, _⟩ := h; rw [Px.showE]; rw [if_neg ?_]; rintro (⟨h1, h2⟩ | ⟨h1, h2⟩)
 . have := h35 h2; have h3 := congrArg List.length h1; rw [List.length_map, this] at h3; simp at h3
 . have := (h4 h1).1; rw [List.length_map] at h2; exact h2 this
theorem jJ5 (f k p : Nat) (nm : List UInt8) (i : Int) (ns : List (List UInt8)) (xs : List Px.Expr) (al : List (Px.Pat × Px.Expr)) (h : jF7 (f + 1) (.mk k p nm i ns xs al)) :
 (∀ x ∈ xs, (Px.showE f x).length <= (Px.showE (f + 1) (.mk k p nm i ns xs al)).length) /\ xs.length <= (Px.showE (f + 1) (.mk k p nm i ns xs al)).length + 2 /\ (k = 4 -> ns.length <= (Px.showE (f + 1) (.mk k p nm i ns xs al)).length) := by
 rw [jBC f k p nm i ns xs al h]; obtain ⟨h8, _, h01, h35, h4, h67, _, _⟩ := h; have hmem : ∀ x ∈ xs, Px.showE f x ∈ xs.map (Px.showE f) := fun x hx => List.mem_map_of_mem hx
 have hone : xs.length = 1 -> ∀ x ∈ xs, (xs.map (Px.showE f)).headD [] = Px.showE f x := by
  intro e x hx; obtain ⟨y, rfl⟩ := List.length_eq_one_iff.1 e; rw [List.mem_singleton] at hx; subst hx; rfl
 by_cases k0 : k = 0
 . subst k0; obtain rfl := h01 (by simp); exact ⟨fun x hx => (by cases hx), by simp, by simp⟩
 by_cases k1 : k = 1
 . subst k1; obtain rfl := h01 (by simp); exact ⟨fun x hx => (by cases hx), by simp, by simp⟩
 by_cases k8 : k = 8
 . subst k8; obtain rfl := h01 (by simp); exact ⟨fun x hx => (by cases hx), by simp, by simp⟩
 rw [if_neg k0, if_neg k1]; by_cases k2 : k = 2
 . subst k2; rw [if_pos rfl]; refine ⟨fun x hx => ?_, ?_, by simp⟩
   . rw [if_neg (by intro e; have := hmem x hx; rw [e] at this; cases this)]; exact jC1 (List.mem_cons_of_mem _ (hmem x hx))
   . split
     . rename_i e; have := congrArg List.length e; rw [List.length_map] at this; simp at this; rw [this]; simp
     . have := jE7 (nm :: xs.map (Px.showE f)); simp only [List.length_cons, List.length_map] at this; omega
 rw [if_neg k2]; by_cases k7 : k = 7
 . subst k7; rw [if_pos rfl]; refine ⟨fun x hx => jC1 (List.mem_cons_of_mem _ (hmem x hx)), ?_, by simp⟩; have := jE7 (nm :: xs.map (Px.showE f)); simp only [List.length_cons, List.length_map] at this; omega
 rw [if_neg k7]; by_cases k3 : k = 3
 . subst k3; rw [if_pos rfl]; have hl := h35 (by simp); refine ⟨fun x hx => ?_, by omega, by simp⟩; rw [hone hl x hx]; exact jC1 (by simp)
 rw [if_neg k3]; by_cases k6 : k = 6
 . subst k6; rw [if_pos rfl]; refine ⟨fun x hx => jC1 (hmem x hx), ?_, by simp⟩; have := jE7 (xs.map (Px.showE f)); simp only [List.length_map] at this; omega
 rw [if_neg k6, if_neg k8]; by_cases k4 : k = 4
 . subst k4; rw [if_pos rfl]; obtain ⟨hl, _⟩ := h4 rfl; have hz : ((ns.zip (xs.map (Px.showE f))).map fun p => joined [p.1, p.2]).length = ns.length := by simp; omega
   have hpl := jE7 ((ns.zip (xs.map (Px.showE f))).map fun p => joined [p.1, p.2]); have hbm : (joined ((ns.zip (xs.map (Px.showE f))).map fun p => joined [p.1, p.2])).length <= (joined [[108, 101, 116], joined ((ns.zip (xs.map (Px.showE f))).map fun p => joined [p.1, p.2]), (xs.map (Px.showE f)).getLastD []]).length := jC1 (by simp); refine ⟨fun x hx => ?_, by omega, fun _ => by omega⟩; obtain ⟨j, hj⟩ := List.mem_iff_getElem?.1 hx; have hjl := (List.getElem?_eq_some_iff.1 hj).1; have hLj : (xs.map (Px.showE f))[j]? = some (Px.showE f x) := by rw [List.getElem?_map, hj]; rfl
   by_cases hjn : j < ns.length
   . have hzj : (ns.zip (xs.map (Px.showE f)))[j]? = some (ns[j], Px.showE f x) := by
      rw [List.getElem?_zip_eq_some]; exact ⟨List.getElem?_eq_getElem hjn, hLj⟩
     have hm1 : joined [ns[j], Px.showE f x] ∈ (ns.zip (xs.map (Px.showE f))).map fun p => joined [p.1, p.2] := List.mem_map.2 ⟨_, List.mem_of_getElem? hzj, rfl⟩
     have h1 := jC1 hm1; have h2 : (Px.showE f x).length <= (joined [ns[j], Px.showE f x]).length := jC1 (by simp); omega
   . have hjj : j = xs.length - 1 := by omega
     have hlast : (xs.map (Px.showE f)).getLastD [] = Px.showE f x := by
      rw [List.getLastD_eq_getLast?, List.getLast?_eq_getElem?, List.length_map, <- hjj, hLj]; rfl
     rw [hlast]; exact jC1 (by simp)
 rw [if_neg k4]; have k5 : k = 5 := by omega
 subst k5; have hl := h35 (by simp); refine ⟨fun x hx => ?_, by omega, by simp⟩; rw [hone hl x hx]; exact jC1 (by simp)
end Go.Proofs.YtnhndamfbeiljaaGreatDoor
namespace Go.Proofs.YtnhndamfbeiljaaGreatDoor
open Go.Lib (hid)
open List renaming getElem_toArray → jR, getElem_cons_succ → jR0, getElem_cons_zero → jR1, setIfInBounds_toArray → jR2, set_cons_zero → jR3, set_cons_succ → jR4
namespace Px
def jG3 : Nat -> Expr -> Prop
 | 0, _ => False
 | f + 1, .mk k _ _ i ns xs al => k <= 7 /\ (k = 0 -> jH0 i) /\ (k = 0 \/ k = 1 -> xs = [] /\ ns = [] /\ al = []) /\ (k = 3 -> xs.length = 1 /\ ns ≠ []) /\ (k = 5 -> xs.length = 1 /\ al ≠ []) /\
    (k = 4 -> xs.length = ns.length + 1 /\ ns ≠ []) /\ (k = 6 -> 1 < xs.length) /\ (k = 7 -> xs ≠ []) /\ (∀ x ∈ xs, jG3 f x) /\ (∀ a ∈ al, OkP f a.1 /\ jG3 f a.2)
theorem jG3.good : ∀ {f : Nat} {x : Expr}, jG3 f x -> jF7 f x := by
 intro f
 induction f with
 | zero => intro x h; exact h
 | succ f ih =>
   intro x h; obtain ⟨k, p, nm, i, ns, xs, al⟩ := x; obtain ⟨h7, hi, h01, h3, h5, h4, h6, h7', hx, ha⟩ := h; refine ⟨by omega, hi, fun h => ?_, fun h => ?_, h4, fun h => ?_, fun x hm => ih (hx x hm), fun a hm => ⟨(ha a hm).1, ih (ha a hm).2⟩⟩
   . rcases h with h | h | h
     . exact (h01 (.inl h)).1
     . exact (h01 (.inr h)).1
     . omega
   . rcases h with h | h
     . exact (h3 h).1
     . exact (h5 h).1
   . rcases h with h | h
     . have := h6 h; intro e; rw [e] at this; simp at this
     . exact h7' h
inductive NodeAll (P : Lx.Tok -> Prop) : Node -> Prop
 | mk (t : Lx.Tok) (l : List Node) (k : Nat) : P t -> (∀ m ∈ l, NodeAll P m) -> NodeAll P (.mk t l k)
theorem NodeAll.tok {P : Lx.Tok -> Prop} {n : Node} (h : NodeAll P n) : P n.tok := by cases h with | mk t l k h1 h2 => exact h1
theorem NodeAll.kid {P : Lx.Tok -> Prop} {n m : Node} (h : NodeAll P n) (hm : m ∈ n.list) : NodeAll P m := by cases h with | mk t l k h1 h2 => exact h2 m hm
theorem jMQ (P : Lx.Tok -> Prop) (stop : Nat) : ∀ (f d : Nat) (ts : List Lx.Tok), (∀ t ∈ ts, P t) ->
 (∀ n ts', node stop f d ts = .ok (n, ts') -> NodeAll P n /\ ∀ t ∈ ts', P t) /\ (∀ l ts', rest stop f d ts = .ok (l, ts') -> (∀ m ∈ l, NodeAll P m) /\ ∀ t ∈ ts', P t) := by
 intro f
 induction f with
 | zero => intro d ts _; exact ⟨fun n ts' h => (by cases h), fun l ts' h => (by cases h)⟩
 | succ f ih =>
   intro d ts hp; cases ts with
   | nil => exact ⟨fun n ts' h => (by cases h), fun l ts' h => (by cases h)⟩
   | cons t ts =>
     have hpt := hp t (by simp); have hps : ∀ u ∈ ts, P u := fun u hu => hp u (by simp [hu])
     constructor
     . intro n ts' h; rw [node] at h; by_cases k1 : t.kind = 1
       . rw [if_pos k1] at h; cases h
       . rw [if_neg k1] at h; by_cases k0 : t.kind = 0
         . rw [if_pos k0] at h; by_cases hd : d = 40
           . rw [if_pos hd] at h; cases h
           . rw [if_neg hd] at h; cases hr : rest stop f (d + 1) ts with
             | error p => rw [hr] at h; cases h
             | ok x =>
               obtain ⟨l, ts1⟩ := x; rw [hr] at h; simp only [Except.ok.injEq, Prod.mk.injEq] at h; obtain ⟨rfl, rfl⟩ := h; obtain ⟨h1, h2⟩ := (ih (d + 1) ts hps).2 _ _ hr; exact ⟨.mk _ _ _ hpt h1, h2⟩
         . rw [if_neg k0] at h; simp only [Except.ok.injEq, Prod.mk.injEq] at h; obtain ⟨rfl, rfl⟩ := h; exact ⟨.mk _ _ _ hpt (fun m hm => by cases hm), hps⟩
     . intro l ts' h; rw [rest] at h; by_cases k1 : t.kind = 1
       . rw [if_pos k1] at h; simp only [Except.ok.injEq, Prod.mk.injEq] at h; obtain ⟨rfl, rfl⟩ := h; exact ⟨fun m hm => (by cases hm), hps⟩
       . rw [if_neg k1] at h; cases hn : node stop f d (t :: ts) with
         | error p => rw [hn] at h; cases h
         | ok x =>
           obtain ⟨n, ts1⟩ := x; rw [hn] at h; simp only at h; obtain ⟨h1, h2⟩ := (ih d (t :: ts) hp).1 _ _ hn; cases hr : rest stop f d ts1 with
           | error p => rw [hr] at h; cases h
           | ok y =>
             obtain ⟨l', ts2⟩ := y; rw [hr] at h; simp only [Except.ok.injEq, Prod.mk.injEq] at h; obtain ⟨rfl, rfl⟩ := h; obtain ⟨h3, h4⟩ := (ih d ts1 h2).2 _ _ hr; exact ⟨fun m hm => (List.mem_cons.1 hm).elim (fun e => e ▸ h1) (h3 m), h4⟩
def TInt (t : Lx.Tok) : Prop := t.kind = 2 -> jH0 t.int
theorem jIT (D : List UInt8) (hd : ∀ c ∈ D, Lx.jA8 c = true) (hl : D.length <= 18) : Lx.natV D 0 < 1000000000000000000 := by
 have h := Lx.jGI D 0 1 hd (by omega); have h2 : (10 : Nat) ^ D.length <= 10 ^ 18 := Nat.pow_le_pow_right (by omega) hl; have h3 : (10 : Nat) ^ 18 = 1000000000000000000 := by decide
 omega
theorem way_int {l : List UInt8} {n : Nat} (h : Lx.Way l 2 n) : jH0 (Lx.numV (l.take n)) := by
 generalize hk : (2 : Int) = k at h
 have key : ∀ D : List UInt8, (∀ c ∈ D, Lx.jA8 c = true) -> D.length <= 18 -> jH0 (Lx.natV D 0 : Int) /\ jH0 (-(Lx.natV D 0 : Int)) := by
  intro D h1 h2; have := jIT D h1 h2; exact ⟨⟨by omega, by omega⟩, ⟨by omega, by omega⟩⟩
 cases h with
 | arrow => omega
 | neg h1 h2 h3 h4 =>
   have e0 : Lx.at0 (l.take (1 + Lx.cnt Lx.jA8 (l.drop 1))) 0 = Lx.at0 l 0 := jEK _ _ _ (by omega); unfold Lx.numV; rw [e0, if_pos h1]; have hdr : (l.take (1 + Lx.cnt Lx.jA8 (l.drop 1))).drop 1 = (l.drop 1).take (Lx.cnt Lx.jA8 (l.drop 1)) := by rw [List.drop_take]; congr 1; omega
   rw [hdr]; exact (key _ (Lx.jDO Lx.jA8 (l.drop 1)) (by rw [List.length_take]; omega)).2
 | pos h1 h2 h3 =>
   have hl := Lx.jG2 Lx.jA8 l
   have hpos : 0 < Lx.cnt Lx.jA8 l := by
    cases l with
    | nil => exact absurd h1 (by decide)
    | cons c r => rw [Lx.cnt, if_pos (by exact h1)]; omega
   have e0 : Lx.at0 (l.take (Lx.cnt Lx.jA8 l)) 0 = Lx.at0 l 0 := jEK _ _ _ hpos; unfold Lx.numV; rw [e0, if_neg (Lx.jCR _ h1).2.2.1]; exact (key _ (Lx.jDO Lx.jA8 l) (by rw [List.length_take]; omega)).1
 | name => omega
 | con => omega
 | one h1 h2 => rcases Lx.jDJ (Lx.at0 l 0) with e | e | e | e <;> omega
 | none => omega
theorem jM : ∀ (f p : Nat) (l : List UInt8), ∀ t ∈ (Lx.toks f p l).1, TInt t := by
 intro f
 induction f with
 | zero => intro p l t h; simp [Lx.toks] at h
 | succ f ih =>
   intro p l t h; rw [Lx.jC6] at h; by_cases h1 : l.length <= Lx.skipC false l
   . rw [if_pos h1] at h; simp at h
   . rw [if_neg h1] at h; by_cases h2 : (Lx.jAK (l.drop (Lx.skipC false l))).2 = 0
     . rw [if_pos h2] at h; simp at h
     . rw [if_neg h2] at h
       rcases List.mem_cons.1 h with rfl | h
       . intro hk; have hw := Lx.way (l.drop (Lx.skipC false l)); have hk' : (Lx.jAK (l.drop (Lx.skipC false l))).1 = 2 := hk; rw [hk'] at hw; have := way_int hw; simp only [Lx.jBH, hk', if_true]; exact this
       . exact ih _ _ t h
theorem jF6 {α : Type} {f : Node -> R α} : ∀ {l : List Node} {xs : List α}, each f l = .ok xs -> ∀ x ∈ xs, ∃ n ∈ l, f n = .ok x := by
 intro l
 induction l with
 | nil => intro xs h; simp only [each, Except.ok.injEq] at h; subst h; intro x hx; cases hx
 | cons n r ih =>
   intro xs h; simp only [each] at h; cases hf : f n with
   | error p => rw [hf] at h; cases h
   | ok x =>
     rw [hf] at h; cases hr : each f r with
     | error p => rw [hr] at h; cases h
     | ok ys =>
       rw [hr] at h; simp only [Except.ok.injEq] at h; subst h; intro y hy
       rcases List.mem_cons.1 hy with rfl | hy
       . exact ⟨n, by simp, hf⟩
       . obtain ⟨m, hm, he⟩ := ih hr y hy; exact ⟨m, by simp [hm], he⟩
theorem pat_ok : ∀ (f : Nat) (n : Node) (p : Pat), NodeAll TInt n -> pat f n = .ok p -> OkP f p := by
 intro f
 induction f with
 | zero => intro n p _ h; cases h
 | succ f ih =>
   intro n p hn h; rw [pat] at h; by_cases h1 : jAF n = true
   . rw [if_pos h1] at h; cases hq : nodes n 2 9 with
     | error q => rw [hq] at h; cases h
     | ok l =>
       rw [hq] at h; simp only at h; obtain ⟨rfl, _⟩ := jA9 hq; cases hc : jAJ (n.list.headD n) with
       | error q => rw [hc] at h; cases h
       | ok nm =>
         rw [hc] at h; simp only at h; cases he : each (pat f) n.list.tail with
         | error q => rw [he] at h; cases h
         | ok xs =>
           rw [he] at h; simp only [Except.ok.injEq] at h; subst h; refine ⟨fun h => absurd h (by decide), fun a ha => ?_⟩; obtain ⟨m, hm, hp⟩ := jF6 he a ha; exact ih m a (hn.kid (List.mem_of_mem_tail hm)) hp
   . rw [if_neg h1] at h; by_cases h2 : jB8 n = true
     . rw [if_pos h2] at h; simp only [Except.ok.injEq] at h; subst h; exact ⟨fun _ => hn.tok (by unfold jB8 at h2; simpa using h2), fun a ha => by cases ha⟩
     . rw [if_neg h2] at h
       have fin : ∀ {k : Nat} {nm : List UInt8}, k ≠ 2 -> (Except.ok (Pat.mk k n.pos nm 0 []) : R Pat) = .ok p -> OkP (f + 1) p := by
        intro k nm hk e; simp only [Except.ok.injEq] at e; subst e; exact ⟨fun h => absurd h hk, fun a ha => by cases ha⟩
       repeat' split at h
       all_goals first | exact fin (by decide) h | cases h
theorem jGL : ∀ (f : Nat) (n : Node) (x : Expr), NodeAll TInt n -> (∀ m, NodeAll TInt m -> True) -> expr f n = .ok x -> jG3 f x := by
 intro f
 induction f with
 | zero => intro n x _ _ h; cases h
 | succ f ih =>
   intro n x hn _ h; have kids : ∀ m ∈ n.list, ∀ y, expr f m = .ok y -> jG3 f y := fun m hm y hy => ih m y (hn.kid hm) (fun _ _ => trivial) hy
   rw [expr] at h; by_cases h1 : jAF n = true
   . rw [if_pos h1] at h; unfold listExpr at h; by_cases w1 : word n = [102, 110]
     . rw [if_pos w1] at h; unfold jCW at h; cases hq : nodes n 3 3 with
       | error q => rw [hq] at h; cases h
       | ok l =>
         rw [hq] at h; simp only at h; obtain ⟨rfl, hl⟩ := jA9 hq; cases hc : names (n.list.getD 1 n) 1 with
         | error q => rw [hc] at h; cases h
         | ok ns =>
           rw [hc] at h; simp only at h; cases he : expr f (n.list.getD 2 n) with
           | error q => rw [he] at h; cases h
           | ok y =>
             rw [he] at h; simp only [Except.ok.injEq] at h; subst h
             have hns : ns ≠ [] := by
              unfold names at hc; cases hz : nodes (n.list.getD 1 n) 1 8 with
              | error q => rw [hz] at hc; cases hc
              | ok l2 =>
                rw [hz] at hc; simp only at hc; obtain ⟨_, h4⟩ := jA9 hz; intro e; have := jCG hc; rw [e] at this; simp at this; omega
             refine ⟨by omega, fun h => by omega, fun h => by omega, fun _ => ⟨rfl, hns⟩, fun h => by omega, fun h => by omega, fun h => by omega, fun h => by omega, fun z hz => ?_, fun a ha => by cases ha⟩; rw [List.mem_singleton] at hz; subst hz; exact kids _ (jAT (by omega)) _ he
     . rw [if_neg w1] at h; by_cases w2 : word n = [108, 101, 116]
       . rw [if_pos w2] at h; unfold jBW at h; cases hq : nodes n 3 3 with
         | error q => rw [hq] at h; cases h
         | ok l =>
           rw [hq] at h; simp only at h; obtain ⟨rfl, hl⟩ := jA9 hq; cases hc : nodes (n.list.getD 1 n) 1 8 with
           | error q => rw [hc] at h; cases h
           | ok ps =>
             rw [hc] at h; simp only at h; obtain ⟨hpe, hpl⟩ := jA9 hc; cases hb : each (pair (expr f)) ps with
             | error q => rw [hb] at h; cases h
             | ok bs =>
               rw [hb] at h; simp only at h; cases he : expr f (n.list.getD 2 n) with
               | error q => rw [he] at h; cases h
               | ok y =>
                 rw [he] at h; simp only [Except.ok.injEq] at h; subst h; have hbl := jCG hb; refine ⟨by omega, fun h => by omega, fun h => by omega, fun h => by omega, fun h => by omega, fun _ => ⟨by simp, by intro e; have := congrArg List.length e; rw [List.length_map, hbl, List.length_nil] at this; omega⟩, fun h => by omega, fun h => by omega, fun z hz => ?_, fun a ha => by cases ha⟩
                 rcases List.mem_append.1 hz with hz | hz
                 . obtain ⟨b, hb1, rfl⟩ := List.mem_map.1 hz; obtain ⟨m, hm, hp⟩ := jF6 hb b hb1; rw [hpe] at hm; have hmn : NodeAll TInt m := (hn.kid (jAT (by omega))).kid hm; unfold pair at hp; cases hz2 : nodes m 2 2 with
                   | error q => rw [hz2] at hp; cases hp
                   | ok l2 =>
                     rw [hz2] at hp; simp only at hp; obtain ⟨rfl, h4⟩ := jA9 hz2; cases hz3 : name (m.list.headD m) with
                     | error q => rw [hz3] at hp; cases hp
                     | ok s =>
                       rw [hz3] at hp; simp only at hp; cases hz4 : expr f (m.list.getD 1 m) with
                       | error q => rw [hz4] at hp; cases hp
                       | ok e =>
                         rw [hz4] at hp; simp only [Except.ok.injEq] at hp; subst hp; exact ih _ _ (hmn.kid (jAT (by omega))) (fun _ _ => trivial) hz4
                 . rw [List.mem_singleton] at hz; subst hz; exact kids _ (jAT (by omega)) _ he
       . rw [if_neg w2] at h; by_cases w3 : word n = [99, 97, 115, 101]
         . rw [if_pos w3] at h; unfold jBL at h; cases hq : nodes n 3 18 with
           | error q => rw [hq] at h; cases h
           | ok l =>
             rw [hq] at h; simp only at h; obtain ⟨rfl, hl⟩ := jA9 hq; cases he : expr f (n.list.getD 1 n) with
             | error q => rw [he] at h; cases h
             | ok y =>
               rw [he] at h; simp only at h; cases hb : each (alt f (expr f)) (n.list.drop 2) with
               | error q => rw [hb] at h; cases h
               | ok alts1 =>
                 rw [hb] at h; simp only [Except.ok.injEq] at h; subst h; have hbl := jCG hb; rw [List.length_drop] at hbl; refine ⟨by omega, fun h => by omega, fun h => by omega, fun h => by omega, fun _ => ⟨rfl, by intro e; rw [e] at hbl; simp at hbl; omega⟩, fun h => by omega, fun h => by omega, fun h => by omega, fun z hz => ?_, fun a ha => ?_⟩
                 . rw [List.mem_singleton] at hz; subst hz; exact kids _ (jAT (by omega)) _ he
                 . obtain ⟨m, hm, hp⟩ := jF6 hb a ha; have hmn : NodeAll TInt m := hn.kid (List.mem_of_mem_drop hm); unfold alt at hp; cases hz2 : nodes m 2 2 with
                   | error q => rw [hz2] at hp; cases hp
                   | ok l2 =>
                     rw [hz2] at hp; simp only at hp; obtain ⟨rfl, h4⟩ := jA9 hz2; cases hz3 : pat f (m.list.headD m) with
                     | error q => rw [hz3] at hp; cases hp
                     | ok s =>
                       rw [hz3] at hp; simp only at hp; cases hz4 : expr f (m.list.getD 1 m) with
                       | error q => rw [hz4] at hp; cases hp
                       | ok e =>
                         rw [hz4] at hp; simp only [Except.ok.injEq] at hp; subst hp; exact ⟨pat_ok f _ _ (hmn.kid (jD3 (by omega))) hz3, ih _ _ (hmn.kid (jAT (by omega))) (fun _ _ => trivial) hz4⟩
         . rw [if_neg w3] at h; unfold jAV at h; cases hq : nodes n 2 9 with
           | error q => rw [hq] at h; cases h
           | ok l =>
             rw [hq] at h; simp only at h; obtain ⟨rfl, hl⟩ := jA9 hq; by_cases ht : 0 < (n.list.headD n).takes
             . rw [if_pos ht] at h; cases hh : hold n (1 + (n.list.headD n).takes) (1 + (n.list.headD n).takes) with
               | error q => rw [hh] at h; cases h
               | ok u =>
                 rw [hh] at h; simp only at h; cases hb : each (expr f) n.list.tail with
                 | error q => rw [hb] at h; cases h
                 | ok xs =>
                   rw [hb] at h; simp only [Except.ok.injEq] at h; subst h; have hbl := jCG hb; rw [List.length_tail] at hbl; refine ⟨by omega, fun h => by omega, fun h => by omega, fun h => by omega, fun h => by omega, fun h => by omega, fun h => by omega, fun _ => by intro e; rw [e] at hbl; simp at hbl; omega, fun z hz => ?_, fun a ha => by cases ha⟩; obtain ⟨m, hm, hp⟩ := jF6 hb z hz; exact kids m (List.mem_of_mem_tail hm) z hp
             . rw [if_neg ht] at h; by_cases hcn : jAS (n.list.headD n) = true
               . rw [if_pos hcn] at h; cases hb : each (expr f) n.list.tail with
                 | error q => rw [hb] at h; cases h
                 | ok xs =>
                   rw [hb] at h; simp only [Except.ok.injEq] at h; subst h; refine ⟨by omega, fun h => by omega, fun h => by omega, fun h => by omega, fun h => by omega, fun h => by omega, fun h => by omega, fun h => by omega, fun z hz => ?_, fun a ha => by cases ha⟩; obtain ⟨m, hm, hp⟩ := jF6 hb z hz; exact kids m (List.mem_of_mem_tail hm) z hp
               . rw [if_neg hcn] at h; cases hb : each (expr f) n.list with
                 | error q => rw [hb] at h; cases h
                 | ok xs =>
                   rw [hb] at h; simp only [Except.ok.injEq] at h; subst h; have hbl := jCG hb; refine ⟨by omega, fun h => by omega, fun h => by omega, fun h => by omega, fun h => by omega, fun h => by omega, fun _ => by omega, fun h => by omega, fun z hz => ?_, fun a ha => by cases ha⟩; obtain ⟨m, hm, hp⟩ := jF6 hb z hz; exact kids m hm z hp
   . rw [if_neg h1] at h
     have fin : ∀ {k : Nat} {nm : List UInt8} {i : Int}, k <= 2 -> (k = 0 -> jH0 i) -> (Except.ok (Expr.mk k n.pos nm i [] [] []) : R Expr) = .ok x -> jG3 (f + 1) x := by
      intro k nm i hk hi e; simp only [Except.ok.injEq] at e; subst e; exact ⟨by omega, hi, fun _ => ⟨rfl, rfl, rfl⟩, fun h => by omega, fun h => by omega, fun h => by omega, fun h => by omega, fun h => by omega, fun z hz => (by cases hz), fun a ha => (by cases ha)⟩
     by_cases h2 : jB8 n = true
     . rw [if_pos h2] at h; exact fin (by omega) (fun _ => hn.tok (by unfold jB8 at h2; simpa using h2)) h
     . rw [if_neg h2] at h
       repeat' split at h
       all_goals first | exact fin (by omega) (fun h => by omega) h | cases h
def WholeP (q : Prog) : Prop := ∀ d ∈ q.defs, jG3 50 d.body
theorem jNV (stop : Nat) : ∀ (f c : Nat) (ts : List Lx.Tok) (q : Prog), (∀ t ∈ ts, TInt t) -> prog stop f c ts = .ok q -> WholeP q := by
 intro f
 induction f with
 | zero => intro c ts q _ h; cases h; intro d hd; cases hd
 | succ f ih =>
   intro c ts q hts h; cases ts with
   | nil => rw [jFV] at h; cases h; intro d hd; cases hd
   | cons t ts =>
     rw [jEB] at h; cases hn : node stop (2 * (t :: ts).length + 2) 0 (t :: ts) with
     | error p => rw [hn] at h; cases h
     | ok x =>
       obtain ⟨n, ts1⟩ := x; rw [hn] at h; simp only at h; obtain ⟨hna, hts1⟩ := (jMQ TInt stop _ 0 (t :: ts) hts).1 _ _ hn; by_cases h100 : c = 100
       . rw [if_pos h100] at h; cases h
       . rw [if_neg h100] at h; by_cases k1 : word n = [100, 97, 116, 97]
         . rw [if_pos k1] at h; cases hd : data 50 n with
           | error p => rw [hd] at h; cases h
           | ok d =>
             rw [hd] at h; simp only at h; cases hp : prog stop f (c + 1) ts1 with
             | error p => rw [hp] at h; cases h
             | ok q' =>
               rw [hp] at h; simp only [Except.ok.injEq] at h; subst h; exact fun d' hd' => ih _ _ _ hts1 hp d' hd'
         . rw [if_neg k1] at h; by_cases k2 : word n = [100, 101, 102]
           . rw [if_pos k2] at h; cases hd : defn 50 n with
             | error p => rw [hd] at h; cases h
             | ok d =>
               rw [hd] at h; simp only at h; cases hp : prog stop f (c + 1) ts1 with
               | error p => rw [hp] at h; cases h
               | ok q' =>
                 rw [hp] at h; simp only [Except.ok.injEq] at h; subst h; intro d' hd'
                 rcases List.mem_cons.1 hd' with rfl | hd'
                 . unfold defn at hd; cases hz : nodes n 4 4 with
                   | error q => rw [hz] at hd; cases hd
                   | ok l =>
                     rw [hz] at hd; simp only at hd; obtain ⟨rfl, hl⟩ := jA9 hz; cases h3 : name (n.list.getD 1 n) with
                     | error q => rw [h3] at hd; cases hd
                     | ok s =>
                       rw [h3] at hd; simp only at hd; cases h4 : names (n.list.getD 2 n) 0 with
                       | error q => rw [h4] at hd; cases hd
                       | ok ps =>
                         rw [h4] at hd; simp only at hd; cases h5 : expr 50 (n.list.getD 3 n) with
                         | error q => rw [h5] at hd; cases hd
                         | ok x =>
                           rw [h5] at hd; simp only [Except.ok.injEq] at hd; subst hd; exact jGL 50 _ _ (hna.kid (jAT (by omega))) (fun _ _ => trivial) h5
                 . exact ih _ _ _ hts1 hp d' hd'
           . rw [if_neg k2] at h; cases h
theorem jGA (l : List UInt8) (q : Prog) (h : program l = .done q) : WholeP q := by
 unfold program parsed at h; by_cases hl : 4096 < l.length
 . rw [if_pos hl] at h; cases h
 . rw [if_neg hl] at h; cases ht : Lx.toks (l.length + 1) 0 l with
   | mk ts o =>
     rw [ht] at h; cases o with
     | some q' => cases h
     | none =>
       simp only at h; cases hx : prog l.length (ts.length + 1) 0 ts with
       | error p => rw [hx] at h; cases h
       | ok q' =>
         rw [hx] at h; simp only [Outcome.done.injEq] at h; subst h; have hi := jM (l.length + 1) 0 l; rw [ht] at hi; exact jNV _ _ _ _ _ hi hx
end Px
namespace Px
theorem All2.mapEq {α β γ : Type} {S : α -> β -> Prop} {f : α -> γ} {g : β -> γ} (h : ∀ a b, S a b -> g b = f a) : ∀ {l : List α} {m : List β}, All2 S l m -> m.map g = l.map f
 | _, _, .nil => rfl
 | _, _, .cons h1 h2 => by rw [List.map_cons, List.map_cons, h _ _ h1, All2.mapEq h h2]
theorem All2.nilIff {α β : Type} {S : α -> β -> Prop} {l : List α} {m : List β} (h : All2 S l m) : (m = []) = (l = []) := by
 cases h with
 | nil => simp
 | cons _ _ => simp
variable {ρ : Nat -> Nat -> Prop}
theorem jPP : ∀ (f : Nat) (a b : TypeE), SimT ρ a b -> showT f b = showT f a := by
 intro f
 induction f with
 | zero => intro a b _; rfl
 | succ f ih =>
   intro a b h; cases h with
   | mk p q nm l m h1 h2 =>
     rw [showT, showT, h2.mapEq ih]; simp only [h2.nilIff]
theorem jPQ : ∀ (f : Nat) (a b : Pat), SimP ρ a b -> showP f b = showP f a := by
 intro f
 induction f with
 | zero => intro a b _; rfl
 | succ f ih =>
   intro a b h; cases h with
   | mk k p q nm i l m h1 h2 =>
     rw [showP, showP, h2.mapEq ih]; simp only [h2.nilIff]
theorem alts_eq {f : Nat} (ih : ∀ a b, SimE ρ a b -> showE f b = showE f a) : ∀ (al bl : List (Pat × Expr)), All2 (SimP ρ) (al.map (·.1)) (bl.map (·.1)) -> All2 (SimE ρ) (al.map (·.2)) (bl.map (·.2)) ->
 (bl.map fun a => joined [showP f a.1, showE f a.2]) = al.map fun a => joined [showP f a.1, showE f a.2] := by
 intro al
 induction al with
 | nil =>
   intro bl h1 _; cases bl with
   | nil => rfl
   | cons b bl => cases h1
 | cons a al ihl =>
   intro bl h1 h2; cases bl with
   | nil => cases h1
   | cons b bl =>
     rw [List.map_cons, List.map_cons] at h1 h2; cases h1 with
     | cons x1 y1 =>
       cases h2 with
       | cons x2 y2 =>
         rw [List.map_cons, List.map_cons, ihl bl y1 y2, jPQ f _ _ x1, ih _ _ x2]
theorem jPR : ∀ (f : Nat) (a b : Expr), SimE ρ a b -> showE f b = showE f a := by
 intro f
 induction f with
 | zero => intro a b _; rfl
 | succ f ih =>
   intro a b h; cases h with
   | mk k p q nm i ns xs ys al bl h1 h2 h3 h4 =>
     rw [showE, showE, h2.mapEq ih, alts_eq ih al bl h3 h4]
theorem jMD (f : Nat) (a b : Con) (h : SimCon ρ a b) : jD2 f b = jD2 f a := by
 unfold jD2; rw [h.name, h.fields.mapEq (jPP f)]
theorem jKZ (f : Nat) (a b : Data) (h : SimData ρ a b) : jBJ f b = jBJ f a := by
 unfold jBJ; rw [h.name, h.params, h.cons.mapEq (jMD f)]
theorem jMB (f : Nat) (a b : Def) (h : SimDef ρ a b) : jC0 f b = jC0 f a := by
 unfold jC0; rw [h.name, h.params, jPR f _ _ h.body]
theorem jKW (f : Nat) (a b : Prog) (h : SimProg ρ a b) : jB1 f b = jB1 f a := by
 unfold jB1; rw [h.datas.mapEq (fun x y hxy => by rw [jKZ f x y hxy]), h.defs.mapEq (fun x y hxy => by rw [jMB f x y hxy])]
def tw (ts : List Lx.Tok) : Nat := (ts.map fun t => t.text.length + 24).sum
theorem jHX (t : Lx.Tok) (ts : List Lx.Tok) : tw (t :: ts) = t.text.length + 24 + tw ts := by simp [tw]
inductive NW : Node -> Nat -> Prop
 | mk (t : Lx.Tok) (l : List Node) (k : Nat) (ws : List Nat) : All2 NW l ws -> NW (.mk t l k) (t.text.length + 24 + ws.sum)
theorem jMO (stop : Nat) : ∀ (f d : Nat) (ts : List Lx.Tok),
 (∀ n ts', node stop f d ts = .ok (n, ts') -> ∃ W, NW n W /\ W + tw ts' <= tw ts) /\ (∀ l ts', rest stop f d ts = .ok (l, ts') -> ∃ ws, All2 NW l ws /\ ws.sum + tw ts' <= tw ts) := by
 intro f
 induction f with
 | zero => intro d ts; exact ⟨fun n ts' h => (by cases h), fun l ts' h => (by cases h)⟩
 | succ f ih =>
   intro d ts; cases ts with
   | nil => exact ⟨fun n ts' h => (by cases h), fun l ts' h => (by cases h)⟩
   | cons t ts =>
     constructor
     . intro n ts' h; rw [node] at h; by_cases k1 : t.kind = 1
       . rw [if_pos k1] at h; cases h
       . rw [if_neg k1] at h; by_cases k0 : t.kind = 0
         . rw [if_pos k0] at h; by_cases hd : d = 40
           . rw [if_pos hd] at h; cases h
           . rw [if_neg hd] at h; cases hr : rest stop f (d + 1) ts with
             | error p => rw [hr] at h; cases h
             | ok x =>
               obtain ⟨l, ts1⟩ := x; rw [hr] at h; simp only [Except.ok.injEq, Prod.mk.injEq] at h; obtain ⟨rfl, rfl⟩ := h; obtain ⟨ws, h1, h2⟩ := (ih (d + 1) ts).2 _ _ hr; exact ⟨_, .mk _ _ _ ws h1, by rw [jHX]; omega⟩
         . rw [if_neg k0] at h; simp only [Except.ok.injEq, Prod.mk.injEq] at h; obtain ⟨rfl, rfl⟩ := h; exact ⟨_, .mk _ _ _ [] .nil, by rw [jHX]; simp⟩
     . intro l ts' h; rw [rest] at h; by_cases k1 : t.kind = 1
       . rw [if_pos k1] at h; simp only [Except.ok.injEq, Prod.mk.injEq] at h; obtain ⟨rfl, rfl⟩ := h; exact ⟨[], .nil, by rw [jHX]; simp⟩
       . rw [if_neg k1] at h; cases hn : node stop f d (t :: ts) with
         | error p => rw [hn] at h; cases h
         | ok x =>
           obtain ⟨n, ts1⟩ := x; rw [hn] at h; simp only at h; obtain ⟨W, h1, h2⟩ := (ih d (t :: ts)).1 _ _ hn; cases hr : rest stop f d ts1 with
           | error p => rw [hr] at h; cases h
           | ok y =>
             obtain ⟨l', ts2⟩ := y; rw [hr] at h; simp only [Except.ok.injEq, Prod.mk.injEq] at h; obtain ⟨rfl, rfl⟩ := h; obtain ⟨ws, h3, h4⟩ := (ih d ts1).2 _ _ hr; exact ⟨W :: ws, .cons h1 h3, by rw [List.sum_cons]; omega⟩
theorem jLY : ∀ (f p : Nat) (l : List UInt8), tw (Lx.toks f p l).1 <= 25 * l.length := by
 intro f
 induction f with
 | zero => intro p l; simp [Lx.toks, tw]
 | succ f ih =>
   intro p l; rw [Lx.jC6]; by_cases h1 : l.length <= Lx.skipC false l
   . rw [if_pos h1]; simp [tw]
   . rw [if_neg h1]; by_cases h2 : (Lx.jAK (l.drop (Lx.skipC false l))).2 = 0
     . rw [if_pos h2]; simp [tw]
     . rw [if_neg h2]
       simp only
       rw [jHX]; have hi := ih (p + Lx.skipC false l + (Lx.jAK (l.drop (Lx.skipC false l))).2) ((l.drop (Lx.skipC false l)).drop (Lx.jAK (l.drop (Lx.skipC false l))).2); have hle := Lx.jIF (l.drop (Lx.skipC false l)); rw [List.length_drop, List.length_drop] at hi; rw [List.length_drop] at hle
       have ht : (Lx.jBH (p + Lx.skipC false l) (Lx.jAK (l.drop (Lx.skipC false l))).1 ((l.drop (Lx.skipC false l)).take (Lx.jAK (l.drop (Lx.skipC false l))).2)).text.length <= (Lx.jAK (l.drop (Lx.skipC false l))).2 := by
        simp only [Lx.jBH, List.length_take]; omega
       omega
theorem glue_sum : ∀ (l : List (List UInt8)), (glue l).length <= (l.map fun x => x.length + 1).sum
 | [] => by simp [glue]
 | a :: r => by
   have : ∀ r : List (List UInt8), (r.flatMap fun y => 32 :: y).length = (r.map fun x => x.length + 1).sum := by
    intro r
    induction r with
    | nil => rfl
    | cons b r ih => simp only [List.flatMap_cons, List.length_append, List.length_cons, List.map_cons, List.sum_cons, ih]
   simp only [glue, List.length_append, this r, List.map_cons, List.sum_cons]; omega
theorem jBI (l : List (List UInt8)) : (joined l).length <= (l.map fun x => x.length + 1).sum + 2 := by
 rw [jAX]; have := glue_sum l; omega
theorem NW.split {n : Node} {W : Nat} (h : NW n W) : ∃ ws, All2 NW n.list ws /\ W = n.text.length + 24 + ws.sum := by
 cases h with
 | mk t l k ws h1 => exact ⟨ws, h1, rfl⟩
theorem jP2 (n : Int) (h : jH0 n) : (Lib.itoa n).length <= 20 := by
 have h2 : ∀ k u, u < 10 ^ (k + 1) -> (Lib.decDigits u).length <= k + 1 := Lx.jJ8
 have h3 := h2 18 n.natAbs (by have := h.1; have := h.2; omega); rw [Lx.jFG]; split
 . rw [List.length_cons]; omega
 . omega
theorem jC5 {α : Type} {g : Node -> R α} {len : α -> List UInt8} : ∀ {l : List Node} {xs : List α} {ws : List Nat}, (∀ n ∈ l, ∀ x W, g n = .ok x -> NW n W -> (len x).length + 1 <= W) -> each g l = .ok xs -> All2 NW l ws -> ((xs.map len).map fun x => x.length + 1).sum <= ws.sum := by
 intro l
 induction l with
 | nil =>
   intro xs ws _ h hw; simp only [each, Except.ok.injEq] at h; subst h; simp
 | cons n r ih =>
   intro xs ws hg h hw; cases hw with
   | @cons _ W _ ws h1 h2 =>
     simp only [each] at h; cases hf : g n with
     | error p => rw [hf] at h; cases h
     | ok x =>
       rw [hf] at h; cases hr : each g r with
       | error p => rw [hr] at h; cases h
       | ok ys =>
         rw [hr] at h; simp only [Except.ok.injEq] at h; subst h; have e1 := hg n (by simp) x W hf h1; have e2 := ih (fun m hm => hg m (by simp [hm])) hr h2; simp only [List.map_cons, List.sum_cons]; omega
end Px
end Go.Proofs.YtnhndamfbeiljaaGreatDoor
