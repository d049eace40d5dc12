/-
  Several texts in one: PShowNum, PShown, PShT.
-/
import Derived.Test.YtnhndamfbeiljaaGreatDoorGTok
import Derived.Test.YtnhndamfbeiljaaGreatDoorGRow
import Derived.Lib.AppendIntMem
import Derived.Test.YtnhndamfbeiljaaGreatDoorGTop
import Derived.Test.YtnhndamfbeiljaaGreatDoorKPDef
import Derived.StillTailTactics
import Derived.BigRegion
namespace Go.Proofs.YtnhndamfbeiljaaGreatDoor
open Go Go.RowKit
set_option linter.unusedVariables false
set_option linter.unusedSimpArgs false

set_option maxRecDepth 100000 in
theorem refNum_any (n : Int) (h0 : -9223372036854775808 ≤ n) (h1 : n ≤ 9223372036854775807) (w : World) (htab : Lib.TabIs Tryz.prog w "internal/strconv.uint64pow10" .u64 Lib.pow10Tab) :
    Calls Tryz.prog 35 #[.int .i64 n] w fun e w' => e = .returned (.string ⟨(Lib.itoa n).toArray⟩) ∧ Below w.heap.size w w' := by
  go_enter Tryz.func35, Tryz.ntmps35
  go_wp2_with fail
  have hc : Calls Tryz.prog 73 #[.int .i64 n, .int .i64 10] w fun e w' => e = .returned (.string ⟨(Lib.itoa n).toArray⟩) ∧ Below w.heap.size w w' := by
    refine (Tryz.strconv_FormatInt_10 n h0 h1 w htab).mono ?_
    rintro e w' ⟨rfl, k, os, rfl⟩
    exact ⟨rfl, Lib.below_grow _ _ (Nat.le_refl _) _ _⟩
  refine hc.mono ?_
  rintro e w1 ⟨rfl, hb⟩
  go_wp2_with fail
  go_ret
  exact ⟨rfl, hb⟩
end Go.Proofs.YtnhndamfbeiljaaGreatDoor

namespace Go.Proofs.YtnhndamfbeiljaaGreatDoor
open Go Go.RowKit
set_option linter.unusedVariables false
set_option linter.unusedSimpArgs false
namespace Px

def showT : Nat → TypeE → List UInt8
  | 0, _ => []
  | f + 1, .mk _ nm args => if args = [] then nm else joined (nm :: args.map (showT f))
def showP : Nat → Pat → List UInt8
  | 0, _ => []
  | f + 1, .mk k _ nm i args => if k = 0 then [95] else if k = 2 then Lib.itoa i else if args = [] then nm else joined (nm :: args.map (showP f))
def showE : Nat → Expr → List UInt8
  | 0, _ => []
  | f + 1, .mk k _ nm i ns xs al =>
    let l := xs.map (showE f)
    if l = [] ∧ (k = 3 ∨ k = 5) ∨ k = 4 ∧ l.length ≠ ns.length + 1 then [63]
    else if k = 0 then Lib.itoa i
    else if k = 1 then nm
    else if k = 2 then (if l = [] then nm else joined (nm :: l))
    else if k = 7 then joined (nm :: l)
    else if k = 3 then joined [[102, 110], joined ns, l.headD []]
    else if k = 6 then joined l
    else if k = 8 then [102, 97, 105, 108]
    else if k = 4 then joined [[108, 101, 116], joined ((ns.zip l).map fun p => joined [p.1, p.2]), l.getLastD []]
    else joined ([99, 97, 115, 101] :: l.headD [] :: al.map fun a => joined [showP f a.1, showE f a.2])
def showCon (f : Nat) (c : Con) : List UInt8 := joined (c.name :: c.fields.map (showT f))
def showData (f : Nat) (d : Data) : List UInt8 := joined ([100, 97, 116, 97] :: d.name :: joined d.params :: d.cons.map (showCon f))
def showDef (f : Nat) (d : Def) : List UInt8 := joined [[100, 101, 102], d.name, joined d.params, showE f d.body]
def showProg (f : Nat) (p : Prog) : List UInt8 := (p.datas.map fun d => showData f d ++ [10]).flatten ++ (p.defs.map fun d => showDef f d ++ [10]).flatten

end Px
end Go.Proofs.YtnhndamfbeiljaaGreatDoor

namespace Go.Proofs.YtnhndamfbeiljaaGreatDoor
open Go Go.RowKit
set_option linter.unusedVariables false
set_option linter.unusedSimpArgs false

/-- The call's own list of texts. -/
def strVs (l : List (List UInt8)) : List Value := l.map fun s => .string ⟨s.toArray⟩
theorem strVs_snoc (l : List (List UInt8)) (s : List UInt8) : strVs (l ++ [s]) = strVs l ++ [.string ⟨s.toArray⟩] := by simp [strVs]
theorem strVs_len (l : List (List UInt8)) : (strVs l).length = l.length := by simp [strVs]
theorem row_of_own {w : World} {base : Nat} {v : Value} {l : List (List UInt8)} {n : Nat} (h : w.ownsRow base 9 1 v n (strVs l)) : RowAt 1 (StrAt w) w v l := by
  have hl : l.length = n := by have := h.1; simpa [strVs] using this
  subst hl
  rcases h.2 with ⟨rfl, hn⟩ | ⟨g, cap, cur, rfl, hb, hh, hn, hm, hsz, htk⟩
  · exact .inl ⟨List.eq_nil_of_length_eq_zero hn, none, 0, rfl⟩
  · refine .inr ⟨g, 0, cap, rfl, by omega, by unfold maxLen at hm; omega, fun i x hx => ⟨_, rfl, rfl, fun j z hz => ?_⟩⟩
    have hj : j = 0 := by
      have := (Array.getElem?_eq_some_iff.1 hz).1
      simp [Value.cells] at this; exact this
    subst hj
    have hz' : z = .string ⟨x.toArray⟩ := by simpa [Value.cells] using hz.symm
    subst hz'
    have := World.ownsRow.cells h rfl i (.string ⟨x.toArray⟩) (by unfold strVs; rw [List.getElem?_map, hx]; rfl)
    have e : (⟨g, 0, none⟩ : Addr).add i = ⟨g, 0 + i * 1 + 0, none⟩ := by unfold Addr.add; split <;> simp_all
    rw [e] at this; exact this

/-- The parts of a list's text are no longer than it. -/
theorem glue_mem (l : List (List UInt8)) : ∀ x ∈ l, x.length ≤ (glue l).length := by
  cases l with
  | nil => intro x h; cases h
  | cons a r =>
    intro x h
    simp only [glue, List.length_append]
    rcases List.mem_cons.1 h with rfl | h
    · omega
    · have : ∀ r : List (List UInt8), x ∈ r → x.length ≤ (r.flatMap fun y => 32 :: y).length := by
        intro r
        induction r with
        | nil => intro h; cases h
        | cons b r ih =>
          intro h
          simp only [List.flatMap_cons, List.length_append, List.length_cons]
          rcases List.mem_cons.1 h with rfl | h
          · omega
          · have := ih h; omega
      have := this r h
      omega
theorem joined_len (l : List (List UInt8)) : (joined l).length = (glue l).length + 2 := by simp [joined]

theorem glue_count (l : List (List UInt8)) : l.length ≤ (glue l).length + 1 := by
  cases l with
  | nil => simp
  | cons a r =>
    have : ∀ r : List (List UInt8), r.length ≤ (r.flatMap fun y => 32 :: y).length := by
      intro r
      induction r with
      | nil => simp
      | cons b r ih => simp only [List.flatMap_cons, List.length_append, List.length_cons]; omega
    have := this r
    simp only [glue, List.length_append, List.length_cons]; omega

theorem typeAt_form (f : Nat) (w : World) (v : Value) (x : Px.TypeE) (h : TypeAt f w v x) : ∃ (p : Int) (s : ByteArray) (q1 : Option Addr) (n1 c1 : Nat), v = .agg #[.int .i64 p, .string s, .slice q1 n1 c1] := by
  cases f with
  | zero => exact h.elim
  | succ f =>
    obtain ⟨p, nm, args⟩ := x
    obtain ⟨av, rfl, h1⟩ := h
    obtain ⟨q1, c1, rfl⟩ := h1.len
    exact ⟨_, _, _, _, _, rfl⟩
theorem typeAt_below : ∀ {f : Nat} {w w' : World} {v : Value} {t : Px.TypeE}, TypeAt f w v t → Below w.heap.size w w' → TypeAt f w' v t := by
  intro f
  induction f with
  | zero => intro w w' v t h; exact h.elim
  | succ f ih =>
    intro w w' v t h hb
    obtain ⟨p, nm, args⟩ := t
    obtain ⟨av, rfl, h1⟩ := h
    exact ⟨av, rfl, h1.mono hb (fun u x _ hu => ih hu hb)⟩
theorem patAt_below : ∀ {f : Nat} {w w' : World} {v : Value} {t : Px.Pat}, PatAt f w v t → Below w.heap.size w w' → PatAt f w' v t := by
  intro f
  induction f with
  | zero => intro w w' v t h; exact h.elim
  | succ f ih =>
    intro w w' v t h hb
    obtain ⟨k, p, nm, i, args⟩ := t
    obtain ⟨av, rfl, h1⟩ := h
    exact ⟨av, rfl, h1.mono hb (fun u x _ hu => ih hu hb)⟩
theorem exprAt_below : ∀ {f : Nat} {w w' : World} {v : Value} {t : Px.Expr}, ExprAt f w v t → Below w.heap.size w w' → ExprAt f w' v t := by
  intro f
  induction f with
  | zero => intro w w' v t h; exact h.elim
  | succ f ih =>
    intro w w' v t h hb
    obtain ⟨k, p, nm, i, ns, xs, al⟩ := t
    obtain ⟨nv, xv, av, rfl, h1, h2, h3⟩ := h
    refine ⟨nv, xv, av, rfl, h1.mono hb (fun u x _ hu => hu), h2.mono hb (fun u x _ hu => ih hu hb), h3.mono hb (fun u x _ hu => ?_)⟩
    obtain ⟨a0, a1, a2, a3, a4, b0, b1, b2, b3, b4, b5, b6, e, ha, hx⟩ := hu
    exact ⟨a0, a1, a2, a3, a4, b0, b1, b2, b3, b4, b5, b6, e, patAt_below ha hb, ih hx hb⟩
theorem strRow_below {w w' : World} {v : Value} {l : List (List UInt8)} (h : RowAt 1 (StrAt w) w v l) (hb : Below w.heap.size w w') : RowAt 1 (StrAt w') w' v l := h.mono hb (fun u x _ hu => hu)

theorem newText (w : World) (s : List UInt8) (T : TypeId) (j : Nat) (u : Value) (h : ([.string ⟨s.toArray⟩] : List Value)[j]? = some u) :
    (w.alloc (.cells #[.string ⟨s.toArray⟩] T)).cell? ((⟨w.heap.size, 0, none⟩ : Addr).add j) = some u := newStr w ⟨s.toArray⟩ T j u h
theorem one_text (s : List UInt8) : ∀ u ∈ ([.string ⟨s.toArray⟩] : List Value), u.oneCell' = true := by simp [Value.oneCell']

theorem num_any (n : Int) (h0 : -9223372036854775808 ≤ n) (h1 : n ≤ 9223372036854775807) (w : World) (htab : Lib.TabIs Tryz.prog w "internal/strconv.uint64pow10" .u64 Lib.pow10Tab) :
    Calls Tryz.prog 35 #[.int .i64 n] w fun e w' => e = .returned (.string ⟨(Lib.itoa n).toArray⟩) ∧ Below w.heap.size w w' := refNum_any n h0 h1 w htab

set_option maxHeartbeats 2000000 in
set_option maxRecDepth 100000 in
theorem showType_any : ∀ (f : Nat) (v : Value) (t : Px.TypeE) (w : World), TypeAt f w v t → (Px.showT f t).length ≤ 800000 →
    Calls Tryz.prog 13 #[v] w fun e w' => e = .returned (.string ⟨(Px.showT f t).toArray⟩) ∧ Below w.heap.size w w' := by
  intro f
  induction f with
  | zero => intro v t w h; exact h.elim
  | succ f ih =>
    intro v t w h hlen
    obtain ⟨p, nm, args⟩ := t
    obtain ⟨av, rfl, hargs⟩ := h
    obtain ⟨q, c, rfl⟩ := hargs.len
    obtain ⟨i0, hi, hz0, hz1, hz2⟩ := info_parts infoStr
    have HI1 := Lib.hid hz1; have HI2 := Lib.hid hz2; have HI0 := Lib.hid hz0; have HI := Lib.hid hi
    clear hi hz0 hz1 hz2
    have HA := Lib.hid hargs
    have IH := Lib.hid ih
    obtain ⟨out, hout⟩ : ∃ out, out = Px.showT (f + 1) (.mk p nm args) := ⟨_, rfl⟩
    rw [← hout] at hlen ⊢
    have HOUT := Lib.hid hout
    clear hargs ih hout
    go_enter Tryz.func13, Tryz.ntmps13
    by_cases he : args = []
    · subst he
      have ho : out = nm := by rw [HOUT.out]; rfl
      subst ho
      go_wp2_with fail
      go_ret
      exact ⟨rfl, (Below.refl _ _).alloc (Nat.le_refl _) _⟩
    · have hne : ¬ ((args.length : Int) = 0) := by have := List.length_pos_iff.2 he; omega
      have hb0 : ((args.length : Int) == 0) = false := by simpa using hne
      have ho : out = joined (nm :: args.map (Px.showT f)) := by rw [HOUT.out, Px.showT, if_neg he]
      go_wp2_with fail
      have hg : (glue (nm :: args.map (Px.showT f))).length ≤ 799998 := by have := hlen; rw [ho, joined_len] at this; omega
      have hcnt := glue_count (nm :: args.map (Px.showT f))
      have hpart : ∀ t ∈ args, (Px.showT f t).length ≤ 800000 := fun t ht => by have := glue_mem (nm :: args.map (Px.showT f)) (Px.showT f t) (List.mem_cons_of_mem _ (List.mem_map_of_mem ht)); omega
      have hal : args.length ≤ 800000 := by simp only [List.length_cons, List.length_map] at hcnt; omega
      have HG := Lib.hid hg; have HPART := Lib.hid hpart; have HO := Lib.hid ho
      clear hg hcnt hpart ho hlen
      obtain ⟨g0, hg0⟩ : ∃ g0, g0 = w.heap.size + 1 := ⟨_, rfl⟩
      have hal1 : (w.alloc (.cells #[.int .i64 p, .string ⟨nm.toArray⟩, .slice q args.length c] 42)).heap.size = w.heap.size + 1 := by simp
      have hown := World.ownsRow_lit (base := w.heap.size + 1) (e := 9) (size := 1) (w.alloc (.cells #[.int .i64 p, .string ⟨nm.toArray⟩, .slice q args.length c] 42)) #[.string ⟨nm.toArray⟩] 1 (by rw [hal1]; exact Nat.le_refl _) (by unfold maxLen; omega) rfl
      rw [hal1] at hown
      have HOWN := Lib.hid hown
      have HB0 := Lib.hid ((((Below.refl w.heap.size w).alloc (Nat.le_refl _) (.cells #[.int .i64 p, .string ⟨nm.toArray⟩, .slice q args.length c] 42)).alloc (by simp) (.cells #[.string ⟨nm.toArray⟩] 9)))
      have EN := Lib.hid (ent_alloc (ent_new w #[.int .i64 p, .string ⟨nm.toArray⟩, .slice q args.length c] 42) (.cells #[.string ⟨nm.toArray⟩] 9))
      clear hown hal1 hg0
      go_loopw [3, 4] (fun lv i wr => ∃ k : Nat, i = .int .i64 k ∧ k ≤ args.length ∧ Hid (wr.ownsRow (w.heap.size + 1) 9 1 lv (k + 1) (strVs (nm :: (args.map (Px.showT f)).take k))) ∧
        Hid (wr.heap[w.heap.size]? = some (.cells #[.int .i64 p, .string ⟨nm.toArray⟩, .slice q args.length c] 42 (0, 0))) ∧ Hid (Below w.heap.size w wr)) (fun _ i _ => args.length - (intOf i).toNat)
      case atStart => exact ⟨0, rfl, Nat.zero_le _, HOWN, EN, HB0⟩
      case round =>
        clear HOWN EN HB0
        obtain ⟨k, rfl, hk, HOWN, EN, HB⟩ := hrel
        have ef := ent_free EN.out
        have e1 := ent_cell EN.out 1 _ rfl
        have e2 := ent_cell EN.out 2 _ rfl
        by_cases hlt : k < args.length
        · obtain ⟨t, ht⟩ : ∃ t, args[k]? = some t := ⟨_, List.getElem?_eq_getElem hlt⟩
          rcases HA.out with ⟨h, _⟩ | ⟨g, o, c', hv, h1, h2, h3⟩
          · exact absurd h he
          injection hv with hq _ hc
          subst hq; subst hc
          obtain ⟨u, hu, hus, huc⟩ := h3 k t ht
          obtain ⟨tp, ts, q1, n1, c1, rfl⟩ := typeAt_form f _ _ _ hu
          have c0 := huc 0 _ rfl; have c1' := huc 1 _ rfl; have c2 := huc 2 _ rfl
          replace c0 := (HB.out.cell (World.block_lt_of_cell? w _ c0)).trans c0
          replace c1' := (HB.out.cell (World.block_lt_of_cell? w _ c1')).trans c1'
          replace c2 := (HB.out.cell (World.block_lt_of_cell? w _ c2)).trans c2
          rw [Nat.add_zero] at c0
          have HU := Lib.hid (typeAt_below hu HB.out)
          have HT := Lib.hid ht
          have hpl := HPART.out t (List.mem_of_getElem? ht)
          clear h3 huc hu hus ht
          go_wp2_with fail
          refine (IH.out _ t _ HU.out hpl).mono ?_
          rintro e w2 ⟨rfl, hb2⟩
          have hown2 := own_kept HOWN.out hb2
          have HOWN2 := Lib.hid hown2
          have EN2 := Lib.hid (ent_below EN.out hb2)
          have HB2 := Lib.hid (HB.out.trans (hb2.mono HB.out.size))
          have hs2 := HB2.out.size
          have hen := ent_lt EN2.out
          obtain ⟨S, hS⟩ : ∃ S, S = Px.showT f t := ⟨_, rfl⟩
          rw [← hS]
          have HS := Lib.hid hS
          clear hb2 hown2 hS hpl
          go_wp2_with (at_builtin; refine wpList_append_loc _ rfl (.tmp 21) (.tmp 28) 33 rfl (w.heap.size + 1) 9 i0 (.string ⟨#[]⟩) 1 16 Tryz.underlying33 HI.out HI0.out HI1.out HI2.out rfl (by decide) _ (k + 1) _ rfl (HOWN2.out.alloc _) ⟨w2.heap.size, 0, none⟩ 1 1 [.string ⟨S.toArray⟩] rfl (by decide) rfl ?c1 ?c2 ?c3 ?c4 ?c5 ?_)
          case c1 => exact fun j u h => newText w2 S _ j u h
          case c2 => exact one_text S
          case c3 => unfold maxLen; omega
          case c4 => omega
          case c5 => simp; omega
          intro v' w3 hown3 hgr hloc
          have hB3 := (HB2.out.alloc hs2 (.cells #[.string ⟨S.toArray⟩] 9)).grown hgr (by simp; omega) (fun kk hkk => by have := (HOWN2.out.lt kk hkk).1; omega)
          have hEN3 : w3.heap[w.heap.size]? = some (.cells #[.int .i64 p, .string ⟨nm.toArray⟩, .slice (some ⟨g, o, none⟩) args.length c] 42 (0, 0)) :=
            (hgr.block _ (by simp; omega) (fun e => by have := (HOWN2.out.lt _ e.symm).1; omega)).trans (ent_alloc EN2.out _)
          have hl3 : strVs (nm :: (args.map (Px.showT f)).take k) ++ [.string ⟨S.toArray⟩] = strVs (nm :: (args.map (Px.showT f)).take (k + 1)) := by
            rw [← strVs_snoc, List.take_add_one, List.getElem?_map, HT.out, HS.out]; simp
          rw [hl3] at hown3
          have H1 := Lib.hid hown3; have H2 := Lib.hid hEN3; have H3 := Lib.hid hB3
          clear hown3 hEN3 hB3 hgr hloc hl3 e1 e2 ef c0 c1' c2
          go_wp2
          go_roundw
          case rel => exact ⟨k + 1, by go_num, by omega, H1, H2, H3⟩
          case measure => simp [intOf]; omega
        · obtain rfl : k = args.length := by omega
          have hj := join_any _ _ wr (row_of_own HOWN.out) (by rw [show args.length = (args.map (Px.showT f)).length by simp, List.take_length]; exact Nat.le_trans HG.out (by omega))
          rw [show (args.map (Px.showT f)).take args.length = args.map (Px.showT f) by rw [show args.length = (args.map (Px.showT f)).length by simp, List.take_length], ← HO.out] at hj
          obtain ⟨p3, c3, rfl⟩ := own_len HOWN.out
          have HJ := Lib.hid hj
          clear hj
          go_wp2_with fail
          refine HJ.out.mono ?_
          rintro e w2 ⟨rfl, rfl⟩
          go_wp2_with fail
          go_ret
          exact ⟨rfl, HB.out⟩
/-- An integer of 64 bits. -/
def IntOk (i : Int) : Prop := -9223372036854775808 ≤ i ∧ i ≤ 9223372036854775807
def OkP : Nat → Px.Pat → Prop
  | 0, _ => True
  | f + 1, .mk k _ _ i args => (k = 2 → IntOk i) ∧ ∀ a ∈ args, OkP f a

set_option maxHeartbeats 2000000 in
set_option maxRecDepth 100000 in
theorem showPat_any : ∀ (f : Nat) (v : Value) (t : Px.Pat) (w : World), PatAt f w v t → OkP f t → (Px.showP f t).length ≤ 800000 → Lib.TabIs Tryz.prog w "internal/strconv.uint64pow10" .u64 Lib.pow10Tab →
    Calls Tryz.prog 36 #[v] w fun e w' => e = .returned (.string ⟨(Px.showP f t).toArray⟩) ∧ Below w.heap.size w w' := by
  intro f
  induction f with
  | zero => intro v t w h; exact h.elim
  | succ f ih =>
    intro v t w h hok hlen htab
    obtain ⟨kd, p, nm, iv, args⟩ := t
    obtain ⟨hki, hka⟩ := hok
    have HKA := Lib.hid hka; have HTAB := Lib.hid htab
    clear hka htab
    obtain ⟨av, rfl, hargs⟩ := h
    obtain ⟨q, c, rfl⟩ := hargs.len
    obtain ⟨i0, hi, hz0, hz1, hz2⟩ := info_parts infoStr
    have HI1 := Lib.hid hz1; have HI2 := Lib.hid hz2; have HI0 := Lib.hid hz0; have HI := Lib.hid hi
    clear hi hz0 hz1 hz2
    have HA := Lib.hid hargs
    have IH := Lib.hid ih
    obtain ⟨out, hout⟩ : ∃ out, out = Px.showP (f + 1) (.mk kd p nm iv args) := ⟨_, rfl⟩
    rw [← hout] at hlen ⊢
    have HOUT := Lib.hid hout
    clear hargs ih hout
    go_enter Tryz.func36, Tryz.ntmps36
    by_cases hk0 : kd = 0
    · subst hk0
      have ho : out = [95] := by rw [HOUT.out]; rfl
      subst ho
      go_wp2_with fail
      go_ret
      exact ⟨rfl, (Below.refl _ _).alloc (Nat.le_refl _) _⟩
    have hkb0 : ((kd : Int) == 0) = false := by simp; omega
    by_cases hk2 : kd = 2
    · subst hk2
      have ho : out = Lib.itoa iv := by rw [HOUT.out]; rfl
      have hi2 := hki rfl
      go_wp2_with fail
      have hal : Below w.heap.size w (w.alloc (.cells #[.int .i64 2, .int .i64 p, .string ⟨nm.toArray⟩, .int .i64 iv, .slice q args.length c] 84)) := (Below.refl _ _).alloc (Nat.le_refl _) _
      refine (num_any iv hi2.1 hi2.2 _ ((Lib.tabBelow_of_tabIs HTAB.out) _ hal)).mono ?_
      rintro e w2 ⟨rfl, hb2⟩
      have HB2 := Lib.hid (hal.trans (hb2.mono hal.size))
      go_wp2_with fail
      go_ret
      exact ⟨by rw [ho]; rfl, HB2.out⟩
    have hkb2 : ((kd : Int) == 2) = false := by simp; omega
    by_cases he : args = []
    · subst he
      have ho : out = nm := by rw [HOUT.out, Px.showP, if_neg hk0, if_neg hk2, if_pos rfl]
      subst ho
      go_wp2_with fail
      go_ret
      exact ⟨rfl, (Below.refl _ _).alloc (Nat.le_refl _) _⟩
    · have hne : ¬ ((args.length : Int) = 0) := by have := List.length_pos_iff.2 he; omega
      have hb0 : ((args.length : Int) == 0) = false := by simpa using hne
      have ho : out = joined (nm :: args.map (Px.showP f)) := by rw [HOUT.out, Px.showP, if_neg hk0, if_neg hk2, if_neg he]
      go_wp2_with fail
      have hg : (glue (nm :: args.map (Px.showP f))).length ≤ 799998 := by have := hlen; rw [ho, joined_len] at this; omega
      have hcnt := glue_count (nm :: args.map (Px.showP f))
      have hpart : ∀ t ∈ args, (Px.showP f t).length ≤ 800000 := fun t ht => by have := glue_mem (nm :: args.map (Px.showP f)) (Px.showP f t) (List.mem_cons_of_mem _ (List.mem_map_of_mem ht)); omega
      have hal : args.length ≤ 800000 := by simp only [List.length_cons, List.length_map] at hcnt; omega
      have HG := Lib.hid hg; have HPART := Lib.hid hpart; have HO := Lib.hid ho
      clear hg hcnt hpart ho hlen
      obtain ⟨g0, hg0⟩ : ∃ g0, g0 = w.heap.size + 1 := ⟨_, rfl⟩
      have hal1 : (w.alloc (.cells #[.int .i64 kd, .int .i64 p, .string ⟨nm.toArray⟩, .int .i64 iv, .slice q args.length c] 84)).heap.size = w.heap.size + 1 := by simp
      have hown := World.ownsRow_lit (base := w.heap.size + 1) (e := 9) (size := 1) (w.alloc (.cells #[.int .i64 kd, .int .i64 p, .string ⟨nm.toArray⟩, .int .i64 iv, .slice q args.length c] 84)) #[.string ⟨nm.toArray⟩] 1 (by rw [hal1]; exact Nat.le_refl _) (by unfold maxLen; omega) rfl
      rw [hal1] at hown
      have HOWN := Lib.hid hown
      have HB0 := Lib.hid ((((Below.refl w.heap.size w).alloc (Nat.le_refl _) (.cells #[.int .i64 kd, .int .i64 p, .string ⟨nm.toArray⟩, .int .i64 iv, .slice q args.length c] 84)).alloc (by simp) (.cells #[.string ⟨nm.toArray⟩] 9)))
      have EN := Lib.hid (ent_alloc (ent_new w #[.int .i64 kd, .int .i64 p, .string ⟨nm.toArray⟩, .int .i64 iv, .slice q args.length c] 84) (.cells #[.string ⟨nm.toArray⟩] 9))
      clear hown hal1 hg0
      go_loopw [3, 4] (fun lv i wr => ∃ k : Nat, i = .int .i64 k ∧ k ≤ args.length ∧ Hid (wr.ownsRow (w.heap.size + 1) 9 1 lv (k + 1) (strVs (nm :: (args.map (Px.showP f)).take k))) ∧
        Hid (wr.heap[w.heap.size]? = some (.cells #[.int .i64 kd, .int .i64 p, .string ⟨nm.toArray⟩, .int .i64 iv, .slice q args.length c] 84 (0, 0))) ∧ Hid (Below w.heap.size w wr)) (fun _ i _ => args.length - (intOf i).toNat)
      case atStart => exact ⟨0, rfl, Nat.zero_le _, HOWN, EN, HB0⟩
      case round =>
        clear HOWN EN HB0
        obtain ⟨k, rfl, hk, HOWN, EN, HB⟩ := hrel
        have ef := ent_free EN.out
        have e2 := ent_cell EN.out 2 _ rfl
        have e4 := ent_cell EN.out 4 _ rfl
        by_cases hlt : k < args.length
        · obtain ⟨t, ht⟩ : ∃ t, args[k]? = some t := ⟨_, List.getElem?_eq_getElem hlt⟩
          rcases HA.out with ⟨h, _⟩ | ⟨g, o, c', hv, h1, h2, h3⟩
          · exact absurd h he
          injection hv with hq _ hc
          subst hq; subst hc
          obtain ⟨u, hu, hus, huc⟩ := h3 k t ht
          obtain ⟨tk, tp, ti, ts, q1, n1, c1, rfl⟩ := patAt_form f _ _ _ hu
          have c0 := huc 0 _ rfl; have c1' := huc 1 _ rfl; have c2 := huc 2 _ rfl; have c3 := huc 3 _ rfl; have c4 := huc 4 _ rfl
          replace c0 := (HB.out.cell (World.block_lt_of_cell? w _ c0)).trans c0
          replace c1' := (HB.out.cell (World.block_lt_of_cell? w _ c1')).trans c1'
          replace c2 := (HB.out.cell (World.block_lt_of_cell? w _ c2)).trans c2
          replace c3 := (HB.out.cell (World.block_lt_of_cell? w _ c3)).trans c3
          replace c4 := (HB.out.cell (World.block_lt_of_cell? w _ c4)).trans c4
          rw [Nat.add_zero] at c0
          have HU := Lib.hid (patAt_below hu HB.out)
          have HT := Lib.hid ht
          have hpl := HPART.out t (List.mem_of_getElem? ht)
          clear h3 huc hu hus ht
          go_wp2_with fail
          refine (IH.out _ t _ HU.out (HKA.out t (List.mem_of_getElem? HT.out)) hpl ((Lib.tabBelow_of_tabIs HTAB.out) _ HB.out)).mono ?_
          rintro e w2 ⟨rfl, hb2⟩
          have hown2 := own_kept HOWN.out hb2
          have HOWN2 := Lib.hid hown2
          have EN2 := Lib.hid (ent_below EN.out hb2)
          have HB2 := Lib.hid (HB.out.trans (hb2.mono HB.out.size))
          have hs2 := HB2.out.size
          have hen := ent_lt EN2.out
          obtain ⟨S, hS⟩ : ∃ S, S = Px.showP f t := ⟨_, rfl⟩
          rw [← hS]
          have HS := Lib.hid hS
          clear hb2 hown2 hS hpl
          go_wp2_with (at_builtin; refine wpList_append_loc _ rfl (.tmp 30) (.tmp 37) 33 rfl (w.heap.size + 1) 9 i0 (.string ⟨#[]⟩) 1 16 Tryz.underlying33 HI.out HI0.out HI1.out HI2.out rfl (by decide) _ (k + 1) _ rfl (HOWN2.out.alloc _) ⟨w2.heap.size, 0, none⟩ 1 1 [.string ⟨S.toArray⟩] rfl (by decide) rfl ?c1 ?c2 ?c3 ?c4 ?c5 ?_)
          case c1 => exact fun j u h => newText w2 S _ j u h
          case c2 => exact one_text S
          case c3 => unfold maxLen; omega
          case c4 => omega
          case c5 => simp; omega
          intro v' w3 hown3 hgr hloc
          have hB3 := (HB2.out.alloc hs2 (.cells #[.string ⟨S.toArray⟩] 9)).grown hgr (by simp; omega) (fun kk hkk => by have := (HOWN2.out.lt kk hkk).1; omega)
          have hEN3 : w3.heap[w.heap.size]? = some (.cells #[.int .i64 kd, .int .i64 p, .string ⟨nm.toArray⟩, .int .i64 iv, .slice (some ⟨g, o, none⟩) args.length c] 84 (0, 0)) :=
            (hgr.block _ (by simp; omega) (fun e => by have := (HOWN2.out.lt _ e.symm).1; omega)).trans (ent_alloc EN2.out _)
          have hl3 : strVs (nm :: (args.map (Px.showP f)).take k) ++ [.string ⟨S.toArray⟩] = strVs (nm :: (args.map (Px.showP f)).take (k + 1)) := by
            rw [← strVs_snoc, List.take_add_one, List.getElem?_map, HT.out, HS.out]; simp
          rw [hl3] at hown3
          have H1 := Lib.hid hown3; have H2 := Lib.hid hEN3; have H3 := Lib.hid hB3
          clear hown3 hEN3 hB3 hgr hloc hl3 e2 e4 ef c0 c1' c2 c3 c4
          go_wp2
          go_roundw
          case rel => exact ⟨k + 1, by go_num, by omega, H1, H2, H3⟩
          case measure => simp [intOf]; omega
        · obtain rfl : k = args.length := by omega
          have hj := join_any _ _ wr (row_of_own HOWN.out) (by rw [show args.length = (args.map (Px.showP f)).length by simp, List.take_length]; exact Nat.le_trans HG.out (by omega))
          rw [show (args.map (Px.showP f)).take args.length = args.map (Px.showP f) by rw [show args.length = (args.map (Px.showP f)).length by simp, List.take_length], ← HO.out] at hj
          obtain ⟨p3, c3, rfl⟩ := own_len HOWN.out
          have HJ := Lib.hid hj
          clear hj
          go_wp2_with fail
          refine HJ.out.mono ?_
          rintro e w2 ⟨rfl, rfl⟩
          go_wp2_with fail
          go_ret
          exact ⟨rfl, HB.out⟩
end Go.Proofs.YtnhndamfbeiljaaGreatDoor
