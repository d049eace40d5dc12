/-
  Several texts in one: WNamed, WIs, WBound.
-/
import Derived.Test.YtnhndamfbeiljaaGreatDoorKWNode
import Derived.Test.YtnhndamfbeiljaaGreatDoorGSwC
import Derived.Test.YtnhndamfbeiljaaGreatDoorGSwD
import Derived.BigQuiet
namespace Go.Proofs.YtnhndamfbeiljaaGreatDoor
open Go Go.RowKit
set_option linter.unusedVariables false
set_option linter.unusedSimpArgs false
namespace Sw
set_option maxHeartbeats 2000000 in
set_option maxRecDepth 100000 in
theorem namedTypeE_any {α : Type} (rep : Value → α → Prop) (hsh : ∀ u x, rep u x → IsTypeE u) (mk : α → Nd) (g : Nat) {w0 : World} (hmk : ∀ w v x, Clo 134 75 42 g rep w v x → NodeV w0 w v (mk x)) {B : Nat} {w : World} {T : List UInt8} {S : List Nd} (h : St w0 B w T S)
    (nm : List UInt8) (q : Option Addr) (n c : Nat) (xs : List α) (hx : RowAt 3 rep w (.slice q n c) xs) (hs : Small T S (named nm (xs.map mk))) :
    Calls Tryz.prog 61 #[.pointer (some ⟨B, 0, none⟩), .string ⟨nm.toArray⟩, .slice q n c, .func (.func g) #[] #[]] w (Did w0 B T S (named nm (xs.map mk))) := by
  obtain ⟨q', c', he⟩ := hx.len
  obtain ⟨rfl, rfl, rfl⟩ := (Value.slice.injEq ..).mp he
  clear he
  have H := Lib.hid h
  have HX := Lib.hid hx
  have HSH := Lib.hid hsh
  have HMK := Lib.hid hmk
  by_cases h0 : xs = []
  · subst h0
    have hs0 : named nm (([] : List α).map mk) = (wd nm, []) := rfl
    rw [hs0] at hs ⊢
    have HS := Lib.hid hs
    clear h hx hsh hmk hs hs0
    go_enter Tryz.func61, Tryz.ntmps61
    go_wp2_with fail
    refine (wordN H.out nm HS.out).mono ?_
    rintro e w1 ⟨rfl, hd⟩
    go_wp2_with fail
    go_end0
    exact ⟨rfl, hd⟩
  · have hs0 : named nm (xs.map mk) = ([40], weave (.word nm :: xs.map mk)) := by unfold named; rw [if_neg (by simpa using h0)]
    rw [hs0] at hs ⊢
    have HS := Lib.hid hs
    have hpos : ¬ ((xs.length : Int) = 0) := by have := List.length_pos_iff.2 h0; omega
    have hposb : ((xs.length : Int) == 0) = false := by simpa using hpos
    have HN : Hid (xs.length ≤ 1000000) := Lib.hid (by have := hs.2; have h2 := weave_len (.word nm :: xs.map mk); simp only [List.length_append, List.length_cons, List.length_map] at this h2; omega)
    clear h hx hsh hmk hs hs0 h0
    go_enter Tryz.func61, Tryz.ntmps61
    go_wp2_with fail
    have hr1 := row_made w [nm] (by simp)
    have hb1 : Below w.heap.size w (w.alloc (.cells ([nm].map fun s => Value.string ⟨s.toArray⟩).toArray 9)) := (Below.refl _ _).alloc (Nat.le_refl _) _
    have HR1 := Lib.hid hr1
    have HB1 := Lib.hid hb1
    clear hr1 hb1
    refine (words_any _ [nm] _ HR1.out (by simp)).mono ?_
    rintro e w2 ⟨rv, vs, rfl, hb2, hown2, hrr2⟩
    obtain ⟨p2, c2, rfl⟩ := own_sl hown2
    have HB2 := Lib.hid (HB1.out.trans (hb2.mono HB1.out.size))
    have HO2 := Lib.hid hown2
    have HR2 : Hid (Reps (NodeV w0 w2) vs [.word nm]) := Lib.hid (reps_map (rep' := NodeV w0 w2) (mk := .word) (fun v x hv => hv) hrr2)
    have hsz1 := HB1.out.size
    clear hb2 hown2 hrr2
    go_wp2_with fail
    refine (allTypeE_any rep HSH.out _ xs g w2 (row_below HX.out HB2.out) HN.out).mono ?_
    rintro e w3 ⟨rv3, vs3, rfl, hb3, hown3, hrr3⟩
    obtain ⟨p3, c3, rfl⟩ := own_sl hown3
    have HB3 := Lib.hid (HB2.out.trans (hb3.mono HB2.out.size))
    have HV2 : Hid (VRow w.heap.size w3 (.slice p2 [nm].length c2) vs) := Lib.hid (VRow.below (own_vrowN HO2.out hsz1 HR2.out) hb3)
    have HR2' := Lib.hid (reps_keep hb3 HR2.out)
    have HR3 : Hid (Reps (NodeV w0 w3) vs3 (xs.map mk)) := Lib.hid (reps_map (rep' := NodeV w0 w3) (fun v x hv => HMK.out w3 v x hv) hrr3)
    have HV3 : Hid (VRow w.heap.size w3 (.slice p3 xs.length c3) vs3) := Lib.hid (own_vrowN hown3 HB2.out.size HR3.out)
    clear hb3 hown3 hrr3
    go_wp2_with fail
    have hb4 : Below w3.heap.size w3 (w3.alloc (.cells #[.slice p2 1 c2, .slice p3 xs.length c3] 120)) := (Below.refl _ _).alloc (Nat.le_refl _) _
    refine (listN H.out (HB3.out.trans (hb4.mono HB3.out.size)) _ _ _ [vs, vs3] [[.word nm], xs.map mk] (.word nm :: xs.map mk) (by simp)
      (grow_of (lo := w.heap.size) (ls := [vs, vs3]) (wk := w3) (ss := [.slice p2 1 c2, .slice p3 xs.length c3]) ⟨HV2.out, HV3.out, trivial⟩ HB3.out.size (by simp) rfl rfl) ⟨reps_keep hb4 HR2'.out, reps_keep hb4 HR3.out, trivial⟩ HS.out (by simp)).mono ?_
    rintro e w5 ⟨⟨rfl, hd⟩, _⟩
    go_wp2_with fail
    go_end0
    exact ⟨rfl, hd⟩
set_option maxHeartbeats 2000000 in
set_option maxRecDepth 100000 in
theorem namedPat_any {α : Type} (rep : Value → α → Prop) (hsh : ∀ u x, rep u x → IsPat u) (mk : α → Nd) (g : Nat) {w0 : World} (hmk : ∀ w v x, Clo 149 150 84 g rep w v x → NodeV w0 w v (mk x)) {B : Nat} {w : World} {T : List UInt8} {S : List Nd} (h : St w0 B w T S)
    (nm : List UInt8) (q : Option Addr) (n c : Nat) (xs : List α) (hx : RowAt 5 rep w (.slice q n c) xs) (hs : Small T S (named nm (xs.map mk))) :
    Calls Tryz.prog 110 #[.pointer (some ⟨B, 0, none⟩), .string ⟨nm.toArray⟩, .slice q n c, .func (.func g) #[] #[]] w (Did w0 B T S (named nm (xs.map mk))) := by
  obtain ⟨q', c', he⟩ := hx.len
  obtain ⟨rfl, rfl, rfl⟩ := (Value.slice.injEq ..).mp he
  clear he
  have H := Lib.hid h
  have HX := Lib.hid hx
  have HSH := Lib.hid hsh
  have HMK := Lib.hid hmk
  by_cases h0 : xs = []
  · subst h0
    have hs0 : named nm (([] : List α).map mk) = (wd nm, []) := rfl
    rw [hs0] at hs ⊢
    have HS := Lib.hid hs
    clear h hx hsh hmk hs hs0
    go_enter Tryz.func110, Tryz.ntmps110
    go_wp2_with fail
    refine (wordN H.out nm HS.out).mono ?_
    rintro e w1 ⟨rfl, hd⟩
    go_wp2_with fail
    go_end0
    exact ⟨rfl, hd⟩
  · have hs0 : named nm (xs.map mk) = ([40], weave (.word nm :: xs.map mk)) := by unfold named; rw [if_neg (by simpa using h0)]
    rw [hs0] at hs ⊢
    have HS := Lib.hid hs
    have hpos : ¬ ((xs.length : Int) = 0) := by have := List.length_pos_iff.2 h0; omega
    have hposb : ((xs.length : Int) == 0) = false := by simpa using hpos
    have HN : Hid (xs.length ≤ 1000000) := Lib.hid (by have := hs.2; have h2 := weave_len (.word nm :: xs.map mk); simp only [List.length_append, List.length_cons, List.length_map] at this h2; omega)
    clear h hx hsh hmk hs hs0 h0
    go_enter Tryz.func110, Tryz.ntmps110
    go_wp2_with fail
    have hr1 := row_made w [nm] (by simp)
    have hb1 : Below w.heap.size w (w.alloc (.cells ([nm].map fun s => Value.string ⟨s.toArray⟩).toArray 9)) := (Below.refl _ _).alloc (Nat.le_refl _) _
    have HR1 := Lib.hid hr1
    have HB1 := Lib.hid hb1
    clear hr1 hb1
    refine (words_any _ [nm] _ HR1.out (by simp)).mono ?_
    rintro e w2 ⟨rv, vs, rfl, hb2, hown2, hrr2⟩
    obtain ⟨p2, c2, rfl⟩ := own_sl hown2
    have HB2 := Lib.hid (HB1.out.trans (hb2.mono HB1.out.size))
    have HO2 := Lib.hid hown2
    have HR2 : Hid (Reps (NodeV w0 w2) vs [.word nm]) := Lib.hid (reps_map (rep' := NodeV w0 w2) (mk := .word) (fun v x hv => hv) hrr2)
    have hsz1 := HB1.out.size
    clear hb2 hown2 hrr2
    go_wp2_with fail
    refine (allPat_any rep HSH.out _ xs g w2 (row_below HX.out HB2.out) HN.out).mono ?_
    rintro e w3 ⟨rv3, vs3, rfl, hb3, hown3, hrr3⟩
    obtain ⟨p3, c3, rfl⟩ := own_sl hown3
    have HB3 := Lib.hid (HB2.out.trans (hb3.mono HB2.out.size))
    have HV2 : Hid (VRow w.heap.size w3 (.slice p2 [nm].length c2) vs) := Lib.hid (VRow.below (own_vrowN HO2.out hsz1 HR2.out) hb3)
    have HR2' := Lib.hid (reps_keep hb3 HR2.out)
    have HR3 : Hid (Reps (NodeV w0 w3) vs3 (xs.map mk)) := Lib.hid (reps_map (rep' := NodeV w0 w3) (fun v x hv => HMK.out w3 v x hv) hrr3)
    have HV3 : Hid (VRow w.heap.size w3 (.slice p3 xs.length c3) vs3) := Lib.hid (own_vrowN hown3 HB2.out.size HR3.out)
    clear hb3 hown3 hrr3
    go_wp2_with fail
    have hb4 : Below w3.heap.size w3 (w3.alloc (.cells #[.slice p2 1 c2, .slice p3 xs.length c3] 120)) := (Below.refl _ _).alloc (Nat.le_refl _) _
    refine (listN H.out (HB3.out.trans (hb4.mono HB3.out.size)) _ _ _ [vs, vs3] [[.word nm], xs.map mk] (.word nm :: xs.map mk) (by simp)
      (grow_of (lo := w.heap.size) (ls := [vs, vs3]) (wk := w3) (ss := [.slice p2 1 c2, .slice p3 xs.length c3]) ⟨HV2.out, HV3.out, trivial⟩ HB3.out.size (by simp) rfl rfl) ⟨reps_keep hb4 HR2'.out, reps_keep hb4 HR3.out, trivial⟩ HS.out (by simp)).mono ?_
    rintro e w5 ⟨⟨rfl, hd⟩, _⟩
    go_wp2_with fail
    go_end0
    exact ⟨rfl, hd⟩
set_option maxHeartbeats 2000000 in
set_option maxRecDepth 100000 in
theorem namedExpr_any {α : Type} (rep : Value → α → Prop) (hsh : ∀ u x, rep u x → IsExpr u) (mk : α → Nd) (g : Nat) {w0 : World} (hmk : ∀ w v x, Clo 104 79 47 g rep w v x → NodeV w0 w v (mk x)) {B : Nat} {w : World} {T : List UInt8} {S : List Nd} (h : St w0 B w T S)
    (nm : List UInt8) (q : Option Addr) (n c : Nat) (xs : List α) (hx : RowAt 7 rep w (.slice q n c) xs) (hs : Small T S (named nm (xs.map mk))) :
    Calls Tryz.prog 72 #[.pointer (some ⟨B, 0, none⟩), .string ⟨nm.toArray⟩, .slice q n c, .func (.func g) #[] #[]] w (Did w0 B T S (named nm (xs.map mk))) := by
  obtain ⟨q', c', he⟩ := hx.len
  obtain ⟨rfl, rfl, rfl⟩ := (Value.slice.injEq ..).mp he
  clear he
  have H := Lib.hid h
  have HX := Lib.hid hx
  have HSH := Lib.hid hsh
  have HMK := Lib.hid hmk
  by_cases h0 : xs = []
  · subst h0
    have hs0 : named nm (([] : List α).map mk) = (wd nm, []) := rfl
    rw [hs0] at hs ⊢
    have HS := Lib.hid hs
    clear h hx hsh hmk hs hs0
    go_enter Tryz.func72, Tryz.ntmps72
    go_wp2_with fail
    refine (wordN H.out nm HS.out).mono ?_
    rintro e w1 ⟨rfl, hd⟩
    go_wp2_with fail
    go_end0
    exact ⟨rfl, hd⟩
  · have hs0 : named nm (xs.map mk) = ([40], weave (.word nm :: xs.map mk)) := by unfold named; rw [if_neg (by simpa using h0)]
    rw [hs0] at hs ⊢
    have HS := Lib.hid hs
    have hpos : ¬ ((xs.length : Int) = 0) := by have := List.length_pos_iff.2 h0; omega
    have hposb : ((xs.length : Int) == 0) = false := by simpa using hpos
    have HN : Hid (xs.length ≤ 1000000) := Lib.hid (by have := hs.2; have h2 := weave_len (.word nm :: xs.map mk); simp only [List.length_append, List.length_cons, List.length_map] at this h2; omega)
    clear h hx hsh hmk hs hs0 h0
    go_enter Tryz.func72, Tryz.ntmps72
    go_wp2_with fail
    have hr1 := row_made w [nm] (by simp)
    have hb1 : Below w.heap.size w (w.alloc (.cells ([nm].map fun s => Value.string ⟨s.toArray⟩).toArray 9)) := (Below.refl _ _).alloc (Nat.le_refl _) _
    have HR1 := Lib.hid hr1
    have HB1 := Lib.hid hb1
    clear hr1 hb1
    refine (words_any _ [nm] _ HR1.out (by simp)).mono ?_
    rintro e w2 ⟨rv, vs, rfl, hb2, hown2, hrr2⟩
    obtain ⟨p2, c2, rfl⟩ := own_sl hown2
    have HB2 := Lib.hid (HB1.out.trans (hb2.mono HB1.out.size))
    have HO2 := Lib.hid hown2
    have HR2 : Hid (Reps (NodeV w0 w2) vs [.word nm]) := Lib.hid (reps_map (rep' := NodeV w0 w2) (mk := .word) (fun v x hv => hv) hrr2)
    have hsz1 := HB1.out.size
    clear hb2 hown2 hrr2
    go_wp2_with fail
    refine (allExpr_any rep HSH.out _ xs g w2 (row_below HX.out HB2.out) HN.out).mono ?_
    rintro e w3 ⟨rv3, vs3, rfl, hb3, hown3, hrr3⟩
    obtain ⟨p3, c3, rfl⟩ := own_sl hown3
    have HB3 := Lib.hid (HB2.out.trans (hb3.mono HB2.out.size))
    have HV2 : Hid (VRow w.heap.size w3 (.slice p2 [nm].length c2) vs) := Lib.hid (VRow.below (own_vrowN HO2.out hsz1 HR2.out) hb3)
    have HR2' := Lib.hid (reps_keep hb3 HR2.out)
    have HR3 : Hid (Reps (NodeV w0 w3) vs3 (xs.map mk)) := Lib.hid (reps_map (rep' := NodeV w0 w3) (fun v x hv => HMK.out w3 v x hv) hrr3)
    have HV3 : Hid (VRow w.heap.size w3 (.slice p3 xs.length c3) vs3) := Lib.hid (own_vrowN hown3 HB2.out.size HR3.out)
    clear hb3 hown3 hrr3
    go_wp2_with fail
    have hb4 : Below w3.heap.size w3 (w3.alloc (.cells #[.slice p2 1 c2, .slice p3 xs.length c3] 120)) := (Below.refl _ _).alloc (Nat.le_refl _) _
    refine (listN H.out (HB3.out.trans (hb4.mono HB3.out.size)) _ _ _ [vs, vs3] [[.word nm], xs.map mk] (.word nm :: xs.map mk) (by simp)
      (grow_of (lo := w.heap.size) (ls := [vs, vs3]) (wk := w3) (ss := [.slice p2 1 c2, .slice p3 xs.length c3]) ⟨HV2.out, HV3.out, trivial⟩ HB3.out.size (by simp) rfl rfl) ⟨reps_keep hb4 HR2'.out, reps_keep hb4 HR3.out, trivial⟩ HS.out (by simp)).mono ?_
    rintro e w5 ⟨⟨rfl, hd⟩, _⟩
    go_wp2_with fail
    go_end0
    exact ⟨rfl, hd⟩
set_option maxHeartbeats 2000000 in
set_option maxRecDepth 100000 in
theorem namedTree_any {α : Type} (rep : Value → α → Prop) (hsh : ∀ u x, rep u x → IsTree u) (mk : α → Nd) (g : Nat) {w0 : World} (hmk : ∀ w v x, Clo 142 88 58 g rep w v x → NodeV w0 w v (mk x)) {B : Nat} {w : World} {T : List UInt8} {S : List Nd} (h : St w0 B w T S)
    (nm : List UInt8) (q : Option Addr) (n c : Nat) (xs : List α) (hx : RowAt 5 rep w (.slice q n c) xs) (hs : Small T S (named nm (xs.map mk))) :
    Calls Tryz.prog 78 #[.pointer (some ⟨B, 0, none⟩), .string ⟨nm.toArray⟩, .slice q n c, .func (.func g) #[] #[]] w (Did w0 B T S (named nm (xs.map mk))) := by
  obtain ⟨q', c', he⟩ := hx.len
  obtain ⟨rfl, rfl, rfl⟩ := (Value.slice.injEq ..).mp he
  clear he
  have H := Lib.hid h
  have HX := Lib.hid hx
  have HSH := Lib.hid hsh
  have HMK := Lib.hid hmk
  by_cases h0 : xs = []
  · subst h0
    have hs0 : named nm (([] : List α).map mk) = (wd nm, []) := rfl
    rw [hs0] at hs ⊢
    have HS := Lib.hid hs
    clear h hx hsh hmk hs hs0
    go_enter Tryz.func78, Tryz.ntmps78
    go_wp2_with fail
    refine (wordN H.out nm HS.out).mono ?_
    rintro e w1 ⟨rfl, hd⟩
    go_wp2_with fail
    go_end0
    exact ⟨rfl, hd⟩
  · have hs0 : named nm (xs.map mk) = ([40], weave (.word nm :: xs.map mk)) := by unfold named; rw [if_neg (by simpa using h0)]
    rw [hs0] at hs ⊢
    have HS := Lib.hid hs
    have hpos : ¬ ((xs.length : Int) = 0) := by have := List.length_pos_iff.2 h0; omega
    have hposb : ((xs.length : Int) == 0) = false := by simpa using hpos
    have HN : Hid (xs.length ≤ 1000000) := Lib.hid (by have := hs.2; have h2 := weave_len (.word nm :: xs.map mk); simp only [List.length_append, List.length_cons, List.length_map] at this h2; omega)
    clear h hx hsh hmk hs hs0 h0
    go_enter Tryz.func78, Tryz.ntmps78
    go_wp2_with fail
    have hr1 := row_made w [nm] (by simp)
    have hb1 : Below w.heap.size w (w.alloc (.cells ([nm].map fun s => Value.string ⟨s.toArray⟩).toArray 9)) := (Below.refl _ _).alloc (Nat.le_refl _) _
    have HR1 := Lib.hid hr1
    have HB1 := Lib.hid hb1
    clear hr1 hb1
    refine (words_any _ [nm] _ HR1.out (by simp)).mono ?_
    rintro e w2 ⟨rv, vs, rfl, hb2, hown2, hrr2⟩
    obtain ⟨p2, c2, rfl⟩ := own_sl hown2
    have HB2 := Lib.hid (HB1.out.trans (hb2.mono HB1.out.size))
    have HO2 := Lib.hid hown2
    have HR2 : Hid (Reps (NodeV w0 w2) vs [.word nm]) := Lib.hid (reps_map (rep' := NodeV w0 w2) (mk := .word) (fun v x hv => hv) hrr2)
    have hsz1 := HB1.out.size
    clear hb2 hown2 hrr2
    go_wp2_with fail
    refine (allTree_any rep HSH.out _ xs g w2 (row_below HX.out HB2.out) HN.out).mono ?_
    rintro e w3 ⟨rv3, vs3, rfl, hb3, hown3, hrr3⟩
    obtain ⟨p3, c3, rfl⟩ := own_sl hown3
    have HB3 := Lib.hid (HB2.out.trans (hb3.mono HB2.out.size))
    have HV2 : Hid (VRow w.heap.size w3 (.slice p2 [nm].length c2) vs) := Lib.hid (VRow.below (own_vrowN HO2.out hsz1 HR2.out) hb3)
    have HR2' := Lib.hid (reps_keep hb3 HR2.out)
    have HR3 : Hid (Reps (NodeV w0 w3) vs3 (xs.map mk)) := Lib.hid (reps_map (rep' := NodeV w0 w3) (fun v x hv => HMK.out w3 v x hv) hrr3)
    have HV3 : Hid (VRow w.heap.size w3 (.slice p3 xs.length c3) vs3) := Lib.hid (own_vrowN hown3 HB2.out.size HR3.out)
    clear hb3 hown3 hrr3
    go_wp2_with fail
    have hb4 : Below w3.heap.size w3 (w3.alloc (.cells #[.slice p2 1 c2, .slice p3 xs.length c3] 120)) := (Below.refl _ _).alloc (Nat.le_refl _) _
    refine (listN H.out (HB3.out.trans (hb4.mono HB3.out.size)) _ _ _ [vs, vs3] [[.word nm], xs.map mk] (.word nm :: xs.map mk) (by simp)
      (grow_of (lo := w.heap.size) (ls := [vs, vs3]) (wk := w3) (ss := [.slice p2 1 c2, .slice p3 xs.length c3]) ⟨HV2.out, HV3.out, trivial⟩ HB3.out.size (by simp) rfl rfl) ⟨reps_keep hb4 HR2'.out, reps_keep hb4 HR3.out, trivial⟩ HS.out (by simp)).mono ?_
    rintro e w5 ⟨⟨rfl, hd⟩, _⟩
    go_wp2_with fail
    go_end0
    exact ⟨rfl, hd⟩
end Sw
end Go.Proofs.YtnhndamfbeiljaaGreatDoor

namespace Go.Proofs.YtnhndamfbeiljaaGreatDoor
open Go Go.RowKit
set_option linter.unusedVariables false
set_option linter.unusedSimpArgs false
namespace Sw
theorem isTypeE {f : Nat} {w : World} (u : Value) (x : Px.TypeE) (h : TypeAt f w u x) : IsTypeE u := by
  cases f with
  | zero => exact h.elim
  | succ f =>
    obtain ⟨p, nm, args⟩ := x
    obtain ⟨av, rfl, h1⟩ := h
    obtain ⟨q, c, rfl⟩ := h1.len
    exact ⟨_, _, _, _, _, rfl⟩
theorem isPat0 {f : Nat} {w : World} (u : Value) (x : Px.Pat) (h : PatAt f w u x) : IsPat u := by
  cases f with
  | zero => exact h.elim
  | succ f =>
    obtain ⟨k, p, nm, i, args⟩ := x
    obtain ⟨av, rfl, h1⟩ := h
    obtain ⟨q, c, rfl⟩ := h1.len
    exact ⟨_, _, _, _, _, _, _, rfl⟩
theorem isPat {f : Nat} {w : World} (u : Value) (x : Px.Pat) (h : PatG f w u x) : IsPat u := isPat0 u x h.1
theorem isExpr0 {f : Nat} {w : World} (u : Value) (x : Px.Expr) (h : ExprAt f w u x) : IsExpr u := by
  cases f with
  | zero => exact h.elim
  | succ f =>
    obtain ⟨k, p, nm, i, ns, xs, al⟩ := x
    obtain ⟨nv, xv, av, rfl, h1, h2, h3⟩ := h
    obtain ⟨q1, c1, rfl⟩ := h1.len
    obtain ⟨q2, c2, rfl⟩ := h2.len
    obtain ⟨q3, c3, rfl⟩ := h3.len
    exact ⟨_, _, _, _, _, _, _, _, _, _, _, _, _, rfl⟩
theorem isExpr {f : Nat} {w : World} (u : Value) (x : Px.Expr) (h : ExprG f w u x) : IsExpr u := isExpr0 u x h.1
theorem agg5 {a0 a1 a2 a3 a4 b0 b1 b2 b3 b4 : Value} (h : Value.agg #[a0, a1, a2, a3, a4] = .agg #[b0, b1, b2, b3, b4]) : a0 = b0 ∧ a1 = b1 ∧ a2 = b2 ∧ a3 = b3 ∧ a4 = b4 := by simpa using h
theorem agg7 {a0 a1 a2 a3 a4 a5 a6 b0 b1 b2 b3 b4 b5 b6 : Value} (h : Value.agg #[a0, a1, a2, a3, a4, a5, a6] = .agg #[b0, b1, b2, b3, b4, b5, b6]) : a0 = b0 ∧ a1 = b1 ∧ a2 = b2 ∧ a3 = b3 ∧ a4 = b4 ∧ a5 = b5 ∧ a6 = b6 := by simpa using h
theorem isAlt {f : Nat} {w : World} (u : Value) (x : Px.Pat × Px.Expr) (h : AltG f w u x) : IsAlt u := by
  obtain ⟨⟨a0, a1, a2, a3, a4, b0, b1, b2, b3, b4, b5, b6, rfl, h1, h2⟩, _⟩ := h
  obtain ⟨_, _, _, _, _, _, _, e1⟩ := isPat0 _ _ h1
  obtain ⟨_, _, _, _, _, _, _, _, _, _, _, _, _, e2⟩ := isExpr0 _ _ h2
  obtain ⟨rfl, rfl, rfl, rfl, rfl⟩ := agg5 e1
  obtain ⟨rfl, rfl, rfl, rfl, rfl, rfl, rfl⟩ := agg7 e2
  exact ⟨_, _, _, _, _, _, _, _, _, _, _, _, _, _, _, _, _, _, _, _, rfl⟩
theorem isBind {f : Nat} {w : World} (u : Value) (x : List UInt8 × Px.Expr) (h : PairG f w u x) : IsBind u := by
  obtain ⟨⟨b0, b1, b2, b3, b4, b5, b6, rfl, h2⟩, _⟩ := h
  obtain ⟨_, _, _, _, _, _, _, _, _, _, _, _, _, e2⟩ := isExpr0 _ _ h2
  obtain ⟨rfl, rfl, rfl, rfl, rfl, rfl, rfl⟩ := agg7 e2
  exact ⟨_, _, _, _, _, _, _, _, _, _, _, _, _, _, rfl⟩
theorem isCon {f : Nat} {w : World} (u : Value) (x : Px.Con) (h : ConAt f w u x) : IsCon u := by
  obtain ⟨av, rfl, h1⟩ := h
  obtain ⟨q, c, rfl⟩ := h1.len
  exact ⟨_, _, _, _, _, rfl⟩
theorem isData {f : Nat} {w : World} (u : Value) (x : Px.Data) (h : DataAt f w u x) : IsData u := by
  obtain ⟨nv, cv, rfl, h1, h2⟩ := h
  obtain ⟨q1, c1, rfl⟩ := h1.len
  obtain ⟨q2, c2, rfl⟩ := h2.len
  exact ⟨_, _, _, _, _, _, _, _, rfl⟩
theorem isDef {f : Nat} {w : World} (u : Value) (x : Px.Def) (h : DefG f w u x) : IsDef u := by
  obtain ⟨⟨nv, b0, b1, b2, b3, b4, b5, b6, rfl, h1, h2⟩, _⟩ := h
  obtain ⟨_, _, _, _, _, _, _, _, _, _, _, _, _, e2⟩ := isExpr0 _ _ h2
  obtain ⟨rfl, rfl, rfl, rfl, rfl, rfl, rfl⟩ := agg7 e2
  obtain ⟨q1, c1, rfl⟩ := h1.len
  exact ⟨_, _, _, _, _, _, _, _, _, _, _, _, _, _, _, _, _, _, rfl⟩
theorem isTree {f : Nat} {w : World} (u : Value) (x : Tr) (h : TreeAt f w u x) : IsTree u := by
  cases f with
  | zero => exact h.elim
  | succ f =>
    obtain ⟨nm, i, re, im, args⟩ := x
    obtain ⟨av, rfl, _, _, _, h1⟩ := h
    obtain ⟨q, c, rfl⟩ := h1.len
    exact ⟨_, _, _, _, _, _, _, rfl⟩
end Sw
end Go.Proofs.YtnhndamfbeiljaaGreatDoor

namespace Go.Proofs.YtnhndamfbeiljaaGreatDoor
open Go Go.RowKit
set_option linter.unusedVariables false
set_option linter.unusedSimpArgs false
namespace Sw
theorem bind_len (ns : List (List UInt8)) (xs : List Px.Expr) : (bindings ns xs).length = min ns.length xs.length := by simp [bindings]
theorem bind_take (ns : List (List UInt8)) (xs : List Px.Expr) (k : Nat) (n : List UInt8) (x : Px.Expr) (hn : ns[k]? = some n) (hx : xs[k]? = some x) : (bindings ns xs).take (k + 1) = (bindings ns xs).take k ++ [(n, x)] := by
  have : (bindings ns xs)[k]? = some (n, x) := by unfold bindings; rw [List.getElem?_zip_eq_some]; exact ⟨hn, hx⟩
  rw [List.take_add_one, this]; rfl
theorem rowk_own {α : Type} {E sz lo n : Nat} {rep : Value → α → Prop} {w : World} {v : Value} {vs : List Value} {xs : List α} (h : w.ownsRow lo E sz v n (cellsOf vs)) (hn : n = xs.length) (hr : Reps rep vs xs) (hs : ∀ v ∈ vs, v.cells.size = sz) (hsz : 0 < sz) : RowK E sz rep w v xs := by
  subst hn
  rcases h.2 with ⟨rfl, hn⟩ | ⟨g, cap, cur, rfl, a1, a2, a3, a4, a5, a6⟩
  · exact .inl ⟨List.eq_nil_of_length_eq_zero hn, none, 0, rfl⟩
  · refine .inr ⟨g, cap, cur, rfl, a3, by unfold maxLen at a4; omega, a2, fun i x hx => ?_⟩
    obtain ⟨y, hy, h3⟩ := hr.at hx
    refine ⟨y, h3, hs y (List.mem_of_getElem? hy), fun j z hz => ?_⟩
    have hc := cellsOf_at sz hs hy hz
    have hlt := (List.getElem?_eq_some_iff.1 hc).1
    rw [cellsOf_len sz hs, hr.len] at hlt
    rw [← a6, List.getElem?_take_of_lt (by omega), Array.getElem?_toList] at hc
    exact hc
theorem row_drop {α : Type} {sz : Nat} {rep : Value → α → Prop} {w : World} {q : Option Addr} {n c : Nat} {xs : List α} (h : RowAt sz rep w (.slice q n c) xs) (m : Nat) (hm : m ≤ xs.length) :
    (m < xs.length → ∃ g o, q = some ⟨g, o, none⟩ ∧ RowAt sz rep w (.slice (some ⟨g, o + m * sz, none⟩) (xs.length - m) (c - m)) (xs.drop m)) := by
  intro hlt
  rcases h with ⟨rfl, _⟩ | ⟨g, o, c', hv, h2, h3, h4⟩
  · simp at hlt
  injection hv with e1 e2 e3
  subst e1; subst e2; subst e3
  refine ⟨g, o, rfl, .inr ⟨g, o + m * sz, c - m, by rw [List.length_drop], by rw [List.length_drop]; omega, by omega, fun i x hx => ?_⟩⟩
  rw [List.getElem?_drop] at hx
  obtain ⟨u, a, b, d⟩ := h4 (m + i) x hx
  refine ⟨u, a, b, fun j z hz => ?_⟩
  have := d j z hz
  rw [show o + m * sz + i * sz + j = o + (m + i) * sz + j by rw [Nat.add_mul]; omega]
  exact this

set_option maxHeartbeats 4000000 in
set_option maxRecDepth 100000 in
theorem bound_any {w0 : World} (f : Nat) (a b d : Int) (t : ByteArray) (q4 q5 q6 : Option Addr) (c4 c5 n6 c6 : Nat) (ns : List (List UInt8)) (xs : List Px.Expr) (w : World) (hb0 : Below w0.heap.size w0 w) (h4 : RowAt 1 StrIs w0 (.slice q4 ns.length c4) ns) (h5 : RowAt 7 (ExprG f w0) w0 (.slice q5 xs.length c5) xs) (hn : ns.length ≤ 1000000) (hx : xs.length ≤ 1000000) :
    Calls Tryz.prog 66 #[.agg #[.int .i64 a, .int .i64 b, .string t, .int .i64 d, .slice q4 ns.length c4, .slice q5 xs.length c5, .slice q6 n6 c6]] w fun e w' => ∃ p c q c', e = .returned (.tuple #[.slice p (bindings ns xs).length c, .slice q (xs.drop (lcount ns xs)).length c']) ∧ Below w.heap.size w w' ∧
      RowK 142 8 (PairG f w0) w' (.slice p (bindings ns xs).length c) (bindings ns xs) ∧ RowAt 7 (ExprG f w0) w0 (.slice q (xs.drop (lcount ns xs)).length c') (xs.drop (lcount ns xs)) := by
  have H4 := Lib.hid h4
  have H5 := Lib.hid h5
  have HB0 := Lib.hid hb0
  obtain ⟨m, hm⟩ : ∃ m, m = lcount ns xs := ⟨_, rfl⟩
  have hm1 : m ≤ ns.length := by rw [hm]; exact Nat.min_le_left _ _
  have hm2 : m ≤ xs.length := by rw [hm]; exact Nat.min_le_right _ _
  have hm3 : (m : Int) = min (ns.length : Int) (xs.length : Int) := by rw [hm]; unfold lcount; omega
  have hbl : (bindings ns xs).length = m := by rw [hm, bind_len]; rfl
  rw [← hm]
  rw [hbl]
  have HM3 := Lib.hid hm3
  have HBL := Lib.hid hbl
  obtain ⟨i0, hi, hz0, hz1, hz2⟩ := info_parts (show (Tryz.prog.info? 142).map (fun i => (i.zero, i.size, i.bytes)) = some (some (.agg #[.string ⟨#[]⟩, .int .i64 0, .int .i64 0, .string ⟨#[]⟩, .int .i64 0, .slice none 0 0, .slice none 0 0, .slice none 0 0]), 8, 128) by kernel_rfl)
  have I := Lib.hid hi; have I0 := Lib.hid hz0; have I1 := Lib.hid hz1; have I2 := Lib.hid hz2
  clear h4 h5 hb0 hm hm3 hbl hi hz0 hz1 hz2
  go_enter Tryz.func66, Tryz.ntmps66
  have EX := Lib.hid (ent_new w #[.int .i64 a, .int .i64 b, .string t, .int .i64 d, .slice q4 ns.length c4, .slice q5 xs.length c5, .slice q6 n6 c6] 47)
  have HB := Lib.hid (show Below w.heap.size w (w.alloc (.cells #[.int .i64 a, .int .i64 b, .string t, .int .i64 d, .slice q4 ns.length c4, .slice q5 xs.length c5, .slice q6 n6 c6] 47)) from (Below.refl _ _).alloc (Nat.le_refl _) _)
  go_upto_region 1 with fail
  generalize w.alloc (.cells #[.int .i64 a, .int .i64 b, .string t, .int .i64 d, .slice q4 ns.length c4, .slice q5 xs.length c5, .slice q6 n6 c6] 47) = wb at EX HB ⊢
  have y4 := ent_cell EX.out 4 (.slice q4 ns.length c4) rfl
  have y5 := ent_cell EX.out 5 (.slice q5 xs.length c5) rfl
  have hc4 : ns.length ≤ c4 := by rcases H4.out with ⟨h0, _⟩ | ⟨g, o, c, hv, h2, _⟩; (· rw [h0]; simp); (· injection hv with _ _ e; omega)
  have hc4i : (m : Int) ≤ (c4 : Int) := by omega
  have hs := ent_lt EX.out
  clear hc4
  go_upto_region 2 with fail
  rw [← HM3.out]
  have hmn : ((m : Int)).toNat = m := by omega
  have hmx : max (m : Int) 0 = (m : Int) := by omega
  have hm0 : (0 : Int) ≤ (m : Int) := by omega
  go_wp2_with fail
  clear y4 y5 hmn hmx hm0
  go_loopw [2, 19] (fun pv i wr => ∃ (k : Nat) (vs : List Value), i = .int .i64 k ∧ k ≤ m ∧ Hid (wr.ownsRow w.heap.size 142 8 pv k (cellsOf vs)) ∧ Hid (Reps (PairG f w0) vs ((bindings ns xs).take k)) ∧ Hid (∀ v ∈ vs, v.cells.size = 8) ∧ Hid (wr.heap[w.heap.size]? = some (.cells #[.int .i64 a, .int .i64 b, .string t, .int .i64 d, .slice q4 ns.length c4, .slice q5 xs.length c5, .slice q6 n6 c6] 47 (0, 0))) ∧ Hid (Below w.heap.size w wr)) (fun _ i _ => m - (intOf i).toNat)
  case atStart => exact ⟨0, [], rfl, Nat.zero_le _, Lib.hid (World.ownsRow_nil _ _ _ _), Lib.hid (by rw [List.take_zero]; trivial), Lib.hid (fun v hv => by cases hv), EX, HB⟩
  case round =>
    clear EX HB hs
    obtain ⟨k, vs, rfl, hk, HO, HR, HZ, EX, HB⟩ := hrel
    have hs := ent_lt EX.out
    have hb1 := HB0.out.trans (HB.out.mono HB0.out.size)
    have HB1 := Lib.hid hb1
    clear hb1
    by_cases hlt : k < m
    · obtain ⟨n, hn1⟩ : ∃ n, ns[k]? = some n := ⟨_, List.getElem?_eq_getElem (by omega)⟩
      obtain ⟨x, hx1⟩ : ∃ x, xs[k]? = some x := ⟨_, List.getElem?_eq_getElem (by omega)⟩
      have HT := Lib.hid (bind_take ns xs k n x hn1 hx1)
      rcases H4.out with ⟨h0, _⟩ | ⟨g4, o4, c4', hv4, e1, e2, e3⟩
      · rw [h0] at hm1; simp at hm1; omega
      injection hv4 with q1 _ q2
      subst q1; subst q2
      rcases H5.out with ⟨h0, _⟩ | ⟨g5, o5, c5', hv5, f1, f2, f3⟩
      · rw [h0] at hm2; simp at hm2; omega
      injection hv5 with q1 _ q2
      subst q1; subst q2
      obtain ⟨u4, rfl, _, hcell4⟩ := e3 k n hn1
      obtain ⟨u5, hu5, _, hcell5⟩ := f3 k x hx1
      obtain ⟨i0', i1, t2, i3, z4, n4, d4, z5, n5, d5, z6, n6', d6, rfl⟩ := isExpr _ _ hu5
      have HU := Lib.hid hu5
      have w1 : wr.cell? ⟨g4, o4 + k, none⟩ = some (.string ⟨n.toArray⟩) := by
        have hc := hcell4 0 (.string ⟨n.toArray⟩) rfl
        simpa using (HB1.out.cell (World.block_lt_of_cell? w0 _ hc)).trans hc
      have up : ∀ j' z, (Value.agg #[.int .i64 i0', .int .i64 i1, .string t2, .int .i64 i3, .slice z4 n4 d4, .slice z5 n5 d5, .slice z6 n6' d6]).cells[j']? = some z → wr.cell? ⟨g5, o5 + k * 7 + j', none⟩ = some z := fun j' z hz => (HB1.out.cell (World.block_lt_of_cell? w0 _ (hcell5 j' z hz))).trans (hcell5 j' z hz)
      have x0 : wr.cell? ⟨g5, o5 + k * 7, none⟩ = some (.int .i64 i0') := up 0 _ rfl
      have x1 : wr.cell? ⟨g5, o5 + k * 7 + 1, none⟩ = some (.int .i64 i1) := up 1 (.int .i64 i1) rfl
      have x2 : wr.cell? ⟨g5, o5 + k * 7 + 2, none⟩ = some (.string t2) := up 2 (.string t2) rfl
      have x3 : wr.cell? ⟨g5, o5 + k * 7 + 3, none⟩ = some (.int .i64 i3) := up 3 (.int .i64 i3) rfl
      have x4 : wr.cell? ⟨g5, o5 + k * 7 + 4, none⟩ = some (.slice z4 n4 d4) := up 4 (.slice z4 n4 d4) rfl
      have x5 : wr.cell? ⟨g5, o5 + k * 7 + 5, none⟩ = some (.slice z5 n5 d5) := up 5 (.slice z5 n5 d5) rfl
      have x6 : wr.cell? ⟨g5, o5 + k * 7 + 6, none⟩ = some (.slice z6 n6' d6) := up 6 (.slice z6 n6' d6) rfl
      have y5 := ent_cell EX.out 5 (.slice (some ⟨g5, o5, none⟩) xs.length c5) rfl
      have k1 : (k : Int) < (m : Int) := by omega
      have k2 : (k : Int) < (xs.length : Int) := by omega
      have k3 : (xs.length : Int) ≤ (c5 : Int) := by omega
      have k4 := f2
      have k5 := e2
      clear e1 e2 e3 f1 f2 f3 hcell4 hcell5 hu5 up hn1 hx1
      go_wp2_with (at_builtin; refine wpList_append_loc _ rfl (.tmp 24) (.tmp 32) 137 rfl w.heap.size 142 i0 _ 8 128 Tryz.underlying137 I.out I0.out I1.out I2.out rfl (by decide) _ k _ rfl (HO.out.alloc _) ⟨wr.heap.size, 0, none⟩ 1 1 [.string ⟨n.toArray⟩, .int .i64 i0', .int .i64 i1, .string t2, .int .i64 i3, .slice z4 n4 d4, .slice z5 n5 d5, .slice z6 n6' d6] rfl (by decide) rfl ?c1 ?c2 ?c3 ?c4 ?c5 ?_)
      case c2 => first | (simp [Value.oneCell']; done) | (intro u hu; simp only [List.mem_cons, List.not_mem_nil, or_false] at hu; rcases hu with rfl | rfl | rfl | rfl | rfl | rfl | rfl | rfl <;> rfl)
      case c3 => unfold maxLen; omega
      case c4 => omega
      case c5 => have := HB.out.size; simp; omega
      intro v' w' h1 h2 h3
      have hbw : Below w.heap.size w w' := (HB.out.alloc (by omega) _).grown h2 (by simp; omega) (fun j hj => (own_ent HO.out hj).1)
      have hex : w'.heap[w.heap.size]? = some (.cells #[.int .i64 a, .int .i64 b, .string t, .int .i64 d, .slice (some ⟨g4, o4, none⟩) ns.length c4, .slice (some ⟨g5, o5, none⟩) xs.length c5, .slice q6 n6 c6] 47 (0, 0)) := by
        refine (h2.block w.heap.size (by simp; omega) (fun e => ?_)).trans (ent_alloc EX.out _)
        obtain ⟨_, cur, hc⟩ := own_ent HO.out e.symm
        have := EX.out
        rw [this] at hc; simp only [Option.some.injEq, Obj.cells.injEq] at hc; exact absurd hc.2.1 (by decide)
      have HO2 := Lib.hid h1
      have HB2 := Lib.hid hbw
      have EX2 := Lib.hid hex
      clear h1 h2 h3 hbw hex
      obtain ⟨p7, c7, rfl⟩ := own_sl HO2.out
      go_wp2_with fail
      go_roundw
      case rel =>
        refine ⟨k + 1, vs ++ [.agg #[.string ⟨n.toArray⟩, .int .i64 i0', .int .i64 i1, .string t2, .int .i64 i3, .slice z4 n4 d4, .slice z5 n5 d5, .slice z6 n6' d6]], by go_num, by omega, Lib.hid (by rw [show cellsOf (vs ++ [Value.agg #[.string ⟨n.toArray⟩, .int .i64 i0', .int .i64 i1, .string t2, .int .i64 i3, .slice z4 n4 d4, .slice z5 n5 d5, .slice z6 n6' d6]]) = cellsOf vs ++ [.string ⟨n.toArray⟩, .int .i64 i0', .int .i64 i1, .string t2, .int .i64 i3, .slice z4 n4 d4, .slice z5 n5 d5, .slice z6 n6' d6] by simp [cellsOf, Value.cells]]; exact HO2.out), Lib.hid (by rw [HT.out]; exact Reps.snoc ⟨⟨_, _, _, _, _, _, _, rfl, HU.out.1⟩, HU.out.2⟩ HR.out), Lib.hid (fun v hv => ?_), EX2, HB2⟩
        rcases List.mem_append.1 hv with hv | hv
        · exact HZ.out v hv
        · rw [List.mem_singleton] at hv; subst hv; rfl
      case measure => simp [intOf]; omega
    · obtain rfl : k = m := by omega
      have hbl2 := HBL.out
      have HRR : Hid (Reps (PairG f w0) vs (bindings ns xs)) := Lib.hid (by have := HR.out; rwa [List.take_of_length_le (by omega)] at this)
      clear hbl2
      obtain ⟨p7, c7, rfl⟩ := own_sl HO.out
      have y5 := ent_cell EX.out 5 (.slice q5 xs.length c5) rfl
      have hc5 : xs.length ≤ c5 := by rcases H5.out with ⟨h0, _⟩ | ⟨g, o, c, hv, h2, _⟩; (· rw [h0]; simp); (· injection hv with _ _ e; omega)
      have k1 : (k : Int) ≤ (xs.length : Int) := by omega
      have k2 : (xs.length : Int) ≤ (c5 : Int) := by omega
      have HK := Lib.hid HO.out
      have hrk := rowk_own HO.out HBL.out.symm HRR.out HZ.out (by decide)
      have HRK := Lib.hid hrk
      clear hrk
      by_cases hlt2 : k < xs.length
      · obtain ⟨g, o, rfl, hrow⟩ := row_drop H5.out k hm2 hlt2
        have HROW := Lib.hid hrow
        have hcA : ¬ c5 = k := by omega
        have hcB : ¬ (c5 : Int) = (k : Int) := by omega
        have hdl : (xs.drop k).length = xs.length - k := List.length_drop
        have HDL := Lib.hid hdl
        clear hrow hdl
        go_wp2_with fail
        go_region
        go_wp2_with fail
        go_ret2
        refine ⟨p7, c7, some ⟨g, o + k * 7, none⟩, c5 - k, (by rw [HDL.out]; rfl), HB.out.drew, HRK.out, ?_⟩
        have := HROW.out
        rw [← HDL.out] at this
        exact this
      · have hkx : k = xs.length := by omega
        have HD : Hid (xs.drop k = []) := Lib.hid (List.drop_of_length_le (by omega))
        have hki : (xs.length : Int) - (k : Int) = 0 := by omega
        have HKX := Lib.hid hkx
        clear hkx
        have hdl : (xs.drop k).length = xs.length - k := List.length_drop
        have HDL := Lib.hid hdl
        have H0 : Hid ((xs.drop k).length = 0) := Lib.hid (by rw [HD.out]; rfl)
        clear hdl
        by_cases hcA : c5 = k
        · go_wp2_with fail
          go_region
          go_wp2_with fail
          go_ret2
          exact ⟨p7, c7, q5, 0, (by rw [HDL.out]; rfl), HB.out.drew, HRK.out, .inl ⟨HD.out, q5, 0, by rw [H0.out]⟩⟩
        · have hcB : ¬ (c5 : Int) = (k : Int) := by omega
          go_wp2_with fail
          go_region
          go_wp2_with fail
          go_ret2
          exact ⟨p7, c7, Option.map (fun x => x.add (k * 7)) q5, c5 - k, (by rw [HDL.out]; rfl), HB.out.drew, HRK.out, .inl ⟨HD.out, _, c5 - k, by rw [H0.out]⟩⟩
end Sw
end Go.Proofs.YtnhndamfbeiljaaGreatDoor
