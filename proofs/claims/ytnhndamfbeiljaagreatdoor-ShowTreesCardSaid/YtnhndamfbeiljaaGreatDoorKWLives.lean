/-
  lives of layer 3: the chapter's example holds.
-/
import Derived.Test.YtnhndamfbeiljaaGreatDoorGSwX
import Derived.Test.YtnhndamfbeiljaaGreatDoorGList
import Derived.Lib.SlBytesConst
namespace Go.Proofs.YtnhndamfbeiljaaGreatDoor
open Go Go.RowKit
set_option linter.unusedVariables false
set_option linter.unusedSimpArgs false
namespace Sw
theorem patK : ∀ {f : Nat} {w w' : World} {v : Value} {t : Px.Pat}, PatAt f w v t → Below w.heap.size w w' → PatAt f w' v t := by
  intro f
  induction f with
  | zero => intro w w' v t h; exact h.elim
  | succ f ih =>
    intro w w' v t h hb
    obtain ⟨k, p, nm, i, args⟩ := t
    obtain ⟨av, rfl, h1⟩ := h
    exact ⟨av, rfl, h1.mono hb (fun u x _ hu => ih hu hb)⟩
theorem exprK : ∀ {f : Nat} {w w' : World} {v : Value} {t : Px.Expr}, ExprAt f w v t → Below w.heap.size w w' → ExprAt f w' v t := by
  intro f
  induction f with
  | zero => intro w w' v t h; exact h.elim
  | succ f ih =>
    intro w w' v t h hb
    obtain ⟨k, p, nm, i, ns, xs, al⟩ := t
    obtain ⟨nv, xv, av, rfl, h1, h2, h3⟩ := h
    refine ⟨nv, xv, av, rfl, h1.mono hb (fun u x _ hu => hu), h2.mono hb (fun u x _ hu => ih hu hb), h3.mono hb (fun u x _ hu => ?_)⟩
    obtain ⟨a0, a1, a2, a3, a4, b0, b1, b2, b3, b4, b5, b6, e, ha, hx⟩ := hu
    exact ⟨a0, a1, a2, a3, a4, b0, b1, b2, b3, b4, b5, b6, e, patK ha hb, ih hx hb⟩
theorem showExpr2 (f : Nat) (w : World) (htab : Lib.TabIs Tryz.prog w "internal/strconv.uint64pow10" .u64 Lib.pow10Tab) (v : Value) (x : Px.Expr) (hx : ExprG f w v x) (TX : List UInt8) (hrun : ∃ k, Run [.expr f x] TX k) (hl : TX.length ≤ 1000000) :
    Calls Tryz.prog 15 #[v] w fun e w' => e = .returned (.string ⟨TX.toArray⟩) ∧ Below w.heap.size w w' := by
  obtain ⟨k0, hrun⟩ := hrun
  exact showExpr_any f w htab v x (fun w0 h => by subst h; exact hx) TX k0 hrun hl (fun w0 o h => by subst h; exact ⟨exprK hx.1 ((Below.refl _ _).alloc (Nat.le_refl _) _), hx.2⟩)

def livesText : List UInt8 := [40, 102, 110, 32, 40, 120, 41, 32, 32, 40, 43, 32, 120, 32, 49, 41, 41]
def livesX : Px.Expr := .mk 3 0 [] 0 [[120]] [.mk 7 9 [43] 0 [] [.mk 1 12 [120] 0 [] [] [], .mk 0 14 [] 1 [] [] []] []] []
set_option maxRecDepth 100000 in
theorem lives_px : Px.exprOf livesText = .done livesX := by kernel_rfl
theorem itoa_one : Lib.itoa 1 = [49] := by unfold Lib.itoa; rw [if_neg (by decide)]; exact Lib.decDigits_one (by decide)
theorem lives_ok : OkExp 50 livesX := by
  refine ⟨fun h => absurd h (by decide), fun h => absurd h (by decide), ?_, fun a ha => by cases ha⟩
  intro x hx
  rw [List.mem_singleton] at hx
  subst hx
  refine ⟨fun h => absurd h (by decide), fun h => absurd h (by decide), ?_, fun a ha => by cases ha⟩
  intro x hx
  rcases List.mem_cons.1 hx with rfl | hx
  · exact ⟨fun h => absurd h (by decide), fun h => absurd h (by decide), (fun x hx => by cases hx), fun a ha => by cases ha⟩
  · rw [List.mem_singleton] at hx
    subst hx
    exact ⟨fun _ => ⟨by decide, by decide⟩, fun h => absurd h (by decide), (fun x hx => by cases hx), fun a ha => by cases ha⟩
def livesOut : List UInt8 := [40, 102, 110, 32, 40, 120, 41, 32, 40, 43, 32, 120, 32, 49, 41, 41]
theorem lives_run : ∃ k, Run [.expr 50 livesX] livesOut k := by
  have h0 : ∃ k, Run [Nd.expr 48 (.mk 0 14 [] 1 [] [] [])] (Lib.itoa 1) k := run_text (by simp [step])
  have h1 : ∃ k, Run [Nd.expr 48 (.mk 1 12 [120] 0 [] [] [])] [120] k := run_text (by simp [step, named, wd])
  have h2 : ∃ k, Run [Nd.expr 49 (.mk 7 9 [43] 0 [] [.mk 1 12 [120] 0 [] [] [], .mk 0 14 [] 1 [] [] []] [])] _ k := run_named (nm := [43]) (l := [Nd.expr 48 (.mk 1 12 [120] 0 [] [] []), Nd.expr 48 (.mk 0 14 [] 1 [] [] [])]) (ts := [[120], Lib.itoa 1]) (by decide) (by simp [step]) ⟨h1, h0, trivial⟩
  have h3 : ∃ k, Run [Nd.names [[120]]] (joined [[120]]) k := run_joined (l := [.word [120]]) (by simp [step]) ⟨run_word _ (by decide), trivial⟩
  have h4 := run_joined (n := .expr 50 livesX) (l := [.word [102, 110], .names [[120]], .expr 49 (.mk 7 9 [43] 0 [] [.mk 1 12 [120] 0 [] [] [], .mk 0 14 [] 1 [] [] []] [])]) (ts := [[102, 110], joined [[120]], if [[120], Lib.itoa 1] = [] then [43] else joined ([43] :: [[120], Lib.itoa 1])]) (by simp [step, livesX]) ⟨run_word [102, 110] (by decide), h3, h2, trivial⟩
  have e : joined [[102, 110], joined [[120]], if [[120], Lib.itoa 1] = [] then [43] else joined ([43] :: [[120], Lib.itoa 1])] = livesOut := by
    rw [itoa_one]; decide
  rw [e] at h4
  exact h4
theorem fail_run : ∃ k, Run [.expr 50 (.mk 8 0 [] 0 [] [] [])] [102, 97, 105, 108] k := run_text (by simp [step])

set_option maxHeartbeats 2000000 in
set_option maxRecDepth 100000 in
theorem lives_any (w : World) (htab : Lib.TabIs Tryz.prog w "internal/strconv.uint64pow10" .u64 Lib.pow10Tab) : Calls Tryz.prog 7 #[] w fun e w' => e = .returned (.bool true) ∧ Below w.heap.size w w' := by
  have kc := fun (w : World) (C : Array Value) (n c : Nat) => Lib.run_convert_bytes_const (P := Tryz.prog) w 22 5 C n c Tryz.underlying22 Tryz.underlying5
  have HTAB := Lib.hid htab
  clear htab
  go_enter Tryz.func7, Tryz.ntmps7
  go_wp2_with fail
  clear kc
  refine (Expr_any _ livesText _ (.inr ⟨w.heap.size, 0, 17, rfl, by decide, by decide, ?_⟩)).mono ?_
  · intro j hj
    rw [World.cell?_alloc_mark, Nat.zero_add]
    have hj6 : j < 17 := hj
    have : j = 0 ∨ j = 1 ∨ j = 2 ∨ j = 3 ∨ j = 4 ∨ j = 5 ∨ j = 6 ∨ j = 7 ∨ j = 8 ∨ j = 9 ∨ j = 10 ∨ j = 11 ∨ j = 12 ∨ j = 13 ∨ j = 14 ∨ j = 15 ∨ j = 16 := by omega
    rcases this with rfl | rfl | rfl | rfl | rfl | rfl | rfl | rfl | rfl | rfl | rfl | rfl | rfl | rfl | rfl | rfl | rfl
    all_goals rfl
  · rintro e w1 ⟨hB, hres⟩
    rw [lives_px] at hres
    obtain ⟨v, rfl, hnew⟩ := hres
    have hx := hnew.now
    obtain ⟨i0, i1, t2, i3, q4, n4, c4, q5, n5, c5, q6, n6, c6, rfl⟩ := isExpr0 v _ hx
    have HX := Lib.hid hx
    have HB := Lib.hid (((Below.refl w.heap.size w).alloc (Nat.le_refl _) _).trans (hB.mono (by simp)))
    clear hB hnew hx
    have hb2 : Below w1.heap.size w1 (w1.alloc (.cells #[.int .i64 i0, .int .i64 i1, .string t2, .int .i64 i3, .slice q4 n4 c4, .slice q5 n5 c5, .slice q6 n6 c6] 47)) := (Below.refl _ _).alloc (Nat.le_refl _) _
    have HB2 := Lib.hid hb2
    clear hb2
    go_wp2_with fail
    refine (showExpr2 50 _ ((Lib.tabBelow_of_tabIs HTAB.out) _ (HB.out.trans (HB2.out.mono HB.out.size))) _ livesX ⟨exprK HX.out HB2.out, lives_ok⟩ livesOut lives_run (by decide)).mono ?_
    rintro e w3 ⟨rfl, hb3⟩
    have HB3 := Lib.hid ((HB.out.trans (HB2.out.mono HB.out.size)).trans (hb3.mono (by have := HB.out.size; have := HB2.out.size; omega)))
    clear hb3
    go_wp2_with fail
    refine (showExpr2 50 _ ((Lib.tabBelow_of_tabIs HTAB.out) _ HB3.out) _ (.mk 8 0 [] 0 [] [] []) ⟨⟨_, _, _, rfl, row_nil _ _ _, row_nil _ _ _, row_nil _ _ _⟩, ⟨fun h => absurd h (by decide), fun h => absurd h (by decide), (fun x hx => by cases hx), fun a ha => by cases ha⟩⟩ [102, 97, 105, 108] fail_run (by decide)).mono ?_
    rintro e w4 ⟨rfl, hb4⟩
    go_wp2_with fail
    go_ret
    exact ⟨rfl, HB3.out.trans (hb4.mono HB3.out.size)⟩
end Sw
end Go.Proofs.YtnhndamfbeiljaaGreatDoor
