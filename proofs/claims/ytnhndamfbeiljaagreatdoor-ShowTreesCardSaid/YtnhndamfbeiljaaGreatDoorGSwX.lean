/-
  Several texts in one: WText0, WTextExpr, WTextTree.
-/
import Derived.Test.YtnhndamfbeiljaaGreatDoorKWClo
import Derived.Deep.LoopGhost
namespace Go.Proofs.YtnhndamfbeiljaaGreatDoor
open Go Go.RowKit
set_option linter.unusedVariables false
set_option linter.unusedSimpArgs false
namespace Sw
/-- The last one that waits is taken. -/
theorem pop_world {lo B g k c : Nat} {w : World} {T : List UInt8} {vs : List Value} {v : Value} (h : SVx lo B w T (vs ++ [v]) (.slice (some ⟨g, 0, none⟩) (k + 1) c)) (hk : vs.length = k) :
    SVx lo B (w.setCell ⟨B, 2, none⟩ (.slice (some ⟨g, 0, none⟩) k c)) T vs (.slice (some ⟨g, 0, none⟩) k c) ∧ Below lo w (w.setCell ⟨B, 2, none⟩ (.slice (some ⟨g, 0, none⟩) k c)) ∧ Keep w (w.setCell ⟨B, 2, none⟩ (.slice (some ⟨g, 0, none⟩) k c)) ∧ w.cell? ⟨g, k, none⟩ = some v ∧ k + 1 ≤ c ∧ (c : Int) ≤ 9223372036854775807 := by
  subst hk
  obtain ⟨cs, h1, h2, h3⟩ := h
  obtain ⟨bv, b1, b2⟩ := h1.own
  rcases h3.2 with ⟨he, _⟩ | ⟨g', cap, cur, he, a1, a2, a3, a4, a5, a6⟩
  · cases he
  simp only [Value.slice.injEq, Option.some.injEq, Addr.mk.injEq] at he
  obtain ⟨⟨rfl, _, _⟩, _, rfl⟩ := he
  have hne : g ≠ B := fun e => by subst e; rw [h1.heap] at a2; simp only [Option.some.injEq, Obj.cells.injEq] at a2; exact absurd a2.2.1 (by decide)
  have hown : w.ownsRow lo 125 1 (.slice (some ⟨g, 0, none⟩) vs.length c) vs.length vs := by
    refine ⟨by simp, .inr ⟨g, c, cur, rfl, a1, a2, by rw [List.length_append] at a3; simp at a3; omega, a4, a5, ?_⟩⟩
    have := congrArg (fun l => l.take (vs.length * 1)) a6
    simpa [List.take_take] using this
  have hsz : ¬ Value.ownBlock bv = some B := Lib.ownBlock_ne b2 h1.heap (by decide)
  refine ⟨⟨cs.setIfInBounds 2 (.slice (some ⟨g, 0, none⟩) vs.length c), ⟨heap_setCell_same w B 2 _ _ _ h1.heap, set_size h1.size _ _, h1.low, (by rw [set_other _ _ _ _ (by decide)]; exact h1.addr), bv, (set_other _ _ _ _ (by decide)).trans b1, own_set b2 hsz⟩, set_get _ _ _ (by have := h1.size; omega), own_set hown (by simp [Value.ownBlock, hne])⟩, (Below.refl lo w).setCell (p := ⟨B, 2, none⟩) h1.low _, (KeepB.set B 2 w _).keep h1.heap, ?_, by rw [List.length_append] at a3; simpa using a3, by unfold maxLen at a4; omega⟩
  refine ent_cell a2 _ _ ?_
  have hx : (vs ++ [v])[vs.length]? = some v := by simp
  rw [← a6, List.getElem?_take_of_lt (by simp), Array.getElem?_toList] at hx
  exact hx
theorem reps_concat {α : Type} {rep : Value → α → Prop} : ∀ {vs : List Value} {xs : List α} {x : α}, Reps rep vs (xs ++ [x]) → ∃ us u, vs = us ++ [u] ∧ Reps rep us xs ∧ rep u x
  | [], [], _, h => h.elim
  | [], _ :: _, _, h => h.elim
  | [v], [], _, h => ⟨[], v, rfl, trivial, h.1⟩
  | v :: w :: vs, [], _, h => h.2.elim
  | v :: vs, y :: xs, x, h => by
    obtain ⟨us, u, rfl, h2, h3⟩ := reps_concat h.2
    exact ⟨v :: us, u, rfl, ⟨h.1, h2⟩, h3⟩
/-- What the loop knows. -/
def Lp (w0 : World) (B : Nat) (TX : List UInt8) (k : Nat) (w : World) : Prop := ∃ T S U, St w0 B w T S ∧ Run S U k ∧ T ++ U = TX
theorem run_inv {n : Nd} {r : List Nd} {U : List UInt8} {k : Nat} (h : Run (n :: r) U k) : ∃ V j, k = j + 1 ∧ U = (step n).1 ++ V ∧ Run ((step n).2 ++ r) V j := by
  cases h with
  | cons h => exact ⟨_, _, rfl, rfl, h⟩
theorem run_nil {U : List UInt8} {k : Nat} (h : Run [] U k) : U = [] := by cases h; rfl
/-- The writer that is just made. -/
theorem st_start {w0 w1 : World} {rv u : Value} {n : Nd} (hb : Below w0.heap.size w0 w1) (hown : w1.ownsRow w0.heap.size 125 1 rv 1 [u]) (hn : NodeV w0 w1 u n) :
    St w0 w1.heap.size (w1.alloc (.cells #[.pointer none, .slice none 0 0, rv] 123)) [] [n] := by
  have hA : Below w1.heap.size w1 (w1.alloc (.cells #[.pointer none, .slice none 0 0, rv] 123)) := (Below.refl _ _).alloc (Nat.le_refl _) _
  exact ⟨[u], ⟨_, rv, ⟨ent_new w1 _ _, rfl, hb.size, .inl rfl, .slice none 0 0, rfl, World.ownsRow_nil _ _ _ _⟩, rfl, own_kept hown hA⟩, ⟨NodeV.keep (Keep.below hA) hn, trivial⟩, hb.trans (hA.mono hb.size)⟩
end Sw
end Go.Proofs.YtnhndamfbeiljaaGreatDoor

namespace Go.Proofs.YtnhndamfbeiljaaGreatDoor
open Go Go.RowKit
set_option linter.unusedVariables false
set_option linter.unusedSimpArgs false
namespace Sw
set_option maxHeartbeats 4000000 in
set_option maxRecDepth 100000 in
theorem textExpr_any (f : Nat) (w : World) (htab : Lib.TabIs Tryz.prog w "internal/strconv.uint64pow10" .u64 Lib.pow10Tab) (w0 : World) (hw0 : w0 = w) (v : Value) (x : Px.Expr) (hx : ExprG f w0 v x) (TX : List UInt8) (k0 : Nat) (hrun : Run [Nd.expr f x] TX k0) (hl : TX.length ≤ 1000000) :
    Calls Tryz.prog 33 #[v, .func (.func 34) #[] #[]] w fun e w' => e = .returned (.string ⟨TX.toArray⟩) ∧ Below w.heap.size w w' := by
  subst hw0
  have hne : TX ≠ [] := by have := hrun.len; intro e; rw [e] at this; simp at this
  obtain ⟨i0, i1, t2, i3, q4, n4, c4, q5, n5, c5, q6, n6, c6, rfl⟩ := isExpr v x hx
  have HX := Lib.hid hx
  have HT := Lib.hid htab
  have HL := Lib.hid hl
  have HNE := Lib.hid hne
  have HR := Lib.hid hrun
  clear hx htab hl hne hrun
  go_enter Tryz.func33, Tryz.ntmps33
  go_wp2_with fail
  have HB := Lib.hid (show Below w0.heap.size w0 (w0.alloc (.cells #[.int .i64 i0, .int .i64 i1, .string t2, .int .i64 i3, .slice q4 n4 c4, .slice q5 n5 c5, .slice q6 n6 c6] 47)) from (Below.refl _ _).alloc (Nat.le_refl _) _)
  refine (oneExpr_any (ExprG f w0) isExpr _ x 34 _ HX.out).mono ?_
  rintro e w1 ⟨rv, u, rfl, hb, hown, hclo⟩
  obtain ⟨p, c, rfl⟩ := own_sl hown
  have HB1 := Lib.hid (HB.out.trans (hb.mono HB.out.size))
  have hst := st_start (n := Nd.expr f x) HB1.out (own_low hown HB.out.size) hclo
  have HST := Lib.hid hst
  clear hb hown hclo hst HB
  go_wp2_with fail
  generalize w1.alloc (.cells #[.pointer none, .slice none 0 0, .slice p 1 c] 123) = w2 at HST ⊢
  generalize w1.heap.size = B at HST ⊢
  have HL0 : Hid (Lp w0 B TX k0 w2) := Lib.hid ⟨[], _, TX, HST.out, HR.out, rfl⟩
  clear HST HB1
  go_loopg [6] k0 (fun k v6 wr => Hid (Lp w0 B TX k wr))
  case atStart => exact HL0
  case round =>
    clear HL0
    obtain ⟨T, S, U, hst, hrun, hT⟩ := hrel.out
    clear hrel
    cases S with
    | nil =>
      obtain rfl := run_nil hrun
      rw [List.append_nil] at hT
      subst hT
      obtain ⟨vs, ⟨cs, wv, h1, h2, h3⟩, hr, hb⟩ := hst
      have hvs : vs.length = 0 := hr.len
      rw [hvs] at h3
      obtain ⟨p2, c2, rfl⟩ := own_sl h3
      have y2 := (h1.cell 2).trans h2
      have H1 := Lib.hid h1
      have HB := Lib.hid hb
      clear h1 h2 h3 hr hb hvs hrun
      go_wp2_with fail
      refine (string_any btyW H1.out HNE.out).mono ?_
      rintro e w3 ⟨rfl, hb3⟩
      go_wp2_with fail
      go_ret
      exact ⟨rfl, HB.out.trans hb3⟩
    | cons n r =>
      obtain ⟨V, j, rfl, rfl, hrun2⟩ := run_inv hrun
      have hlen := hrun2.len
      have hTl := congrArg List.length hT
      have hTX := HL.out
      simp only [List.length_append] at hTl
      have hsm : Small T r (step n) := ⟨by rw [List.length_append]; omega, by omega⟩
      obtain ⟨vs, ⟨cs, wv, h1, h2, h3⟩, hr, hb⟩ := hst
      rw [List.reverse_cons] at hr
      obtain ⟨vs0, v, rfl, hr0, hv⟩ := reps_concat hr
      obtain ⟨kk, hkk⟩ : ∃ kk, kk = vs0.length := ⟨_, rfl⟩
      have hl1 : (vs0 ++ [v]).length = kk + 1 := by rw [hkk]; simp
      have hex : ∃ g cc, wv = .slice (some ⟨g, 0, none⟩) (kk + 1) cc := by
        rcases h3.2 with ⟨_, h0⟩ | ⟨g, cap, cur, he, _⟩
        · rw [hl1] at h0; omega
        · exact ⟨g, cap, by rw [he, hl1]⟩
      obtain ⟨g, cc, rfl⟩ := hex
      obtain ⟨s1, s2, s3, s4, s5, s6⟩ := pop_world (k := kk) (show SVx w0.heap.size B wr T (vs0 ++ [v]) (.slice (some ⟨g, 0, none⟩) (kk + 1) cc) from ⟨cs, h1, h2, h3⟩) hkk.symm
      have hst2 : St w0 B (wr.setCell ⟨B, 2, none⟩ (.slice (some ⟨g, 0, none⟩) kk cc)) T r := ⟨vs0, s1.sv, Reps.mono (fun v n hn => NodeV.keep s3 hn) hr0, hb.trans s2⟩
      obtain ⟨F, caps, rfl, hF, hcall⟩ := exec_any HT.out v n (NodeV.keep s3 hv) hst2 hsm
      have y2 := (h1.cell 2).trans h2
      have yf := h1.free 2
      have HC := Lib.hid hcall
      have HR2 := Lib.hid hrun2
      have HTT := Lib.hid hT
      have k1 : (kk : Int) + 1 ≤ (cc : Int) := by omega
      have k2 : wrap64 ((kk : Int) + 1 - 1) = (kk : Int) := by unfold wrap64; omega
      clear h1 h2 h3 hr hr0 hv hb s1 s2 s3 hst2 hcall hrun hrun2 hT hTl hTX hsm hlen hl1 hkk s5
      go_wp2_with fail
      refine HC.out.mono ?_
      rintro e w3 ⟨rfl, hd⟩
      have HD := Lib.hid hd
      clear hd
      go_wp2_with fail
      go_roundg j
      case measure => omega
      case rel => exact Lib.hid ⟨_, _, V, HD.out, HR2.out, by rw [List.append_assoc]; exact HTT.out⟩
set_option maxHeartbeats 1000000 in
theorem showExpr_any (f : Nat) (w : World) (htab : Lib.TabIs Tryz.prog w "internal/strconv.uint64pow10" .u64 Lib.pow10Tab) (v : Value) (x : Px.Expr) (hx : ∀ w0, w0 = w → ExprG f w0 v x) (TX : List UInt8) (k0 : Nat) (hrun : Run [Nd.expr f x] TX k0) (hl : TX.length ≤ 1000000)
    (hx2 : ∀ w0 o, w0 = w.alloc o → ExprG f w0 v x) : Calls Tryz.prog 15 #[v] w fun e w' => e = .returned (.string ⟨TX.toArray⟩) ∧ Below w.heap.size w w' := by
  obtain ⟨i0, i1, t2, i3, q4, n4, c4, q5, n5, c5, q6, n6, c6, rfl⟩ := isExpr v x (hx w rfl)
  have HX := Lib.hid hx2
  have hb : Below w.heap.size w (w.alloc (.cells #[.int .i64 i0, .int .i64 i1, .string t2, .int .i64 i3, .slice q4 n4 c4, .slice q5 n5 c5, .slice q6 n6 c6] 47)) := (Below.refl _ _).alloc (Nat.le_refl _) _
  have HB := Lib.hid hb
  have HT := Lib.hid ((Lib.tabBelow_of_tabIs htab) _ hb)
  have HR := Lib.hid hrun
  clear hx hx2 hb htab hrun
  go_enter Tryz.func15, Tryz.ntmps15
  go_wp2_with fail
  refine (textExpr_any f _ HT.out _ rfl _ x (HX.out _ _ rfl) TX k0 HR.out hl).mono ?_
  rintro e w2 ⟨rfl, hb2⟩
  go_wp2_with fail
  go_ret
  exact ⟨rfl, HB.out.trans (hb2.mono HB.out.size)⟩
end Sw
end Go.Proofs.YtnhndamfbeiljaaGreatDoor

namespace Go.Proofs.YtnhndamfbeiljaaGreatDoor
open Go Go.RowKit
set_option linter.unusedVariables false
set_option linter.unusedSimpArgs false
namespace Sw
set_option maxHeartbeats 4000000 in
set_option maxRecDepth 100000 in
theorem textTree_any (f : Nat) (w : World) (htab : Lib.TabIs Tryz.prog w "internal/strconv.uint64pow10" .u64 Lib.pow10Tab) (w0 : World) (hw0 : w0 = w) (v : Value) (x : Tr) (hx : TreeAt f w0 v x) (TX : List UInt8) (k0 : Nat) (hrun : Run [Nd.tree f x] TX k0) (hl : TX.length ≤ 1000000) :
    Calls Tryz.prog 38 #[v, .func (.func 39) #[] #[]] w fun e w' => e = .returned (.string ⟨TX.toArray⟩) ∧ Below w.heap.size w w' := by
  subst hw0
  have hne : TX ≠ [] := by have := hrun.len; intro e; rw [e] at this; simp at this
  obtain ⟨t0, i1, i2, i3, q4, n4, c4, rfl⟩ := isTree v x hx
  have HX := Lib.hid hx
  have HT := Lib.hid htab
  have HL := Lib.hid hl
  have HNE := Lib.hid hne
  have HR := Lib.hid hrun
  clear hx htab hl hne hrun
  go_enter Tryz.func38, Tryz.ntmps38
  go_wp2_with fail
  have HB := Lib.hid (show Below w0.heap.size w0 (w0.alloc (.cells #[.string t0, .int .i64 i1, .int .i64 i2, .int .i64 i3, .slice q4 n4 c4] 58)) from (Below.refl _ _).alloc (Nat.le_refl _) _)
  refine (oneTree_any (TreeAt f w0) isTree _ x 39 _ HX.out).mono ?_
  rintro e w1 ⟨rv, u, rfl, hb, hown, hclo⟩
  obtain ⟨p, c, rfl⟩ := own_sl hown
  have HB1 := Lib.hid (HB.out.trans (hb.mono HB.out.size))
  have hst := st_start (n := Nd.tree f x) HB1.out (own_low hown HB.out.size) hclo
  have HST := Lib.hid hst
  clear hb hown hclo hst HB
  go_wp2_with fail
  generalize w1.alloc (.cells #[.pointer none, .slice none 0 0, .slice p 1 c] 123) = w2 at HST ⊢
  generalize w1.heap.size = B at HST ⊢
  have HL0 : Hid (Lp w0 B TX k0 w2) := Lib.hid ⟨[], _, TX, HST.out, HR.out, rfl⟩
  clear HST HB1
  go_loopg [6] k0 (fun k v6 wr => Hid (Lp w0 B TX k wr))
  case atStart => exact HL0
  case round =>
    clear HL0
    obtain ⟨T, S, U, hst, hrun, hT⟩ := hrel.out
    clear hrel
    cases S with
    | nil =>
      obtain rfl := run_nil hrun
      rw [List.append_nil] at hT
      subst hT
      obtain ⟨vs, ⟨cs, wv, h1, h2, h3⟩, hr, hb⟩ := hst
      have hvs : vs.length = 0 := hr.len
      rw [hvs] at h3
      obtain ⟨p2, c2, rfl⟩ := own_sl h3
      have y2 := (h1.cell 2).trans h2
      have H1 := Lib.hid h1
      have HB := Lib.hid hb
      clear h1 h2 h3 hr hb hvs hrun
      go_wp2_with fail
      refine (string_any btyW H1.out HNE.out).mono ?_
      rintro e w3 ⟨rfl, hb3⟩
      go_wp2_with fail
      go_ret
      exact ⟨rfl, HB.out.trans hb3⟩
    | cons n r =>
      obtain ⟨V, j, rfl, rfl, hrun2⟩ := run_inv hrun
      have hlen := hrun2.len
      have hTl := congrArg List.length hT
      have hTX := HL.out
      simp only [List.length_append] at hTl
      have hsm : Small T r (step n) := ⟨by rw [List.length_append]; omega, by omega⟩
      obtain ⟨vs, ⟨cs, wv, h1, h2, h3⟩, hr, hb⟩ := hst
      rw [List.reverse_cons] at hr
      obtain ⟨vs0, v, rfl, hr0, hv⟩ := reps_concat hr
      obtain ⟨kk, hkk⟩ : ∃ kk, kk = vs0.length := ⟨_, rfl⟩
      have hl1 : (vs0 ++ [v]).length = kk + 1 := by rw [hkk]; simp
      have hex : ∃ g cc, wv = .slice (some ⟨g, 0, none⟩) (kk + 1) cc := by
        rcases h3.2 with ⟨_, h0⟩ | ⟨g, cap, cur, he, _⟩
        · rw [hl1] at h0; omega
        · exact ⟨g, cap, by rw [he, hl1]⟩
      obtain ⟨g, cc, rfl⟩ := hex
      obtain ⟨s1, s2, s3, s4, s5, s6⟩ := pop_world (k := kk) (show SVx w0.heap.size B wr T (vs0 ++ [v]) (.slice (some ⟨g, 0, none⟩) (kk + 1) cc) from ⟨cs, h1, h2, h3⟩) hkk.symm
      have hst2 : St w0 B (wr.setCell ⟨B, 2, none⟩ (.slice (some ⟨g, 0, none⟩) kk cc)) T r := ⟨vs0, s1.sv, Reps.mono (fun v n hn => NodeV.keep s3 hn) hr0, hb.trans s2⟩
      obtain ⟨F, caps, rfl, hF, hcall⟩ := exec_any HT.out v n (NodeV.keep s3 hv) hst2 hsm
      have y2 := (h1.cell 2).trans h2
      have yf := h1.free 2
      have HC := Lib.hid hcall
      have HR2 := Lib.hid hrun2
      have HTT := Lib.hid hT
      have k1 : (kk : Int) + 1 ≤ (cc : Int) := by omega
      have k2 : wrap64 ((kk : Int) + 1 - 1) = (kk : Int) := by unfold wrap64; omega
      clear h1 h2 h3 hr hr0 hv hb s1 s2 s3 hst2 hcall hrun hrun2 hT hTl hTX hsm hlen hl1 hkk s5
      go_wp2_with fail
      refine HC.out.mono ?_
      rintro e w3 ⟨rfl, hd⟩
      have HD := Lib.hid hd
      clear hd
      go_wp2_with fail
      go_roundg j
      case measure => omega
      case rel => exact Lib.hid ⟨_, _, V, HD.out, HR2.out, by rw [List.append_assoc]; exact HTT.out⟩
set_option maxHeartbeats 1000000 in
theorem showTree_any (f : Nat) (w : World) (htab : Lib.TabIs Tryz.prog w "internal/strconv.uint64pow10" .u64 Lib.pow10Tab) (v : Value) (x : Tr) (hx : ∀ w0, w0 = w → TreeAt f w0 v x) (TX : List UInt8) (k0 : Nat) (hrun : Run [Nd.tree f x] TX k0) (hl : TX.length ≤ 1000000)
    (hx2 : ∀ w0 o, w0 = w.alloc o → TreeAt f w0 v x) : Calls Tryz.prog 19 #[v] w fun e w' => e = .returned (.string ⟨TX.toArray⟩) ∧ Below w.heap.size w w' := by
  obtain ⟨t0, i1, i2, i3, q4, n4, c4, rfl⟩ := isTree v x (hx w rfl)
  have HX := Lib.hid hx2
  have hb : Below w.heap.size w (w.alloc (.cells #[.string t0, .int .i64 i1, .int .i64 i2, .int .i64 i3, .slice q4 n4 c4] 58)) := (Below.refl _ _).alloc (Nat.le_refl _) _
  have HB := Lib.hid hb
  have HT := Lib.hid ((Lib.tabBelow_of_tabIs htab) _ hb)
  have HR := Lib.hid hrun
  clear hx hx2 hb htab hrun
  go_enter Tryz.func19, Tryz.ntmps19
  go_wp2_with fail
  refine (textTree_any f _ HT.out _ rfl _ x (HX.out _ _ rfl) TX k0 HR.out hl).mono ?_
  rintro e w2 ⟨rfl, hb2⟩
  go_wp2_with fail
  go_ret
  exact ⟨rfl, HB.out.trans (hb2.mono HB.out.size)⟩
end Sw
end Go.Proofs.YtnhndamfbeiljaaGreatDoor
