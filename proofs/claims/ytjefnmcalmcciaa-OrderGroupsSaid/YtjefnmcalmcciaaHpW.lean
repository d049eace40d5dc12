/-
  The heap's methods, up, down.
-/
import Derived.Test.YtjefnmcalmcciaaFinC
namespace Go.Proofs.Ytjefnmcalmcciaa
open Go Go.RowKit
set_option linter.unusedVariables false
set_option linter.unusedSimpArgs false

theorem below_keep {lo lo' : Nat} {w w' : World} (h : Below lo w w') (hl : lo' ≤ lo) : Below lo' w w' := h.mono hl

/-- But for a block, and lists of numbers from lo on, the world is as it was. -/
structure Only (lo B : Nat) (w w' : World) : Prop where
  os : w'.os = w.os
  tape : w'.tape = w.tape
  output : w'.output = w.output
  size : w.heap.size ≤ w'.heap.size
  low : ∀ b, b < lo → b ≠ B → w'.heap[b]? = w.heap[b]?
  rows : ∀ b cs, b ≠ B → w.heap[b]? = some (.cells cs 30 (0, 0)) → w'.heap[b]? = some (.cells cs 30 (0, 0))
theorem Only.refl (lo B : Nat) (w : World) : Only lo B w w := ⟨rfl, rfl, rfl, Nat.le_refl _, fun _ _ _ => rfl, fun _ _ _ h => h⟩
theorem Only.trans {lo B : Nat} {w w' w'' : World} (h : Only lo B w w') (h2 : Only lo B w' w'') : Only lo B w w'' :=
  ⟨h2.os.trans h.os, h2.tape.trans h.tape, h2.output.trans h.output, Nat.le_trans h.size h2.size, fun b h3 h4 => (h2.low b h3 h4).trans (h.low b h3 h4), fun b cs h3 h4 => h2.rows b cs h3 (h.rows b cs h3 h4)⟩
theorem Only.drew {lo B : Nat} {w w' : World} (h : Only lo B w w') : Only lo B w w'.drew := ⟨h.os, h.tape, h.output, h.size, h.low, h.rows⟩
theorem Only.drewN {lo B : Nat} {w w' : World} (h : Only lo B w w') (k : Nat) : Only lo B w (w'.drewN k) := ⟨h.os, h.tape, h.output, h.size, h.low, h.rows⟩
theorem Only.set {lo B : Nat} {w w' : World} (h : Only lo B w w') (j : Nat) (v : Value) : Only lo B w (w'.setCell ⟨B, j, none⟩ v) :=
  ⟨h.os, h.tape, h.output, by simpa using h.size, fun b h1 h2 => (Below.heap_setCell w' ⟨B, j, none⟩ v b h2).trans (h.low b h1 h2), fun b cs h1 h2 => (Below.heap_setCell w' ⟨B, j, none⟩ v b h1).trans (h.rows b cs h1 h2)⟩
theorem Only.setRow {lo B : Nat} {w w' : World} (h : Only lo B w w') {g : Nat} {cs : Array Value} (hg : lo ≤ g) (he : w'.heap[g]? = some (.cells cs 3 (0, 0))) (j : Nat) (v : Value) : Only lo B w (w'.setCell ⟨g, j, none⟩ v) :=
  ⟨h.os, h.tape, h.output, by simpa using h.size, fun b h1 h2 => (Below.heap_setCell w' ⟨g, j, none⟩ v b (by simp; omega)).trans (h.low b h1 h2), fun b cs' h1 h2 => (Below.heap_setCell w' ⟨g, j, none⟩ v b (by
    intro e
    have e : b = g := e
    subst e
    have := h.rows _ _ h1 h2
    rw [he] at this
    injection this with this
    injection this with _ this _
    exact absurd this (by decide))).trans (h.rows b cs' h1 h2)⟩
theorem Only.alloc {lo B : Nat} {w w' : World} (h : Only lo B w w') (hlo : lo ≤ w.heap.size) (o : Obj) : Only lo B w (w'.alloc o) := by
  have hal : ∀ b, b < w'.heap.size → (w'.alloc o).heap[b]? = w'.heap[b]? := fun b hb => Below.heap_alloc w' o b hb
  refine ⟨h.os, h.tape, h.output, by have := h.size; simp; omega, fun b h1 h2 => (hal b (by have := h.size; omega)).trans (h.low b h1 h2), fun b cs h1 h2 => ?_⟩
  have h3 := h.rows b cs h1 h2
  exact (hal b (ent_lt h3)).trans h3

/-- The groups that may come next, as a heap in a struct's last field. -/
structure Rdy (lo B : Nat) (x y z : Value) (w : World) (H : List Nat) (v : Value) : Prop where
  ent : w.heap[B]? = some (.cells #[x, y, z, v] 51 (0, 0))
  own : w.ownsRow lo 3 1 v H.length (ivs H)
  lo : B < lo
  big : H.length ≤ 1000000000

theorem Rdy.ne {lo B : Nat} {x y z : Value} {w : World} {H : List Nat} {v : Value} (h : Rdy lo B x y z w H v) : v.ownBlock ≠ some B := fun e => by
  have := (h.own.lt B e).1; have := h.lo; omega
theorem Rdy.form {lo B : Nat} {x y z : Value} {w : World} {H : List Nat} {v : Value} (h : Rdy lo B x y z w H v) : ∃ p c, v = .slice p H.length c := by
  rcases h.own.2 with ⟨rfl, e⟩ | ⟨g, cap, cur, rfl, _⟩
  · exact ⟨none, 0, by rw [e]⟩
  · exact ⟨_, cap, rfl⟩
theorem Rdy.some {lo B : Nat} {x y z : Value} {w : World} {H : List Nat} {v : Value} (h : Rdy lo B x y z w H v) (h0 : 0 < H.length) : ∃ g c cur, v = .slice (.some ⟨g, 0, none⟩) H.length c ∧ lo ≤ g ∧ w.heap[g]? = .some (.cells cur 3 (0, 0)) ∧ H.length ≤ c ∧ (c : Int) ≤ 9223372036854775807 := by
  rcases h.own.2 with ⟨_, e⟩ | ⟨g, cap, cur, rfl, h1, h2, h3, h4, _⟩
  · omega
  · exact ⟨g, cap, cur, rfl, h1, h2, h3, by unfold maxLen at h4; omega⟩

set_option maxHeartbeats 2000000 in
theorem less_any {lo B : Nat} {x y z : Value} {w : World} {H : List Nat} {v : Value} (h : Rdy lo B x y z w H v) (i j : Nat) (hi : i < H.length) (hj : j < H.length) :
    Calls Try.prog 51 #[v, .int .i64 (i : Int), .int .i64 (j : Int)] w fun e w' => e = .returned (.bool (decide (Gr.at0 H i < Gr.at0 H j))) ∧ ∃ k, w' = w.drewN k := by
  obtain ⟨g, c, cur, rfl, hlo, hg, hc, hm⟩ := h.some (by omega)
  have hbig := h.big
  have c1 : w.cell? ⟨g, i, none⟩ = some (.int .i64 (Gr.at0 H i : Int)) := own_cellAt h.own (ivs_at (by rw [Gr.at0_get hi]; exact List.getElem?_eq_getElem hi))
  have c2 : w.cell? ⟨g, j, none⟩ = some (.int .i64 (Gr.at0 H j : Int)) := own_cellAt h.own (ivs_at (by rw [Gr.at0_get hj]; exact List.getElem?_eq_getElem hj))
  have hi2 : (i : Int) < H.length := by omega
  have hj2 : (j : Int) < H.length := by omega
  clear h hg
  generalize Gr.at0 H i = a at *
  generalize Gr.at0 H j = b at *
  go_enter Try.func51, Try.ntmps51
  go_wp2_with fail
  go_quiet (fail)
  go_wp2
  go_ret
  exact ⟨ret_bool (by first | rfl | simp), _, rfl⟩

set_option maxHeartbeats 2000000 in
theorem swap_any {lo B : Nat} {x y z : Value} {w0 w : World} {H : List Nat} {v : Value} (h : Rdy lo B x y z w H v) (ho : Only lo B w0 w) (i j : Nat) (hi : i < H.length) (hj : j < H.length) :
    Calls Try.prog 52 #[v, .int .i64 (i : Int), .int .i64 (j : Int)] w fun e w' => e = .returned (.tuple #[]) ∧ Rdy lo B x y z w' (Gr.swp H i j) v ∧ Only lo B w0 w' := by
  obtain ⟨g, c, cur, rfl, hlo, hg, hc, hm⟩ := h.some (by omega)
  have hbig := h.big
  have c1 : w.cell? ⟨g, i, none⟩ = some (.int .i64 (Gr.at0 H i : Int)) := own_cellAt h.own (ivs_at (by rw [Gr.at0_get hi]; exact List.getElem?_eq_getElem hi))
  have c2 : w.cell? ⟨g, j, none⟩ = some (.int .i64 (Gr.at0 H j : Int)) := own_cellAt h.own (ivs_at (by rw [Gr.at0_get hj]; exact List.getElem?_eq_getElem hj))
  have hi2 : (i : Int) < H.length := by omega
  have hj2 : (j : Int) < H.length := by omega
  have hf := ent_free hg
  have HR := Lib.hid h; have HG := Lib.hid hg; have HO := Lib.hid ho
  obtain ⟨a, ha⟩ : ∃ a, a = Gr.at0 H i := ⟨_, rfl⟩
  obtain ⟨b, hb⟩ : ∃ b, b = Gr.at0 H j := ⟨_, rfl⟩
  rw [← ha] at c1; rw [← hb] at c2
  have HA := Lib.hid ha; have HBB := Lib.hid hb
  clear h hg ho ha hb
  go_enter Try.func52, Try.ntmps52
  obtain ⟨v', hy'⟩ := cell?_setCell_some (w := w) (p := ⟨g, i, none⟩) (x := .int .i64 (b : Int)) (q := ⟨g, j, none⟩) (v := .int .i64 (b : Int)) (by go_simp)
  obtain ⟨v2', hy2'⟩ := cell?_setCell_some (w := w) (p := ⟨g, j, none⟩) (x := .int .i64 (a : Int)) (q := ⟨g, i, none⟩) (v := .int .i64 (a : Int)) (by go_simp)
  go_wp2_with fail
  go_region
  go_wp2
  go_end0
  have o1 := own_setAt HR.out.own i (.int .i64 (b : Int)) (by rw [ivs_len]; exact hi)
  have o2 := own_setAt o1 j (.int .i64 (a : Int)) (by rw [List.length_set, ivs_len]; exact hj)
  have e : ((ivs H).set i (.int .i64 (b : Int))).set j (.int .i64 (a : Int)) = ivs (Gr.swp H i j) := by
    unfold Gr.swp; rw [← HA.out, ← HBB.out]; simp [ivs, iv, List.map_set]
  rw [e] at o2
  have hB : B ≠ g := by have := HR.out.lo; omega
  refine ⟨rfl, ⟨ent_other (ent_other HR.out.ent g i _ hB) g j _ hB, by rw [Gr.swp_len]; exact o2, HR.out.lo, by rw [Gr.swp_len]; exact hbig⟩, ?_⟩
  exact ((HO.out.setRow hlo HG.out i _).setRow hlo (ent_set HG.out i _) j _).drew

theorem nilchk (t : TypeId) (a : Addr) (s : String) : Builtin.ssaWrapNilChk_ #[t] t #[.pointer (some a), strVal "", strVal s] = pure (.pointer (some a)) := rfl
theorem method_val (w : World) (B : Nat) (p : Option Addr) (c n : Nat) (name : String) (f : FuncId) (hm : (Try.prog.info? 53).map (fun i => (i.methods.find? (·.name == name)).map fun m => (m.path, m.func)) = some (some (#[], some (f, false)))) (h : w.cell? ⟨B, 3, none⟩ = some (.slice p n c)) :
    (method 189 53 (.pointer (some ⟨B, 3, none⟩)) name).run Try.prog w = .ok (f, .slice p n c) w := by
  obtain ⟨i, hi, h2⟩ := Option.map_eq_some_iff.1 hm
  obtain ⟨m, hm1, h3⟩ := Option.map_eq_some_iff.1 h2
  simp only [Prod.mk.injEq] at h3
  obtain ⟨hp, hf⟩ := h3
  show (method (188 + 1) 53 (.pointer (some ⟨B, 3, none⟩)) name).run Try.prog w = _
  unfold method
  generalize (name.splitOn ".").getLastD name = s
  have hu : Try.prog.underlying 53 = some (.pointer 49) := by kernel_rfl
  simp [typeInfo, hi, hm1, hp, hf, follow, receiverAt, run_underlying hu, Place.get, nilchk, asAddr, loadVar, h, go_sem, Result.andThen]
theorem method_ptr (w : World) (B : Nat) (name : String) (f : FuncId) (hm : (Try.prog.info? 53).map (fun i => (i.methods.find? (·.name == name)).map fun m => (m.path, m.func)) = some (some (#[], some (f, true)))) :
    (method 189 53 (.pointer (some ⟨B, 3, none⟩)) name).run Try.prog w = .ok (f, .pointer (some ⟨B, 3, none⟩)) w := by
  obtain ⟨i, hi, h2⟩ := Option.map_eq_some_iff.1 hm
  obtain ⟨m, hm1, h3⟩ := Option.map_eq_some_iff.1 h2
  simp only [Prod.mk.injEq] at h3
  obtain ⟨hp, hf⟩ := h3
  show (method (188 + 1) 53 (.pointer (some ⟨B, 3, none⟩)) name).run Try.prog w = _
  unfold method
  generalize (name.splitOn ".").getLastD name = s
  have hu : Try.prog.underlying 53 = some (.pointer 49) := by kernel_rfl
  simp [typeInfo, hi, hm1, hp, hf, follow, receiverAt, run_underlying hu, Place.get, go_sem, Result.andThen]
theorem lessM (w : World) (B : Nat) (p : Option Addr) (c n : Nat) (h : w.cell? ⟨B, 3, none⟩ = some (.slice p n c)) : (method 189 53 (.pointer (some ⟨B, 3, none⟩)) "Less").run Try.prog w = .ok (51, .slice p n c) w :=
  method_val w B p c n "Less" 51 (by kernel_rfl) h
theorem swapM (w : World) (B : Nat) (p : Option Addr) (c n : Nat) (h : w.cell? ⟨B, 3, none⟩ = some (.slice p n c)) : (method 189 53 (.pointer (some ⟨B, 3, none⟩)) "Swap").run Try.prog w = .ok (52, .slice p n c) w :=
  method_val w B p c n "Swap" 52 (by kernel_rfl) h
theorem lenM (w : World) (B : Nat) (p : Option Addr) (c n : Nat) (h : w.cell? ⟨B, 3, none⟩ = some (.slice p n c)) : (method 189 53 (.pointer (some ⟨B, 3, none⟩)) "Len").run Try.prog w = .ok (25, .slice p n c) w :=
  method_val w B p c n "Len" 25 (by kernel_rfl) h
theorem popM (w : World) (B : Nat) : (method 189 53 (.pointer (some ⟨B, 3, none⟩)) "Pop").run Try.prog w = .ok (53, .pointer (some ⟨B, 3, none⟩)) w :=
  method_ptr w B "Pop" 53 (by kernel_rfl)
theorem pushM (w : World) (B : Nat) : (method 189 53 (.pointer (some ⟨B, 3, none⟩)) "Push").run Try.prog w = .ok (54, .pointer (some ⟨B, 3, none⟩)) w :=
  method_ptr w B "Push" 54 (by kernel_rfl)
theorem callLess (args : Array Value) (w : World) : (callFunc 51 args).run Try.prog w = .ok (.enter 51 args) w := by kernel_rfl
theorem callSwap (args : Array Value) (w : World) : (callFunc 52 args).run Try.prog w = .ok (.enter 52 args) w := by kernel_rfl
theorem callLen (args : Array Value) (w : World) : (callFunc 25 args).run Try.prog w = .ok (.enter 25 args) w := by kernel_rfl
theorem callPop (args : Array Value) (w : World) : (callFunc 53 args).run Try.prog w = .ok (.enter 53 args) w := by kernel_rfl
theorem callPush (args : Array Value) (w : World) : (callFunc 54 args).run Try.prog w = .ok (.enter 54 args) w := by kernel_rfl

def UpPost (lo B : Nat) (x y z : Value) (w0 : World) (H : List Nat) (v : Value) (e : Ending) (w' : World) : Prop :=
  ∃ H', e = .returned (.tuple #[]) ∧ Rdy lo B x y z w' H' v ∧ Gr.IsHeap H' H'.length ∧ H'.length = H.length ∧ (∀ a, H'.count a = H.count a) ∧ Only lo B w0 w'
def UpRel (lo B : Nat) (x y z : Value) (w0 : World) (H : List Nat) (v : Value) (j : Nat) (w' : World) : Prop :=
  ∃ H', Rdy lo B x y z w' H' v ∧ Gr.UpInv H' j ∧ H'.length = H.length ∧ (∀ a, H'.count a = H.count a) ∧ Only lo B w0 w'

theorem rdy_drewN {lo B : Nat} {x y z : Value} {w : World} {H : List Nat} {v : Value} (h : Rdy lo B x y z w H v) (k : Nat) : Rdy lo B x y z (w.drewN k) H v := ⟨h.ent, h.own, h.lo, h.big⟩

set_option maxHeartbeats 2000000 in
set_option maxRecDepth 100000 in
theorem up_any {lo B : Nat} {x y z : Value} {w0 w : World} {H : List Nat} {v : Value} (h : Rdy lo B x y z w H v) (ho : Only lo B w0 w) (j : Nat) (hu : Gr.UpInv H j) :
    Calls Try.prog 29 #[.iface 53 (.pointer (some ⟨B, 3, none⟩)), .int .i64 (j : Int)] w (UpPost lo B x y z w0 H v) := by
  have HR : Hid (UpRel lo B x y z w0 H v j w) := Lib.hid ⟨H, h, hu, rfl, fun _ => rfl, ho⟩
  have hbig := h.big
  clear h ho hu
  go_enter Try.func29, Try.ntmps29
  go_wp2_with fail
  go_loopw [1] (fun i wr => ∃ k : Nat, i = .int .i64 k ∧ Hid (UpRel lo B x y z w0 H v k wr)) (fun i _ => (intOf i).toNat)
  case atStart => exact ⟨j, rfl, HR⟩
  case round =>
    clear HR
    obtain ⟨k, rfl, HR⟩ := hrel
    obtain ⟨H1, hr, hu, hl, hc, ho⟩ := HR.out
    have HRD := Lib.hid hr; have HU := Lib.hid hu; have HL := Lib.hid hl; have HC := Lib.hid hc; have HO := Lib.hid ho
    have hkl : k < H1.length := hu.1
    clear hr hu hl hc ho HR
    have f3 := ent_cell HRD.out.ent 3 v rfl
    obtain ⟨p, c, rfl⟩ := HRD.out.form
    have mL := lessM wr B p c _ f3
    have cL := callLess
    by_cases hk0 : k = 0
    · subst hk0
      have HH := Lib.hid (HU.out.stop (.inl rfl))
      go_wp2_with fail
      go_end0
      exact ⟨H1, rfl, HRD.out, HH.out, HL.out, HC.out, HO.out⟩
    · have hb1 : (0 : Int) ≤ (k : Int) - 1 := by omega
      have hdiv : ((k : Int) - 1) / 2 = (((k - 1) / 2 : Nat) : Int) := by omega
      have hneq : ((((k - 1) / 2 : Nat) : Int) == (k : Int)) = false := by simp; omega
      obtain ⟨i, hi⟩ : ∃ i, i = (k - 1) / 2 := ⟨_, rfl⟩
      rw [← hi] at hdiv hneq
      have hik : i < k := by omega
      have hkb : (k : Int) ≤ 1000000000 := by have := HL.out; omega
      have HI := Lib.hid hi
      clear hi hk0
      go_wp2_with fail
      refine (less_any HRD.out k i hkl (by omega)).mono ?_
      rintro e w2 ⟨rfl, nq, rfl⟩
      simp only [hdiv]
      have HO2 := Lib.hid (HO.out.drewN nq)
      have HRD2 := Lib.hid (rdy_drewN HRD.out nq)
      clear f3 mL hdiv hneq
      generalize wr.drewN nq = w2 at *
      by_cases hlt : Gr.at0 H1 k < Gr.at0 H1 i
      · have hd : decide (Gr.at0 H1 k < Gr.at0 H1 i) = true := by simpa using hlt
        have HLT := Lib.hid hlt
        rw [hd]
        clear hlt hd
        have f3 := ent_cell HRD2.out.ent 3 _ rfl
        have mS := swapM w2 B p c _ f3
        have cS := callSwap
        go_wp2_with fail
        refine (swap_any HRD2.out HO2.out i k (by omega) hkl).mono ?_
        rintro e w3 ⟨rfl, hr3, ho3⟩
        have HN : Hid (UpRel lo B x y z w0 H (.slice p H1.length c) i w3) := Lib.hid ⟨Gr.swp H1 i k, hr3, by rw [HI.out]; exact HU.out.go (by omega) (by rw [← HI.out]; exact HLT.out), by rw [Gr.swp_len]; exact HL.out, (fun a => by rw [Gr.swp_count (by omega) hkl]; exact HC.out a), ho3⟩
        clear hr3 ho3 mS cS f3
        go_wp2
        go_roundw
        case rel => exact ⟨i, rfl, HN⟩
        case measure => simp [intOf]; omega
      · have hd : decide (Gr.at0 H1 k < Gr.at0 H1 i) = false := by simpa using hlt
        have HH := Lib.hid (HU.out.stop (.inr (by rw [← HI.out]; exact hlt)))
        rw [hd]
        clear hlt hd
        go_wp2
        go_end0
        exact ⟨H1, rfl, HRD2.out, HH.out, HL.out, HC.out, HO2.out⟩
end Go.Proofs.Ytjefnmcalmcciaa
