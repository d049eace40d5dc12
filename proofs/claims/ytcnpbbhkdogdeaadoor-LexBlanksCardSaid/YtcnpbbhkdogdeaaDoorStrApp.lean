/-
  'append(d, s...)' of a string's bytes onto the call's own slice of bytes.
-/
import Derived.Test.YtcnpbbhkdogdeaaDoorSrc
namespace Go.Proofs.YtcnpbbhkdogdeaaDoor
open Go Go.RowKit

theorem run_firstCells_str {P : Program} (w : World) (l : List UInt8) : (Builtin.firstCells 1 l.length (.string ⟨l.toArray⟩)).run P w = .ok (l.map byteV).toArray w := by
  simp [Builtin.firstCells, byteV]

theorem run_append_str (w : World) (base ty : Nat) (v : Value) (d l : List UInt8) (hown : w.ownsRow base 5 1 v d.length (d.map byteV))
    (hbytes : d.length + l.length ≤ 140737488355328) (hbase : base ≤ w.heap.size) :
    ∃ v' w', (Builtin.append_ #[22, 9] ty #[v, .string ⟨l.toArray⟩]).run Tryd.prog w = .ok v' w' ∧ w'.ownsRow base 5 1 v' (d ++ l).length ((d ++ l).map byteV) ∧ w.grownBy w' v.ownBlock := by
  obtain ⟨i, hi, hz, hsize, hby⟩ := info_parts info5
  have ht := Tryd.underlying22
  have hu := Tryd.underlying9
  have hsz : (ByteArray.mk l.toArray).size = l.length := by simp [ByteArray.size]
  by_cases hl0 : l = []
  · subst hl0
    rw [List.append_nil]
    obtain ⟨p, cap, rfl⟩ := own_len hown
    refine ⟨_, w, ?_, hown, ⟨rfl, rfl, rfl, Nat.le_refl _, fun _ _ _ => rfl⟩⟩
    have hnc : d.length ≤ cap := by
      rcases hown.2 with ⟨h, h'⟩ | ⟨g, cap', cur, h, _, _, hn, _⟩
      · omega
      · injection h with _ _ h3; omega
    have hf := run_firstCells_str (P := Tryd.prog) w []
    cases p with
    | none => simp [Builtin.append_, run_underlying ht, run_underlying hu, sizeOf, typeInfo, hi, Builtin.lenOf, ByteArray.size, hnc, hsize] at hf ⊢; simp [hf]
    | some a => simp [Builtin.append_, run_underlying ht, run_underlying hu, sizeOf, typeInfo, hi, Builtin.lenOf, ByteArray.size, hnc, hsize] at hf ⊢; simp [hf, storeCells]
  · have hlp : 0 < l.length := List.length_pos_iff.2 hl0
    have hf := fun w => run_firstCells_str (P := Tryd.prog) w l
    have h63 : ¬ (9223372036854775807 : Int) < (d.length : Int) + (l.length : Int) := by omega
    have hmlen : ((d ++ l).map byteV).length = (d.length + l.length) * 1 := by simp
    have hzc : ∀ n, (Builtin.zeroCells (Value.int IntKind.u8 0).cells n).size = n := fun n => by rw [size_zeroCells]; simp [Value.cells]
    have grown : ∀ (old : Nat) (row : Option Nat),
        (w.drew.alloc (.cells (((d ++ l).map byteV).toArray ++ Builtin.zeroCells (Value.int IntKind.u8 0).cells (grownCap w (d.length + l.length) old 5 - (d.length + l.length))) 5)).ownsRow base 5 1
          (.slice (some ⟨w.heap.size, 0, none⟩) (d.length + l.length) (grownCap w (d.length + l.length) old 5)) (d ++ l).length ((d ++ l).map byteV) ∧
        w.grownBy (w.drew.alloc (.cells (((d ++ l).map byteV).toArray ++ Builtin.zeroCells (Value.int IntKind.u8 0).cells (grownCap w (d.length + l.length) old 5 - (d.length + l.length))) 5)) row := by
      intro old row
      have hge := grownCap_ge w (d.length + l.length) old 5
      have hcm : grownCap w (d.length + l.length) old 5 ≤ maxLen := grownCap_le_maxLen w _ old _ (by unfold maxLen; omega)
      refine ⟨⟨by simp, .inr ⟨w.heap.size, _, _, by rw [List.length_append], hbase, heap_alloc_new w.drew _, by rw [List.length_append]; exact hge, hcm, ?_, ?_⟩⟩, ⟨rfl, rfl, rfl, by simp, fun k hk _ => heap_alloc_old w.drew _ hk⟩⟩
      · rw [Array.size_append, hzc, List.size_toArray, List.length_map, List.length_append]; omega
      · rw [Array.toList_append, List.toList_toArray]
        have : (d ++ l).length * 1 = ((d ++ l).map byteV).length := by simp
        rw [this]; exact List.take_left
    rcases hown.2 with ⟨rfl, hd0⟩ | ⟨g, cap, cur, rfl, hbg, hg, hnc, hcm, hcs, htake⟩
    · have hd : d = [] := List.eq_nil_of_length_eq_zero hd0
      subst hd
      obtain ⟨g1, g2⟩ := grown 0 (Value.ownBlock (.slice none 0 0))
      refine ⟨_, _, ?_, g1, g2⟩
      have h48' : ¬ (281474976710656 < Builtin.nextslicecap l.length 0 * i.bytes) := by rw [nextslicecap_zero hlp, hby]; simp at hbytes; omega
      have hn : l.length ≠ 0 := by omega
      have h63' : ¬ (9223372036854775807 : Int) < (l.length : Int) := by omega
      simp [Builtin.append_, run_underlying ht, run_underlying hu, sizeOf, typeInfo, zeroValue, hi, hz, hsize, Builtin.lenOf, hsz, hn, h63', h48', Question.forced, hf, run_firstCells_none, newRow, grownCap]
    · by_cases hroom : d.length + l.length ≤ cap
      · have hst := run_storeCells_at Tryd.prog g d.length 5 (l.map byteV) 0 cur w hg (by simp; omega) (fun u hu => by obtain ⟨y, _, rfl⟩ := List.mem_map.1 hu; rfl)
        rw [Nat.add_zero] at hst
        refine ⟨.slice (some ⟨g, 0, none⟩) (d.length + l.length) cap, _, ?_, ⟨by simp, .inr ⟨g, cap, _, by rw [List.length_append], hbg, setRow_heap w g cur (cur.toList.take d.length ++ l.map byteV ++ cur.toList.drop (d.length + (l.map byteV).length)).toArray 5 (0, 0) hg, by rw [List.length_append]; exact hroom, hcm, ?_, ?_⟩⟩,
          ⟨rfl, rfl, rfl, by simp, fun k _ hk => setRow_other w g k _ (fun e => hk (by simp [Value.ownBlock, e]))⟩⟩
        · simp [Builtin.append_, run_underlying ht, run_underlying hu, sizeOf, typeInfo, hi, hsize, Builtin.lenOf, hsz, hroom, hf, Addr.add_lit, hst]
        · simp only [List.size_toArray, List.length_append, List.length_take, List.length_drop, Array.length_toList, List.length_map]; omega
        · rw [Nat.mul_one] at htake ⊢
          rw [htake, List.append_assoc, List.map_append, ← List.append_assoc]
          have : (d ++ l).length = (d.map byteV ++ l.map byteV).length := by simp
          rw [this]; exact List.take_left
      · obtain ⟨g1, g2⟩ := grown cap (Value.ownBlock (.slice (some ⟨g, 0, none⟩) d.length cap))
        refine ⟨_, _, ?_, g1, g2⟩
        have hfit : Builtin.nextslicecap (d.length + l.length) cap * i.bytes ≤ 281474976710656 := growslice_fits (by omega) (by rw [hby]; omega)
        have h48' : ¬ (281474976710656 < Builtin.nextslicecap (d.length + l.length) cap * i.bytes) := by omega
        have holds : ∀ j u, (d.map byteV)[j]? = some u → w.drew.cell? ((⟨g, 0, none⟩ : Addr).add j) = some u := World.ownsRow.cells hown rfl
        have hfo := run_firstCells_some (P := Tryd.prog) w.drew 1 d.length ⟨g, 0, none⟩ d.length cap (d.map byteV) (by simp) holds
        simp [Builtin.append_, run_underlying ht, run_underlying hu, sizeOf, typeInfo, zeroValue, hi, hz, hsize, Builtin.lenOf, hsz, hroom, h63, h48', Question.forced, hf, hfo, newRow, grownCap]
        congr 2
        apply Array.ext'
        simp [List.append_assoc]

theorem run_append_bytes (w : World) (base ty : Nat) (v vx : Value) (d l : List UInt8) (hown : w.ownsRow base 5 1 v d.length (d.map byteV)) (hsrc : SrcAt w vx l)
    (hbytes : d.length + l.length ≤ 140737488355328) (hbase : base ≤ w.heap.size) :
    ∃ v' w', (Builtin.append_ #[22, 22] ty #[v, vx]).run Tryd.prog w = .ok v' w' ∧ w'.ownsRow base 5 1 v' (d ++ l).length ((d ++ l).map byteV) ∧ w.grownBy w' v.ownBlock := by
  obtain ⟨i0, hi, hz0, hz1, hz2⟩ := info_parts info5
  rcases hsrc with ⟨rfl, rfl⟩ | ⟨ad, c, rfl, hc⟩
  · refine ⟨v, w, run_append_owned_none (P := Tryd.prog) (w := w) base 22 ty 5 i0 1 Tryd.underlying22 hi v d.length _ hown, by rw [List.append_nil]; exact hown, ⟨rfl, rfl, rfl, Nat.le_refl _, fun _ _ _ => rfl⟩⟩
  · obtain ⟨v', w', hr, h2, h3, _⟩ := run_append_own (P := Tryd.prog) w base 22 ty 5 i0 (.int .u8 0) 1 1 Tryd.underlying22 hi hz0 hz1 hz2 rfl (by decide) v d.length _ hown ad l.length c (l.map byteV) (by simp) hc
      (fun u hu => by obtain ⟨y, _, rfl⟩ := List.mem_map.1 hu; rfl) (by unfold maxLen; omega) (by omega) hbase
    exact ⟨v', w', hr, by rw [List.length_append, List.map_append]; exact h2, h3⟩

theorem step_append_bytes {w : World} {ops : Array Oper} {o : Oper} {a : Act} {K : Act → World → Prop} {Q : Exit → Act → World → Prop} {E : Prop} (hgd : o.guard = none) (s x : Operand)
    (ho : o.op = .call { callee := .builtin .append, args := #[s, x], argTypes := #[22, 22] })
    (base : Nat) (v vx : Value) (d l : List UInt8) (hs : a.eval s = v) (hown : w.ownsRow base 5 1 v d.length (d.map byteV)) (hx : a.eval x = vx) (hsrc : SrcAt w vx l)
    (hbytes : d.length + l.length ≤ 140737488355328) (hbase : base ≤ w.heap.size)
    (h : ∀ v' w', w'.ownsRow base 5 1 v' (d ++ l).length ((d ++ l).map byteV) → w.grownBy w' v.ownBlock → K (a.put o.dst v') w') :
    if Region.wanted o (yielded ops a.tmps) = true then Oper.wp Tryd.prog o a w K Q else E := by
  have hw : Region.wanted o (yielded ops a.tmps) = true := by simp [Region.wanted, hgd]
  rw [if_pos hw]
  obtain ⟨v', w', hr, h2, h3⟩ := run_append_bytes w base o.type v vx d l hown hsrc hbytes hbase
  unfold Oper.wp execOp
  simp only [ho, resolve, invoke, builtin, Sem.run_bind, Sem.run_pure, Result.andThen_ok, List.map_toArray, List.map_cons, List.map_nil, hs, hx, hr]
  exact h v' w' h2 h3

theorem step_append_str {w : World} {ops : Array Oper} {o : Oper} {a : Act} {K : Act → World → Prop} {Q : Exit → Act → World → Prop} {E : Prop} (hgd : o.guard = none) (s x : Operand)
    (ho : o.op = .call { callee := .builtin .append, args := #[s, x], argTypes := #[22, 9] })
    (base : Nat) (v : Value) (d l : List UInt8) (hs : a.eval s = v) (hown : w.ownsRow base 5 1 v d.length (d.map byteV)) (hx : a.eval x = .string ⟨l.toArray⟩)
    (hbytes : d.length + l.length ≤ 140737488355328) (hbase : base ≤ w.heap.size)
    (h : ∀ v' w', w'.ownsRow base 5 1 v' (d ++ l).length ((d ++ l).map byteV) → w.grownBy w' v.ownBlock → K (a.put o.dst v') w') :
    if Region.wanted o (yielded ops a.tmps) = true then Oper.wp Tryd.prog o a w K Q else E := by
  have hw : Region.wanted o (yielded ops a.tmps) = true := by simp [Region.wanted, hgd]
  rw [if_pos hw]
  obtain ⟨v', w', hr, h2, h3⟩ := run_append_str w base o.type v d l hown hbytes hbase
  unfold Oper.wp execOp
  simp only [ho, resolve, invoke, builtin, Sem.run_bind, Sem.run_pure, Result.andThen_ok, List.map_toArray, List.map_cons, List.map_nil, hs, hx, hr]
  exact h v' w' h2 h3

/-- An owned list of bytes is not a block of another type. -/
theorem own_ne {w : World} {base n b : Nat} {v : Value} {xs : List Value} {C : Array Value} {T : TypeId} {fr : Nat × Nat} (h : w.ownsRow base 5 1 v n xs) (hb : w.heap[b]? = some (.cells C T fr)) (hT : T ≠ 5) : v.ownBlock ≠ some b := by
  intro e
  rcases h.2 with ⟨rfl, _⟩ | ⟨g, cap, cur, rfl, _, hg, _⟩
  · simp [Value.ownBlock] at e
  · simp only [Value.ownBlock, Option.some.injEq] at e
    subst e
    rw [hb] at hg
    simp only [Option.some.injEq, Obj.cells.injEq] at hg
    exact hT hg.2.1
end Go.Proofs.YtcnpbbhkdogdeaaDoor
