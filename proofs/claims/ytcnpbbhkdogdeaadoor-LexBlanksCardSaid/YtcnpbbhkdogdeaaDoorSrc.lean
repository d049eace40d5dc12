/-
  Slices of bytes that came in; appending them.
-/
import Derived.Test.YtcnpbbhkdogdeaaDoorOwn
import Derived.Test.YtcnpbbhkdogdeaaDoorLaid
import Derived.Laws.AppendOwnNone
namespace Go.Proofs.YtcnpbbhkdogdeaaDoor
open Go Go.RowKit

/-- What a slice of bytes that came in holds. -/
def bytesOf (zs : List Int) (len : Nat) : List UInt8 := (zs.take len).map fun z => UInt8.ofNat z.toNat

/-- A source of bytes for an append. -/
def SrcAt (w : World) (v : Value) (l : List UInt8) : Prop :=
  (v = .slice none 0 0 ∧ l = []) ∨ ∃ ad c, v = .slice (some ad) l.length c ∧ ∀ j u, (l.map byteV)[j]? = some u → w.cell? (ad.add j) = some u

theorem SrcAt.below {w w' : World} {v : Value} {l : List UInt8} (h : SrcAt w v l) (hb : Below w.heap.size w w') : SrcAt w' v l := by
  rcases h with h | ⟨ad, c, rfl, h⟩
  · exact .inl h
  · refine .inr ⟨ad, c, rfl, fun j u hu => ?_⟩
    have := h j u hu
    rw [hb.cell (World.block_lt_of_cell? w _ this)]; exact this

theorem row_src {w : World} {a : Option Addr} {len cap : Nat} {zs : List Int} (h : IsRow .u8 w a len cap zs) :
    SrcAt w (.slice a len cap) (bytesOf zs len) ∧ SliceAt w (.slice a len cap) (bytesOf zs len) ∧ (bytesOf zs len).length = len ∧ len ≤ 140737488351232 := by
  rcases h with ⟨rfl, rfl, rfl, rfl⟩ | ⟨x, rfl, h1, h2, h3, h4, h5⟩
  · exact ⟨.inl ⟨rfl, rfl⟩, .inl ⟨none, 0, rfl, rfl⟩, rfl, by omega⟩
  · have hl : (bytesOf zs len).length = len := by simp [bytesOf]; omega
    have hz : ∀ j, j < len → zs.getD j 0 = ((Lx.at0 (bytesOf zs len) j).toNat : Int) := by
      intro j hj
      have hjz : j < zs.length := by omega
      have hb := bounds_u8 (h5 _ (List.getElem_mem hjz))
      unfold Lx.at0
      rw [List.getD_eq_getElem?_getD, List.getD_eq_getElem?_getD, List.getElem?_eq_getElem hjz]
      simp only [bytesOf, List.getElem?_map, List.getElem?_take, if_pos hj, List.getElem?_eq_getElem hjz, Option.map_some, Option.getD_some]
      rw [UInt8.toNat_ofNat']; omega
    have hsrc : ∀ j, j < len → w.cell? (x.add j) = some (.int .u8 (Lx.at0 (bytesOf zs len) j).toNat) := by
      intro j hj
      rw [h4 j (by omega), hz j hj]
    refine ⟨.inr ⟨x, cap, by rw [hl], fun j u hu => ?_⟩, ?_, hl, by omega⟩
    · have hj : j < len := by
        have := (List.getElem?_eq_some_iff.1 hu).1
        simpa [hl] using this
      rw [hsrc j hj, ← hu, at0_get _ j (by omega)]
    · by_cases h0 : len = 0
      · subst h0
        exact .inl ⟨_, cap, rfl, List.eq_nil_of_length_eq_zero hl⟩
      · obtain ⟨b, off, rfl, hbo⟩ := ints_at (zs := zs) (k := .u8) (w := w) (a := x) h4 (by omega)
        refine .inr ⟨b, off, cap, by rw [hl], by omega, by omega, fun j hj => ?_⟩
        rw [hbo j (by omega), hz j (by omega)]

/-- 'append(d, s...)' of bytes onto the call's own. -/
theorem wpList_append_bytes {w : World} {ops : Array Oper} {rest : List Oper} {o : Oper} {a : Act} {Q : Exit → Act → World → Prop} (hgd : o.guard = none) (s x : Operand)
    (ho : o.op = .call { callee := .builtin .append, args := #[s, x], argTypes := #[22, 22] })
    (base : Nat) (v : Value) (d l : List UInt8) (hs : a.eval s = v) (hown : w.ownsRow base 5 1 v d.length (d.map byteV)) (vx : Value) (hx : a.eval x = vx) (hsrc : SrcAt w vx l)
    (hbytes : d.length + l.length ≤ 140737488355328) (hbase : base ≤ w.heap.size)
    (h : ∀ v' w', w'.ownsRow base 5 1 v' (d ++ l).length ((d ++ l).map byteV) → w.grownBy w' v.ownBlock → wpList Tryd.prog ops Q rest (a.put o.dst v') w') : wpList Tryd.prog ops Q (o :: rest) a w := by
  obtain ⟨i0, hi, hz0, hz1, hz2⟩ := info_parts info5
  rcases hsrc with ⟨rfl, rfl⟩ | ⟨ad, c, rfl, hc⟩
  · exact wpList_append_own_none hgd s x 22 ho base 5 i0 1 Tryd.underlying22 hi v d.length _ hs hown hx
      (h v w (by rw [List.append_nil]; exact hown) ⟨rfl, rfl, rfl, Nat.le_refl _, fun _ _ _ => rfl⟩)
  · refine wpList_append_own w hgd s x 22 ho base 5 i0 (.int .u8 0) 1 1 Tryd.underlying22 hi hz0 hz1 hz2 rfl (by decide) v d.length _ hs hown ad l.length c (l.map byteV) hx (by simp) hc
      (fun u hu => ?_) (by unfold maxLen; omega) (by omega) hbase fun v' w' h1 h2 _ => h v' w' (by rw [List.length_append, List.map_append]; exact h1) h2
    obtain ⟨y, _, rfl⟩ := List.mem_map.1 hu
    rfl
theorem SliceAt.below {w w' : World} {v : Value} {l : List UInt8} (h : SliceAt w v l) (hb : Below w.heap.size w w') : SliceAt w' v l := by
  rcases h with h | ⟨b, off, cap, h1, h2, h3, h4⟩
  · exact .inl h
  · exact .inr ⟨b, off, cap, h1, h2, h3, h4.below hb⟩

/-- The empty list of bytes that a literal makes. -/
theorem own_empty (w : World) : (w.alloc (.cells #[] 5)).ownsRow w.heap.size 5 1 (.slice (some ⟨w.heap.size, 0, none⟩) 0 0) ([] : List UInt8).length (([] : List UInt8).map byteV) :=
  World.ownsRow_made w #[] 0 (Nat.le_refl _) (by unfold maxLen; omega) rfl

end Go.Proofs.YtcnpbbhkdogdeaaDoor
