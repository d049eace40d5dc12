/-
  Several texts in one: Own, Laid, Src.
-/
import Derived.Test.YtnhndamfbeiljaaGreatDoorGTok
import Derived.Lib.ConvBytes
import Derived.Test.YtnhndamfbeiljaaGreatDoorCards
import Derived.Test.YtnhndamfbeiljaaGreatDoorTie
import Derived.WalkKit
import Derived.ProofKit
import Derived.OpenShut
import Derived.ShutString
import Derived.ChangeOld
import Derived.Deep.DeepHandedRow
import Derived.Deep.DeepWitnessRowRef
import Derived.Lib.LaidTab
import Derived.Laws.AppendOwnNone
namespace Go.Proofs.YtnhndamfbeiljaaGreatDoor
open Go Go.RowKit
set_option linter.unusedVariables false
set_option linter.unusedSimpArgs false

/-- The slice of an owned list of tokens that is not empty, cell by cell. -/
theorem own_toks {w : World} {base : Nat} {v : Value} {ts : List Lx.Tok} (h : w.ownsRow base 102 4 v ts.length (toksCells ts)) (hne : ts ≠ []) :
    ∃ g cap, v = .slice (some ⟨g, 0, none⟩) ts.length cap ∧ base ≤ g ∧ g < w.heap.size ∧ ts.length ≤ cap ∧ (cap : Int) ≤ 9223372036854775807 ∧
      ∀ i t, ts[i]? = some t → w.cell? ⟨g, i * 4, none⟩ = some (.int .i64 t.kind) ∧ w.cell? ⟨g, i * 4 + 1, none⟩ = some (.int .i64 t.pos) ∧ w.cell? ⟨g, i * 4 + 2, none⟩ = some (.string ⟨t.text.toArray⟩) ∧ w.cell? ⟨g, i * 4 + 3, none⟩ = some (.int .i64 t.int) := by
  obtain ⟨hlen, h0 | ⟨g, cap, cur, rfl, hb, hh, hn, hm, hsz, htk⟩⟩ := h
  · exact absurd (List.eq_nil_of_length_eq_zero h0.2) hne
  · refine ⟨g, cap, rfl, hb, ?_, hn, by unfold maxLen at hm; omega, ?_⟩
    · rcases Nat.lt_or_ge g w.heap.size with h' | h'
      · exact h'
      · rw [Array.getElem?_eq_none h'] at hh; exact absurd hh (by simp)
    · have key : ∀ k u, (toksCells ts)[k]? = some u → w.cell? ⟨g, k, none⟩ = some u := by
        intro k u hk
        have := World.ownsRow.cells (w := w) (base := base) (e := 102) (size := 4) (v := .slice (some ⟨g, 0, none⟩) ts.length cap) (n := ts.length) (xs := toksCells ts) ⟨hlen, .inr ⟨g, cap, cur, rfl, hb, hh, hn, hm, hsz, htk⟩⟩ (g := g) rfl k u hk
        have e : (⟨g, 0, none⟩ : Addr).add k = ⟨g, k, none⟩ := by unfold Addr.add; split <;> simp_all
        rwa [e] at this
      have part : ∀ (ts : List Lx.Tok) i t, ts[i]? = some t → ∀ j, j < 4 → (toksCells ts)[i * 4 + j]? = (tokCells t)[j]? := by
        intro ts
        induction ts with
        | nil => intro i t h; simp at h
        | cons a r ih =>
          intro i t h j hj
          have e : toksCells (a :: r) = tokCells a ++ toksCells r := by simp [toksCells]
          have hl : (tokCells a).length = 4 := rfl
          cases i with
          | zero =>
            simp at h; subst h
            rw [e, List.getElem?_append_left (by omega)]; simp
          | succ i =>
            simp at h
            rw [e, List.getElem?_append_right (by omega), hl]
            have := ih i t h j hj
            rw [← this]; congr 1; omega
      intro i t h
      refine ⟨?_, ?_, ?_, ?_⟩
      · exact key _ _ (by have := part ts i t h 0 (by omega); simpa [tokCells] using this)
      · exact key _ _ (by have := part ts i t h 1 (by omega); simpa [tokCells] using this)
      · exact key _ _ (by have := part ts i t h 2 (by omega); simpa [tokCells] using this)
      · exact key _ _ (by have := part ts i t h 3 (by omega); simpa [tokCells] using this)


def byteV (c : UInt8) : Value := .int .u8 c.toNat

theorem at0_set (l : List UInt8) (i j : Nat) (x : UInt8) (hi : i < l.length) : Lx.at0 (l.set i x) j = if i = j then x else Lx.at0 l j := by
  unfold Lx.at0
  rw [List.getD_eq_getElem?_getD, List.getD_eq_getElem?_getD, List.getElem?_set]
  by_cases h : i = j
  · subst h; simp [hi]
  · simp [h]

theorem at0_get (l : List UInt8) (j : Nat) (h : j < l.length) : (l.map byteV)[j]? = some (.int .u8 (Lx.at0 l j).toNat) := by
  rw [List.getElem?_map, List.getElem?_eq_getElem h]
  simp [byteV, Lx.at0, List.getD_eq_getElem?_getD, List.getElem?_eq_getElem h]

theorem bytesAt_own {w : World} {base e g n cap : Nat} {l : List UInt8} (h : w.ownsRow base e 1 (.slice (some ⟨g, 0, none⟩) n cap) n (l.map byteV)) : BytesAt w g 0 l ∧ l.length = n := by
  have hl : l.length = n := by have := h.1; simpa using this
  refine ⟨fun j hj => ?_, hl⟩
  have := World.ownsRow.cellAt h j (by omega)
  rw [Nat.zero_add, this]; exact at0_get l j hj

/-- An owned slice, nil or not, is a slice of bytes. -/
theorem sliceAt_own {w : World} {base e n : Nat} {v : Value} {l : List UInt8} (h : w.ownsRow base e 1 v n (l.map byteV)) : SliceAt w v l := by
  have hl : l.length = n := by have := h.1; simpa using this
  rcases h.2 with ⟨rfl, rfl⟩ | ⟨g, cap, cur, rfl, hb, hh, hn, hm, hsz, htk⟩
  · exact .inl ⟨none, 0, rfl, List.eq_nil_of_length_eq_zero hl⟩
  · refine .inr ⟨g, 0, cap, by rw [hl], by omega, by unfold maxLen at hm; omega, (bytesAt_own h).1⟩

theorem madeBytes (n : Nat) : (madeCells (Value.int .u8 0).cells (n * 1)).toList = (List.replicate n (0 : UInt8)).map byteV := by
  unfold madeCells
  simp [Value.cells, byteV, Nat.mod_one]
  rw [List.map_const', List.length_range]

theorem info5 : (Tryz.prog.info? 5).map (fun i => (i.zero, i.size, i.bytes)) = some (some (.int .u8 0), 1, 1) := by kernel_rfl

/-- A list's value is a slice of that length. -/
theorem own_len {w : World} {base e size n : Nat} {v : Value} {xs : List Value} (h : w.ownsRow base e size v n xs) : ∃ p cap, v = .slice p n cap := by
  rcases h.2 with ⟨rfl, rfl⟩ | ⟨g, cap, cur, rfl, _⟩
  · exact ⟨none, 0, rfl⟩
  · exact ⟨_, cap, rfl⟩

/-- '[]byte(s)' in its new block. -/
theorem bytesWorld_at (w : World) (e : TypeId) (l : List UInt8) : BytesAt (Lib.bytesWorld w e ⟨l.toArray⟩) w.heap.size 0 l := fun j hj => by
  rw [Nat.zero_add, Lib.bytesWorld_cell _ _ _ _ (by simpa [ByteArray.size] using hj)]
  rfl
theorem tokens_of_text (w : World) (l : List UInt8) (hl : l.length ≤ 1000000) : Calls Tryz.prog 42 #[.slice (some ⟨w.heap.size, 0, none⟩) l.length (grownCap w l.length 0 5)] (Lib.bytesWorld w 5 ⟨l.toArray⟩) (TkPost l (Lib.bytesWorld w 5 ⟨l.toArray⟩)) :=
  tokens_some l w.heap.size 0 _ _ (grownCap_ge _ _ _ _) (by have := grownCap_le_maxLen w l.length 0 5 (by unfold maxLen; omega); unfold maxLen at this; omega) (bytesWorld_at w _ l)
theorem conv_text (w : World) (l : List UInt8) : (convert 9 22 (.string ⟨l.toArray⟩)).run Tryz.prog w = .ok (.slice (some ⟨w.heap.size, 0, none⟩) l.length (grownCap w l.length 0 5)) (Lib.bytesWorld w 5 ⟨l.toArray⟩) :=
  Lib.run_convert_string_bytes (P := Tryz.prog) w 9 22 5 ⟨l.toArray⟩ Tryz.underlying9 Tryz.underlying22 Tryz.underlying5

theorem byte_of (c : Int) (h : (Lit.int .u8 c).wf = true) : ∃ u : UInt8, c = (u.toNat : Int) := by
  have hb : 0 ≤ c ∧ c ≤ 255 := by simpa [Lit.wf, IntKind.min, IntKind.max, IntKind.bits, IntKind.signed] using h
  refine ⟨UInt8.ofNat c.toNat, ?_⟩
  rw [UInt8.toNat_ofNat']; omega

/-- The cells of a list of tokens, its pointer a variable. -/
theorem own_cells {w : World} {base : Nat} {p : Option Addr} {cap : Nat} {ts : List Lx.Tok} (h : w.ownsRow base 102 4 (.slice p ts.length cap) ts.length (toksCells ts)) (k : Nat) (t : Lx.Tok) (hk : ts[k]? = some t) :
    ∃ g, p = some ⟨g, 0, none⟩ ∧ g < w.heap.size ∧ w.cell? ⟨g, k * 4, none⟩ = some (.int .i64 t.kind) ∧ w.cell? ⟨g, k * 4 + 1, none⟩ = some (.int .i64 t.pos) ∧ w.cell? ⟨g, k * 4 + 2, none⟩ = some (.string ⟨t.text.toArray⟩) ∧ w.cell? ⟨g, k * 4 + 3, none⟩ = some (.int .i64 t.int) := by
  obtain ⟨g, cap', he, _, hg, _, _, hc⟩ := own_toks h (by intro e; subst e; simp at hk)
  injection he with he1
  exact ⟨g, he1, hg, hc k t hk⟩

namespace Lx
theorem skip_all (r : List UInt8) : (∀ j, j + 1 < r.length → (at0 r j).toNat ≠ 10) → skipC true r = r.length := by
  induction r with
  | nil => intro _; rfl
  | cons c r ih =>
    intro h
    rw [skipC, List.length_cons]
    by_cases hc : c.toNat = 10
    · have hr : r = [] := by
        cases r with
        | nil => rfl
        | cons d r => exact absurd hc (h 0 (by simp))
      subst hr
      rw [if_pos hc]; rfl
    · rw [if_neg hc, ih (fun j hj => by have := h (j + 1) (by simpa using hj); simpa [at0] using this)]
end Lx
end Go.Proofs.YtnhndamfbeiljaaGreatDoor

namespace Go.Proofs.YtnhndamfbeiljaaGreatDoor
open Go.ChangeShapes Go.WideShapes Go.ChangeAt Go.RowKit

theorem own : ownKnob Tryz.prog.godebug = none := by kernel_rfl
theorem laidOut : laidOutB Tryz.prog = true := by kernel_rfl

/-- A slice of integers that came in: nil, or a row of 'cap' cells with the numbers 'zs'; the first 'len' are its elements. -/
def IsRow (k : IntKind) (w : World) (a : Option Addr) (len cap : Nat) (zs : List Int) : Prop :=
  (a = none ∧ len = 0 ∧ cap = 0 ∧ zs = []) ∨
  ∃ x, a = some x ∧ len ≤ cap ∧ cap ≤ 140737488351232 ∧ zs.length = cap ∧ (∀ i, i < zs.length → w.cell? (x.add i) = some (.int k (zs.getD i 0))) ∧ ∀ n ∈ zs, (Lit.int k n).wf = true

theorem bytesU8 : Tryz.prog.bytesOf 5 = 1 := by kernel_rfl

def laidList : List (String × DataW Unit) := [("math/bits.deBruijn32tab", Rows.laid_math_bits_deBruijn32tab), ("math/bits.deBruijn64tab", Rows.laid_math_bits_deBruijn64tab), ("internal/strconv.uint64pow10", Rows.laid_internal_strconv_uint64pow10), ("strconv.ErrRange", Rows.laid_strconv_ErrRange), ("strconv.ErrSyntax", Rows.laid_strconv_ErrSyntax)]

noncomputable def laidWorld (os : Os) : World :=
  let w0 := World.holding Tryz.prog os ⟨#[.cells #[.string ⟨#[118, 97, 108, 117, 101, 32, 111, 117, 116, 32, 111, 102, 32, 114, 97, 110, 103, 101]⟩] 231, .cells #[.string ⟨#[105, 110, 118, 97, 108, 105, 100, 32, 115, 121, 110, 116, 97, 120]⟩] 231], #[], []⟩
  { w0 with heap := ((((w0.heap.modify 2 fun
      | .cells _ t frozen => .cells #[.iface 229 (.pointer (some ⟨(World.settled Tryz.prog os).heap.size, 0, none⟩))] t frozen
      | o => o).modify 1 fun
      | .cells _ t frozen => .cells #[.iface 229 (.pointer (some ⟨(World.settled Tryz.prog os).heap.size + 1, 0, none⟩))] t frozen
      | o => o).modify 0 fun
      | .cells _ t frozen => .cells #[.int .u64 1, .int .u64 10, .int .u64 100, .int .u64 1000, .int .u64 10000, .int .u64 100000, .int .u64 1000000, .int .u64 10000000, .int .u64 100000000, .int .u64 1000000000, .int .u64 10000000000, .int .u64 100000000000, .int .u64 1000000000000, .int .u64 10000000000000, .int .u64 100000000000000, .int .u64 1000000000000000, .int .u64 10000000000000000, .int .u64 100000000000000000, .int .u64 1000000000000000000, .int .u64 10000000000000000000] t frozen
      | o => o).modify 3 fun
      | .cells _ t frozen => .cells #[.int .u8 0, .int .u8 1, .int .u8 28, .int .u8 2, .int .u8 29, .int .u8 14, .int .u8 24, .int .u8 3, .int .u8 30, .int .u8 22, .int .u8 20, .int .u8 15, .int .u8 25, .int .u8 17, .int .u8 4, .int .u8 8, .int .u8 31, .int .u8 27, .int .u8 13, .int .u8 23, .int .u8 21, .int .u8 19, .int .u8 16, .int .u8 7, .int .u8 26, .int .u8 12, .int .u8 18, .int .u8 6, .int .u8 11, .int .u8 5, .int .u8 10, .int .u8 9] t frozen
      | o => o).modify 4 fun
      | .cells _ t frozen => .cells #[.int .u8 0, .int .u8 1, .int .u8 56, .int .u8 2, .int .u8 57, .int .u8 49, .int .u8 28, .int .u8 3, .int .u8 61, .int .u8 58, .int .u8 42, .int .u8 50, .int .u8 38, .int .u8 29, .int .u8 17, .int .u8 4, .int .u8 62, .int .u8 47, .int .u8 59, .int .u8 36, .int .u8 45, .int .u8 43, .int .u8 51, .int .u8 22, .int .u8 53, .int .u8 39, .int .u8 33, .int .u8 30, .int .u8 24, .int .u8 18, .int .u8 12, .int .u8 5, .int .u8 63, .int .u8 55, .int .u8 48, .int .u8 27, .int .u8 60, .int .u8 41, .int .u8 37, .int .u8 16, .int .u8 46, .int .u8 35, .int .u8 44, .int .u8 21, .int .u8 52, .int .u8 32, .int .u8 23, .int .u8 11, .int .u8 54, .int .u8 26, .int .u8 40, .int .u8 15, .int .u8 34, .int .u8 20, .int .u8 31, .int .u8 10, .int .u8 25, .int .u8 14, .int .u8 19, .int .u8 9, .int .u8 13, .int .u8 8, .int .u8 7, .int .u8 6] t frozen
      | o => o }

set_option maxRecDepth 100000 in
theorem laidWorld_met (os : Os) (args : Array Value) : laidMet Tryz.prog laidList ((laidWorld os).forCall (fun _ _ => 0) ⟨#[], args, []⟩).memory :=
  laidMet_of_run' 8 (by kernel_rfl) (by kernel_rfl)
end Go.Proofs.YtnhndamfbeiljaaGreatDoor

namespace Go.Proofs.YtnhndamfbeiljaaGreatDoor
open Go Go.RowKit

/-- What a slice of bytes that came in holds. -/
def bytesOf (zs : List Int) (len : Nat) : List UInt8 := (zs.take len).map fun z => UInt8.ofNat z.toNat

/-- A source of bytes for an append. -/
def SrcAt (w : World) (v : Value) (l : List UInt8) : Prop :=
  (v = .slice none 0 0 ∧ l = []) ∨ ∃ ad c, v = .slice (some ad) l.length c ∧ ∀ j u, (l.map byteV)[j]? = some u → w.cell? (ad.add j) = some u

theorem SrcAt.below {w w' : World} {v : Value} {l : List UInt8} (h : SrcAt w v l) (hb : Below w.heap.size w w') : SrcAt w' v l := by
  rcases h with h | ⟨ad, c, rfl, h⟩
  · exact .inl h
  · refine .inr ⟨ad, c, rfl, fun j u hu => ?_⟩
    have := h j u hu
    rw [hb.cell (World.block_lt_of_cell? w _ this)]; exact this

theorem row_src {w : World} {a : Option Addr} {len cap : Nat} {zs : List Int} (h : IsRow .u8 w a len cap zs) :
    SrcAt w (.slice a len cap) (bytesOf zs len) ∧ SliceAt w (.slice a len cap) (bytesOf zs len) ∧ (bytesOf zs len).length = len ∧ len ≤ 140737488351232 := by
  rcases h with ⟨rfl, rfl, rfl, rfl⟩ | ⟨x, rfl, h1, h2, h3, h4, h5⟩
  · exact ⟨.inl ⟨rfl, rfl⟩, .inl ⟨none, 0, rfl, rfl⟩, rfl, by omega⟩
  · have hl : (bytesOf zs len).length = len := by simp [bytesOf]; omega
    have hz : ∀ j, j < len → zs.getD j 0 = ((Lx.at0 (bytesOf zs len) j).toNat : Int) := by
      intro j hj
      have hjz : j < zs.length := by omega
      have hb := bounds_u8 (h5 _ (List.getElem_mem hjz))
      unfold Lx.at0
      rw [List.getD_eq_getElem?_getD, List.getD_eq_getElem?_getD, List.getElem?_eq_getElem hjz]
      simp only [bytesOf, List.getElem?_map, List.getElem?_take, if_pos hj, List.getElem?_eq_getElem hjz, Option.map_some, Option.getD_some]
      rw [UInt8.toNat_ofNat']; omega
    have hsrc : ∀ j, j < len → w.cell? (x.add j) = some (.int .u8 (Lx.at0 (bytesOf zs len) j).toNat) := by
      intro j hj
      rw [h4 j (by omega), hz j hj]
    refine ⟨.inr ⟨x, cap, by rw [hl], fun j u hu => ?_⟩, ?_, hl, by omega⟩
    · have hj : j < len := by
        have := (List.getElem?_eq_some_iff.1 hu).1
        simpa [hl] using this
      rw [hsrc j hj, ← hu, at0_get _ j (by omega)]
    · by_cases h0 : len = 0
      · subst h0
        exact .inl ⟨_, cap, rfl, List.eq_nil_of_length_eq_zero hl⟩
      · obtain ⟨b, off, rfl, hbo⟩ := ints_at (zs := zs) (k := .u8) (w := w) (a := x) h4 (by omega)
        refine .inr ⟨b, off, cap, by rw [hl], by omega, by omega, fun j hj => ?_⟩
        rw [hbo j (by omega), hz j (by omega)]

/-- 'append(d, s...)' of bytes onto the call's own. -/
theorem wpList_append_bytes {w : World} {ops : Array Oper} {rest : List Oper} {o : Oper} {a : Act} {Q : Exit → Act → World → Prop} (hgd : o.guard = none) (s x : Operand)
    (ho : o.op = .call { callee := .builtin .append, args := #[s, x], argTypes := #[22, 22] })
    (base : Nat) (v : Value) (d l : List UInt8) (hs : a.eval s = v) (hown : w.ownsRow base 5 1 v d.length (d.map byteV)) (vx : Value) (hx : a.eval x = vx) (hsrc : SrcAt w vx l)
    (hbytes : d.length + l.length ≤ 140737488355328) (hbase : base ≤ w.heap.size)
    (h : ∀ v' w', w'.ownsRow base 5 1 v' (d ++ l).length ((d ++ l).map byteV) → w.grownBy w' v.ownBlock → wpList Tryz.prog ops Q rest (a.put o.dst v') w') : wpList Tryz.prog ops Q (o :: rest) a w := by
  obtain ⟨i0, hi, hz0, hz1, hz2⟩ := info_parts info5
  rcases hsrc with ⟨rfl, rfl⟩ | ⟨ad, c, rfl, hc⟩
  · exact wpList_append_own_none hgd s x 22 ho base 5 i0 1 Tryz.underlying22 hi v d.length _ hs hown hx
      (h v w (by rw [List.append_nil]; exact hown) ⟨rfl, rfl, rfl, Nat.le_refl _, fun _ _ _ => rfl⟩)
  · refine wpList_append_own w hgd s x 22 ho base 5 i0 (.int .u8 0) 1 1 Tryz.underlying22 hi hz0 hz1 hz2 rfl (by decide) v d.length _ hs hown ad l.length c (l.map byteV) hx (by simp) hc
      (fun u hu => ?_) (by unfold maxLen; omega) (by omega) hbase fun v' w' h1 h2 _ => h v' w' (by rw [List.length_append, List.map_append]; exact h1) h2
    obtain ⟨y, _, rfl⟩ := List.mem_map.1 hu
    rfl
theorem SliceAt.below {w w' : World} {v : Value} {l : List UInt8} (h : SliceAt w v l) (hb : Below w.heap.size w w') : SliceAt w' v l := by
  rcases h with h | ⟨b, off, cap, h1, h2, h3, h4⟩
  · exact .inl h
  · exact .inr ⟨b, off, cap, h1, h2, h3, h4.below hb⟩

/-- The empty list of bytes that a literal makes. -/
theorem own_empty (w : World) : (w.alloc (.cells #[] 5)).ownsRow w.heap.size 5 1 (.slice (some ⟨w.heap.size, 0, none⟩) 0 0) ([] : List UInt8).length (([] : List UInt8).map byteV) :=
  World.ownsRow_made w #[] 0 (Nat.le_refl _) (by unfold maxLen; omega) rfl

end Go.Proofs.YtnhndamfbeiljaaGreatDoor
