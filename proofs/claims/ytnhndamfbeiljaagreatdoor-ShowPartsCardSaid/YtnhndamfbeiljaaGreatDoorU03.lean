/-
  Several texts in one: Tokens, Own, Laid, Src, ShelfI, PRep, PLeaf, PRow, PPrims, PWord.
-/
import Derived.Test.YtnhndamfbeiljaaGreatDoorU00
import Derived.Test.YtnhndamfbeiljaaGreatDoorU02
import Derived.Test.YtnhndamfbeiljaaGreatDoorU01
import Derived.Lib.ConvBytes
import Derived.Test.YtnhndamfbeiljaaGreatDoorCards
import Derived.Test.YtnhndamfbeiljaaGreatDoorTie
import Derived.WalkKit
import Derived.ProofKit
import Derived.OpenShut
import Derived.ShutString
import Derived.ChangeOld
import Derived.Deep.DeepHandedRow
import Derived.Deep.DeepWitnessRowRef
import Derived.Lib.LaidTab
import Derived.Laws.AppendOwnNone
import Derived.Shelf.LaysM
import Derived.Shelf.Strconv.Itoa4
import Derived.Shelf.LaysC
import Derived.Shelf.Strconv.ParseIntPublic10
import Derived.Test.YtnhndamfbeiljaaGreatDoorProg
import Derived.Below
import Derived.Maps.OwnOps
set_option linter.unusedVariables false
set_option linter.unusedSimpArgs false
set_option maxHeartbeats 4000000
set_option maxRecDepth 100000
namespace Go.Proofs.YtnhndamfbeiljaaGreatDoor
open Go Go.RowKit
open Go.Lib (hid)
open List renaming getElem_toArray → jPC, getElem_cons_succ → jPD, getElem_cons_zero → jPE, setIfInBounds_toArray → jPF, set_cons_zero → jPG, set_cons_succ → jPH
def tokCells (t : Lx.Tok) : List Value := [.int .i64 t.kind, .int .i64 t.pos, .string ⟨t.text.toArray⟩, .int .i64 t.int]
def jBL (ts : List Lx.Tok) : List Value := ts.flatMap tokCells
def BytesAt (w : World) (b off : Nat) (l : List UInt8) : Prop := ∀ j, j < l.length -> w.cell? ⟨b, off + j, none⟩ = some (.int .u8 (Lx.at0 l j).toNat)
theorem BytesAt.below {w w' : World} {b off : Nat} {l : List UInt8} (h : BytesAt w b off l) (hb : Below w.heap.size w w') : BytesAt w' b off l := fun j hj => by
 have := h j hj; rw [hb.cell (World.block_lt_of_cell? w _ this)]; exact this
def TkR (l : List UInt8) (done : List Lx.Tok) (E : Nat) : Prop :=
 ∃ f, l.length < E + f /\ Lx.toks (l.length + 1) 0 l = (done ++ (Lx.toks f E (l.drop E)).1, (Lx.toks f E (l.drop E)).2)
theorem jO3 (l : List UInt8) : TkR l [] 0 := ⟨l.length + 1, by omega, by simp⟩
theorem jO2 (f p : Nat) (l : List UInt8) : Lx.toks (f + 1) p l =
 if l.length <= Lx.skipC false l then ([], none) else
  if (Lx.jAL (l.drop (Lx.skipC false l))).2 = 0 then ([], some (p + Lx.skipC false l)) else
   (Lx.jD4 (p + Lx.skipC false l) (Lx.jAL (l.drop (Lx.skipC false l))).1 ((l.drop (Lx.skipC false l)).take (Lx.jAL (l.drop (Lx.skipC false l))).2) ::
     (Lx.toks f (p + Lx.skipC false l + (Lx.jAL (l.drop (Lx.skipC false l))).2) ((l.drop (Lx.skipC false l)).drop (Lx.jAL (l.drop (Lx.skipC false l))).2)).1,
    (Lx.toks f (p + Lx.skipC false l + (Lx.jAL (l.drop (Lx.skipC false l))).2) ((l.drop (Lx.skipC false l)).drop (Lx.jAL (l.drop (Lx.skipC false l))).2)).2) := rfl
theorem tk_step {l : List UInt8} {done : List Lx.Tok} {E A : Nat} (h : TkR l done E) (hE : E <= l.length) (hA : E + Lx.skipC false (l.drop E) = A) :
 A <= l.length /\ E <= A /\ (A = l.length -> Lx.toks (l.length + 1) 0 l = (done, none)) /\
 (A < l.length -> (Lx.jAL (l.drop A)).2 = 0 -> (Lx.toks (l.length + 1) 0 l).2 = some A) /\
 (A < l.length -> (Lx.jAL (l.drop A)).2 ≠ 0 -> TkR l (done ++ [Lx.jD4 A (Lx.jAL (l.drop A)).1 ((l.drop A).take (Lx.jAL (l.drop A)).2)]) (A + (Lx.jAL (l.drop A)).2)) := by
 obtain ⟨f, hf, ht⟩ := h; have hle := Lx.jFG false (l.drop E); rw [List.length_drop] at hle; obtain ⟨f, rfl⟩ : ∃ g, f = g + 1 := ⟨f - 1, by omega⟩
 rw [jO2 f E (l.drop E), List.length_drop, List.drop_drop, hA] at ht; refine ⟨by omega, by omega, ?_, ?_, ?_⟩
 . intro he; rw [if_pos (by omega)] at ht; rw [ht]; simp
 . intro h1 h2; rw [if_neg (by omega), if_pos h2] at ht; rw [ht]
 . intro h1 h2; rw [if_neg (by omega), if_neg h2, List.drop_drop] at ht; exact ⟨f, by omega, by rw [ht]; simp⟩
def TkJ (l : List UInt8) (b off cap : Nat) (w0 : World) (lab : Nat) (a : Act) (w : World) : Prop :=
 lab = 0 /\ ∃ (E : Nat) (v : Value) (done : List Lx.Tok) (u1 u2 u3 u4 u6 u7 u9 u10 u11 u12 u13 u14 u15 u16 u17 u18 u19 u20 u21 u22 u23 u24 u25 u26 u27 u28 u29 u30 u31 u32 u33 u34 u35 u36 u37 u38 u39 u40 : Value), a = { tmps := #[.slice (some ⟨b, off, none⟩) l.length cap, u1, u2, u3, u4, v, u6, u7, .int .i64 E, u9, u10, u11, u12, u13, u14, u15, u16, u17, u18, u19, u20, u21, u22, u23, u24, u25, u26, u27, u28, u29, u30, u31, u32, u33, u34, u35, u36, u37, u38, u39, u40], defers := [] } /\
  Below w0.heap.size w0 w /\ w.ownsRow w0.heap.size 102 4 v done.length (jBL done) /\ E <= l.length /\ l.length <= 4096 /\ done.length <= E /\ TkR l done E
def jN9 (l : List UInt8) (w : World) (e : Ending) (w' : World) : Prop :=
 ∃ (v : Value) (ts : List Lx.Tok) (p : Int) (c : Int), e = .returned (.tuple #[v, .int .i64 p, .int .i64 c]) /\ Below w.heap.size w w' /\ w'.ownsRow w.heap.size 102 4 v ts.length (jBL ts) /\
  ((4096 < l.length /\ ts = [] /\ p = 4096 /\ c = 2) \/ (l.length <= 4096 /\ (∃ q, (Lx.toks (l.length + 1) 0 l).2 = some q /\ ts = [] /\ p = q /\ c = 2)) \/ (l.length <= 4096 /\ (Lx.toks (l.length + 1) 0 l) = (ts, none) /\ p = -1 /\ c = 0))
theorem jJ1 (k : Int) (p : Nat) (t : List UInt8) (w : World) (hm : t.length <= 9223372036854775806) (h : k = 2 -> Lib.parseIntB 64 t = .ok (Lx.numV t)) :
 Calls Tryz.prog 84 #[.int .i64 k, .int .i64 p, .string ⟨t.toArray⟩] w fun e w' => e = .returned (.agg #[.int .i64 k, .int .i64 p, .string ⟨t.toArray⟩, .int .i64 (Lx.jD4 p k t).int]) /\ Below w.heap.size w w' := by
 by_cases hk : k = 2
 . subst hk; exact jJ0 p (Lx.numV t) ⟨t.toArray⟩ w (by simpa [ByteArray.size] using hm) (h rfl)
 . have e : (Lx.jD4 p k t).int = 0 := by show (if k = 2 then Lx.numV t else 0) = 0; rw [if_neg hk]
   rw [e]; exact jHE k p _ w hk
theorem jBC {B : Nat} {w w' : World} (h : Below B w w') (hB : w.heap.size <= B) (row : Option Nat) : w.grownBy w' row := ⟨h.os, h.tape, h.output, h.size, fun k hk _ => h.block k (by omega)⟩
theorem info102 : (Tryz.prog.info? 102).map (fun i => (i.zero, i.size, i.bytes)) = some (some (.agg #[.int .i64 0, .int .i64 0, .string ⟨#[]⟩, .int .i64 0]), 4, 40) := by kernel_rfl
theorem jA5 {w w' : World} {base : Nat} {e : TypeId} {size : Nat} {v : Value} {n : Nat} {xs : List Value} (h : w.ownsRow base e size v n xs) (hb : Below w.heap.size w w') : w'.ownsRow base e size v n xs := by
 refine h.kept (jBC hb (Nat.le_refl _) (some w.heap.size)) ?_; cases hv : v.ownBlock with
 | none => exact .inl rfl
 | some k => exact .inr (by have := (h.lt k hv).2; simp; omega)
theorem four_at (w : World) (x0 x1 x2 x3 : Value) (T : TypeId) (j : Nat) (u : Value) (h : [x0, x1, x2, x3][j]? = some u) :
 (w.alloc (.cells #[x0, x1, x2, x3] T)).cell? ((⟨w.heap.size, 0, none⟩ : Addr).add j) = some u := by
 have e : (⟨w.heap.size, 0, none⟩ : Addr).add j = ⟨w.heap.size, j, none⟩ := by unfold Addr.add; split <;> simp_all
 rw [e, World.cell?_alloc_mark]
 simpa using h
theorem four_one (k p i : Int) (t : ByteArray) : ∀ u ∈ [Value.int .i64 k, .int .i64 p, .string t, .int .i64 i], u.oneCell' = true := by
 intro u hu; simp only [List.mem_cons, List.not_mem_nil, or_false] at hu
 rcases hu with rfl | rfl | rfl | rfl <;> rfl
theorem jHT (done : List Lx.Tok) (A : Nat) (k : Int) (t : List UInt8) (iv : Int) (h : (Lx.jD4 A k t).int = iv) :
 jBL done ++ [.int .i64 k, .int .i64 A, .string ⟨t.toArray⟩, .int .i64 iv] = jBL (done ++ [Lx.jD4 A k t]) := by
 subst h; simp [jBL, tokCells, Lx.jD4]
theorem jKS (l : List UInt8) (b off cap : Nat) (w : World) (hm : l.length <= cap) (_hcap : (cap : Int) <= 9223372036854775807) (hc : BytesAt w b off l) :
 Calls Tryz.prog 42 #[.slice (some ⟨b, off, none⟩) l.length cap] w (jN9 l w) := by
 go_enter Tryz.func42, Tryz.ntmps42; go_wp2; refine jIO 0 rfl (TkJ l b off cap w) (fun _ a _ => l.length - (intOf (a.tmps.getD 8 undef)).toNat) ?_ ?_ ?_
 . rintro a w1 ⟨_, E, v, done, u1, u2, u3, u4, u6, u7, u9, u10, u11, u12, u13, u14, u15, u16, u17, u18, u19, u20, u21, u22, u23, u24, u25, u26, u27, u28, u29, u30, u31, u32, u33, u34, u35, u36, u37, u38, u39, u40, rfl, hB, hown, hE, hshort, hd, hR⟩; have Hc := hid (hc.below hB); go_wp2_with fail; refine (skip_some l E b off cap _ hE (by omega) Hc.out).mono ?_; rintro e w2 ⟨rfl, rfl⟩
   generalize hA : E + Lx.skipC false (l.drop E) = A; obtain ⟨hAl, hEA, hend, hbad, hmore⟩ := tk_step hR hE hA; clear hA hR hE; by_cases he : A = l.length
   . have Hend := hid (hend he); have h1 : ((A : Int) == (l.length : Int)) = true := by simp [he]
     clear hend hbad hmore he; go_wp2; rw [Exit.jumps_ret]; go_ret3; exact ⟨v, done, -1, 0, rfl, hB, hown, .inr (.inr ⟨by omega, Hend.out, rfl, rfl⟩)⟩
   . have hlt : A < l.length := by omega
     have h1 : ((A : Int) == (l.length : Int)) = false := by simp; omega
     have hle := Lx.jHV (l.drop A); rw [List.length_drop] at hle; by_cases hn : (Lx.jAL (l.drop A)).2 = 0
     . have Hbad := hid (hbad hlt hn); clear hend hbad hmore he; go_wp2_with fail; refine (jJ9 l A b off cap _ hlt (by omega) Hc.out).mono ?_; rintro e w2 ⟨rfl, rfl⟩
       rw [hn, Nat.add_zero]; clear hn hle; go_wp2_with fail; rw [Exit.jumps_ret]; go_ret3; exact ⟨_, [], A, 2, rfl, hB, World.ownsRow_nil _ _ _ _, .inr (.inl ⟨by omega, A, Hbad.out, rfl, rfl, rfl⟩)⟩
     . have Hmore := hid (hmore hlt hn); have hpi := Lx.jOO (l.drop A); generalize hkk : (Lx.jAL (l.drop A)).1 = k at *; generalize hnn : (Lx.jAL (l.drop A)).2 = n at *; have Hpi := hid hpi; clear hend hbad hmore he hpi; go_wp2_with fail; refine (jJ9 l A b off cap _ hlt (by omega) Hc.out).mono ?_; rintro e w2 ⟨rfl, rfl⟩
       rw [hkk, hnn]; clear hkk hnn; obtain ⟨E', hE'⟩ : ∃ E', E' = A + n := ⟨_, rfl⟩
       rw [<- hE']; have HE' := hid hE'; have hAE : A < E' := by omega
       have hE'l : E' <= l.length := by omega
       have h2 : ((E' : Int) == (A : Int)) = false := by simp; omega
       have hlen : ((l.drop A).take n).length = E' - A := by rw [List.length_take, List.length_drop]; omega
       have hcv := run_convert_bytes_back (P := Tryz.prog) w1 22 9 5 ⟨b, off + A, none⟩ (cap - A) ((l.drop A).take n) Tryz.underlying22 Tryz.underlying5 Tryz.underlying9 (fun j hj => by
        have hplain : (⟨b, off + A, none⟩ : Addr).add j = ⟨b, off + (A + j), none⟩ := by unfold Addr.add; simp [Nat.add_assoc]
        rw [hplain, Hc.out (A + j) (by omega)]; have e := Lx.take_at0 (l.drop A) n j (by omega); rw [Lx.at0_drop] at e; rw [<- e]
        simp [Lx.at0, List.getD_eq_getElem?_getD, List.getElem?_eq_getElem hj])
       rw [hlen] at hcv; generalize htt : (l.drop A).take n = t at *; have Htt := hid htt; have Hlen := hid hlen
       clear hE' hn hle htt hlen; go_wp2_with fail; refine (jJ1 k A t _ (by rw [Hlen.out]; omega) Hpi.out).mono ?_; rintro e w2 ⟨rfl, hb2⟩; have hown2 := jA5 hown hb2; have hB2 := hB.trans (hb2.mono hB.size); have hlen2 : (jBL done).length = done.length * 4 := hown.1; have hBs := hB.size; have hs2 := hb2.size; obtain ⟨i0, hi, hz0, hz1, hz2⟩ := info_parts info102; have HI1 := hid hz1; have HI2 := hid hz2; have HI0 := hid hz0; have HI := hid hi
       clear hi hz0 hz1 hz2; have HL := hid hlen2; clear hlen2
       have Hown2 := hid hown2; clear hown2 hown
       generalize hiv : (Lx.jD4 A k t).int = iv; have Hiv := hid hiv; clear hiv
       go_wp2_with (at_builtin; refine wpList_append_own _ rfl (.tmp 30) (.tmp 39) 91 rfl w.heap.size 102 i0 (.agg #[.int .i64 0, .int .i64 0, .string ⟨#[]⟩, .int .i64 0]) 4 40 Tryz.underlying91 HI.out HI0.out HI1.out HI2.out rfl (by decide) _ done.length _ rfl (Hown2.out.alloc _) ⟨w2.heap.size, 0, none⟩ 1 1 [.int .i64 k, .int .i64 A, .string ⟨t.toArray⟩, .int .i64 iv] rfl rfl ?c1 ?c2 ?c3 ?c4 ?c5 ?_)
       case c1 => exact fun j u h => four_at w2 _ _ _ _ _ j u h
       case c2 => exact four_one _ _ _ _
       case c3 => unfold maxLen; omega
       case c4 => omega
       case c5 => simp; omega
       intro v' w3 hown3 hgr _; have hB3 := (hB2.alloc (by omega) (.cells #[.int .i64 k, .int .i64 A, .string ⟨t.toArray⟩, .int .i64 iv] 102)).grown hgr (by simp; omega) (fun kk hkk => (Hown2.out.lt kk hkk).1); rw [jHT done A k t iv Hiv.out] at hown3; have HB3 := hid hB3; have HO3 := hid hown3
       clear hgr hB3 hown3 hB2; go_wp2
       go_step3
       exact ⟨⟨rfl, E', v', done ++ [Lx.jD4 A k t], _, _, _, _, _, _, _, _, _, _, _, _, _, _, _, _, _, _, _, _, _, _, _, _, _, _, _, _, _, _, _, _, _, _, _, _, _, _, rfl, HB3.out, by rw [List.length_append]; exact HO3.out, by omega, by omega, by rw [List.length_append, List.length_singleton]; omega, by rw [HE'.out]; exact Hmore.out⟩, by simp [intOf]; omega⟩
 . rintro lab a w' hlab ⟨h, _⟩; exact absurd h hlab
 . intro H0; have H1 := hid H0; clear H0; by_cases hlong : 4096 < l.length
   . go_wp2; rw [Exit.jumps_ret]; go_ret3; exact ⟨_, [], 4096, 2, rfl, Below.refl _ _, World.ownsRow_nil _ _ _ _, .inl ⟨hlong, rfl, rfl, rfl⟩⟩
   . go_wp2
     go_step3
     rename_i K hK; exact hK _ _ (H1.out _ _ ⟨rfl, 0, _, [], _, _, _, _, _, _, _, _, _, _, _, _, _, _, _, _, _, _, _, _, _, _, _, _, _, _, _, _, _, _, _, _, _, _, _, _, _, _, rfl, Below.refl _ _, World.ownsRow_nil _ _ _ _, by omega, by omega, by simp, jO3 l⟩)
theorem jKT (p : Option Addr) (cap : Nat) (w : World) : Calls Tryz.prog 42 #[.slice p 0 cap] w (jN9 [] w) := by
 go_enter Tryz.func42, Tryz.ntmps42; go_wp2
 go_step3
 go_wp2
 go_step3
 go_wp2_with fail; refine (skip_none p cap _).mono ?_; rintro e w2 ⟨rfl, rfl⟩
 go_wp2; rw [Exit.noGoto_ret]; go_ret3; exact ⟨_, [], -1, 0, rfl, Below.refl _ _, World.ownsRow_nil _ _ _ _, .inr (.inr ⟨by simp, rfl, rfl, rfl⟩)⟩
def SliceAt (w : World) (v : Value) (l : List UInt8) : Prop :=
 (∃ p cap, v = .slice p 0 cap /\ l = []) \/ (∃ b off cap, v = .slice (some ⟨b, off, none⟩) l.length cap /\ l.length <= cap /\ cap <= 9223372036854775807 /\ BytesAt w b off l)
theorem jHU (v : Value) (l : List UInt8) (w : World) (h : SliceAt w v l) : Calls Tryz.prog 42 #[v] w (jN9 l w) := by
 rcases h with ⟨p, cap, rfl, rfl⟩ | ⟨b, off, cap, rfl, h1, h2, h3⟩
 . exact jKT p cap w
 . exact jKS l b off cap w h1 (by omega) h3
def byteV (c : UInt8) : Value := .int .u8 c.toNat
theorem at0_get (l : List UInt8) (j : Nat) (h : j < l.length) : (l.map byteV)[j]? = some (.int .u8 (Lx.at0 l j).toNat) := by
 rw [List.getElem?_map, List.getElem?_eq_getElem h]; simp [byteV, Lx.at0, List.getD_eq_getElem?_getD, List.getElem?_eq_getElem h]
theorem jDU {w : World} {base e size n : Nat} {v : Value} {xs : List Value} (h : w.ownsRow base e size v n xs) : ∃ p cap, v = .slice p n cap := by
 rcases h.2 with ⟨rfl, rfl⟩ | ⟨g, cap, cur, rfl, _⟩
 . exact ⟨none, 0, rfl⟩
 . exact ⟨_, cap, rfl⟩
end Go.Proofs.YtnhndamfbeiljaaGreatDoor
namespace Go.Proofs.YtnhndamfbeiljaaGreatDoor
open Go.ChangeShapes Go.WideShapes Go.ChangeAt Go.RowKit
open Go.Lib (hid)
open List renaming getElem_toArray → jPC, getElem_cons_succ → jPD, getElem_cons_zero → jPE, setIfInBounds_toArray → jPF, set_cons_zero → jPG, set_cons_succ → jPH
theorem own : ownKnob Tryz.prog.godebug = none := by kernel_rfl
theorem laidOut : laidOutB Tryz.prog = true := by kernel_rfl
def IsRow (k : IntKind) (w : World) (a : Option Addr) (len cap : Nat) (zs : List Int) : Prop :=
 (a = none /\ len = 0 /\ cap = 0 /\ zs = []) \/
 ∃ x, a = some x /\ len <= cap /\ cap <= 140737488351232 /\ zs.length = cap /\ (∀ i, i < zs.length -> w.cell? (x.add i) = some (.int k (zs.getD i 0))) /\ ∀ n ∈ zs, (Lit.int k n).wf = true
def jID : List (String × DataW Unit) := [("math/bits.deBruijn32tab", Rows.laid_math_bits_deBruijn32tab), ("math/bits.deBruijn64tab", Rows.laid_math_bits_deBruijn64tab), ("internal/strconv.uint64pow10", Rows.laid_internal_strconv_uint64pow10), ("strconv.ErrRange", Rows.laid_strconv_ErrRange), ("strconv.ErrSyntax", Rows.laid_strconv_ErrSyntax)]
noncomputable def laidWorld (os : Os) : World :=
 let w0 := World.holding Tryz.prog os ⟨#[.cells #[.string ⟨#[118, 97, 108, 117, 101, 32, 111, 117, 116, 32, 111, 102, 32, 114, 97, 110, 103, 101]⟩] 231, .cells #[.string ⟨#[105, 110, 118, 97, 108, 105, 100, 32, 115, 121, 110, 116, 97, 120]⟩] 231], #[], []⟩
 { w0 with heap := ((((w0.heap.modify 2 fun
  | .cells _ t frozen => .cells #[.iface 229 (.pointer (some ⟨(World.settled Tryz.prog os).heap.size, 0, none⟩))] t frozen
  | o => o).modify 1 fun
  | .cells _ t frozen => .cells #[.iface 229 (.pointer (some ⟨(World.settled Tryz.prog os).heap.size + 1, 0, none⟩))] t frozen
  | o => o).modify 0 fun
  | .cells _ t frozen => .cells #[.int .u64 1, .int .u64 10, .int .u64 100, .int .u64 1000, .int .u64 10000, .int .u64 100000, .int .u64 1000000, .int .u64 10000000, .int .u64 100000000, .int .u64 1000000000, .int .u64 10000000000, .int .u64 100000000000, .int .u64 1000000000000, .int .u64 10000000000000, .int .u64 100000000000000, .int .u64 1000000000000000, .int .u64 10000000000000000, .int .u64 100000000000000000, .int .u64 1000000000000000000, .int .u64 10000000000000000000] t frozen
  | o => o).modify 3 fun
  | .cells _ t frozen => .cells #[.int .u8 0, .int .u8 1, .int .u8 28, .int .u8 2, .int .u8 29, .int .u8 14, .int .u8 24, .int .u8 3, .int .u8 30, .int .u8 22, .int .u8 20, .int .u8 15, .int .u8 25, .int .u8 17, .int .u8 4, .int .u8 8, .int .u8 31, .int .u8 27, .int .u8 13, .int .u8 23, .int .u8 21, .int .u8 19, .int .u8 16, .int .u8 7, .int .u8 26, .int .u8 12, .int .u8 18, .int .u8 6, .int .u8 11, .int .u8 5, .int .u8 10, .int .u8 9] t frozen
  | o => o).modify 4 fun
  | .cells _ t frozen => .cells #[.int .u8 0, .int .u8 1, .int .u8 56, .int .u8 2, .int .u8 57, .int .u8 49, .int .u8 28, .int .u8 3, .int .u8 61, .int .u8 58, .int .u8 42, .int .u8 50, .int .u8 38, .int .u8 29, .int .u8 17, .int .u8 4, .int .u8 62, .int .u8 47, .int .u8 59, .int .u8 36, .int .u8 45, .int .u8 43, .int .u8 51, .int .u8 22, .int .u8 53, .int .u8 39, .int .u8 33, .int .u8 30, .int .u8 24, .int .u8 18, .int .u8 12, .int .u8 5, .int .u8 63, .int .u8 55, .int .u8 48, .int .u8 27, .int .u8 60, .int .u8 41, .int .u8 37, .int .u8 16, .int .u8 46, .int .u8 35, .int .u8 44, .int .u8 21, .int .u8 52, .int .u8 32, .int .u8 23, .int .u8 11, .int .u8 54, .int .u8 26, .int .u8 40, .int .u8 15, .int .u8 34, .int .u8 20, .int .u8 31, .int .u8 10, .int .u8 25, .int .u8 14, .int .u8 19, .int .u8 9, .int .u8 13, .int .u8 8, .int .u8 7, .int .u8 6] t frozen
  | o => o }
theorem jJ4 (os : Os) (args : Array Value) : laidMet Tryz.prog jID ((laidWorld os).forCall (fun _ _ => 0) ⟨#[], args, []⟩).memory :=
 laidMet_of_run' 8 (by kernel_rfl) (by kernel_rfl)
end Go.Proofs.YtnhndamfbeiljaaGreatDoor
namespace Go.Proofs.YtnhndamfbeiljaaGreatDoor
open Go Go.RowKit
open Go.Lib (hid)
open List renaming getElem_toArray → jPC, getElem_cons_succ → jPD, getElem_cons_zero → jPE, setIfInBounds_toArray → jPF, set_cons_zero → jPG, set_cons_succ → jPH
def bytesOf (zs : List Int) (len : Nat) : List UInt8 := (zs.take len).map fun z => UInt8.ofNat z.toNat
def jNU (w : World) (v : Value) (l : List UInt8) : Prop :=
 (v = .slice none 0 0 /\ l = []) \/ ∃ ad c, v = .slice (some ad) l.length c /\ ∀ j u, (l.map byteV)[j]? = some u -> w.cell? (ad.add j) = some u
theorem jNU.below {w w' : World} {v : Value} {l : List UInt8} (h : jNU w v l) (hb : Below w.heap.size w w') : jNU w' v l := by
 rcases h with h | ⟨ad, c, rfl, h⟩
 . exact .inl h
 . refine .inr ⟨ad, c, rfl, fun j u hu => ?_⟩; have := h j u hu; rw [hb.cell (World.block_lt_of_cell? w _ this)]; exact this
theorem row_src {w : World} {a : Option Addr} {len cap : Nat} {zs : List Int} (h : IsRow .u8 w a len cap zs) :
 jNU w (.slice a len cap) (bytesOf zs len) /\ SliceAt w (.slice a len cap) (bytesOf zs len) /\ (bytesOf zs len).length = len /\ len <= 140737488351232 := by
 rcases h with ⟨rfl, rfl, rfl, rfl⟩ | ⟨x, rfl, h1, h2, h3, h4, h5⟩
 . exact ⟨.inl ⟨rfl, rfl⟩, .inl ⟨none, 0, rfl, rfl⟩, rfl, by omega⟩
 . have hl : (bytesOf zs len).length = len := by simp [bytesOf]; omega
   have hz : ∀ j, j < len -> zs.getD j 0 = ((Lx.at0 (bytesOf zs len) j).toNat : Int) := by
    intro j hj; have hjz : j < zs.length := by omega
    have hb := bounds_u8 (h5 _ (List.getElem_mem hjz)); unfold Lx.at0; rw [List.getD_eq_getElem?_getD, List.getD_eq_getElem?_getD, List.getElem?_eq_getElem hjz]; simp only [bytesOf, List.getElem?_map, List.getElem?_take, if_pos hj, List.getElem?_eq_getElem hjz, Option.map_some, Option.getD_some]; rw [UInt8.toNat_ofNat']; omega
   have hsrc : ∀ j, j < len -> w.cell? (x.add j) = some (.int .u8 (Lx.at0 (bytesOf zs len) j).toNat) := by
    intro j hj; rw [h4 j (by omega), hz j hj]
   refine ⟨.inr ⟨x, cap, by rw [hl], fun j u hu => ?_⟩, ?_, hl, by omega⟩
   . have hj : j < len := by
      have := (List.getElem?_eq_some_iff.1 hu).1
      simpa [hl] using this
     rw [hsrc j hj, <- hu, at0_get _ j (by omega)]
   . by_cases h0 : len = 0
     . subst h0; exact .inl ⟨_, cap, rfl, List.eq_nil_of_length_eq_zero hl⟩
     . obtain ⟨b, off, rfl, hbo⟩ := ints_at (zs := zs) (k := .u8) (w := w) (a := x) h4 (by omega); refine .inr ⟨b, off, cap, by rw [hl], by omega, by omega, fun j hj => ?_⟩; rw [hbo j (by omega), hz j (by omega)]
theorem SliceAt.below {w w' : World} {v : Value} {l : List UInt8} (h : SliceAt w v l) (hb : Below w.heap.size w w') : SliceAt w' v l := by
 rcases h with h | ⟨b, off, cap, h1, h2, h3, h4⟩
 . exact .inl h
 . exact .inr ⟨b, off, cap, h1, h2, h3, h4.below hb⟩
end Go.Proofs.YtnhndamfbeiljaaGreatDoor
namespace Go.Proofs
open Go.Shelf
end Go.Proofs
namespace Go.Proofs.YtnhndamfbeiljaaGreatDoor
open Go Go.RowKit
open Go.Lib (hid)
open List renaming getElem_toArray → jPC, getElem_cons_succ → jPD, getElem_cons_zero → jPE, setIfInBounds_toArray → jPF, set_cons_zero → jPG, set_cons_succ → jPH
def jA7 (n : Px.Node) (lv : Value) : Value := .agg #[.int .i64 n.tok.kind, .int .i64 n.tok.pos, .string ⟨n.tok.text.toArray⟩, .int .i64 n.tok.int, lv, .int .i64 n.takes]
def jG6 (p : Nat) : Value := .iface 95 (.agg #[.int .i64 p])
def jAV (p : Nat) : Ending := .panicked [{ v := jG6 p, recovered := false }]
structure NodeAt (w : World) (g o : Nat) (n : Px.Node) (lv : Value) : Prop where
 c0 : w.cell? ⟨g, o, none⟩ = some (.int .i64 n.tok.kind)
 c1 : w.cell? ⟨g, o + 1, none⟩ = some (.int .i64 n.tok.pos)
 c2 : w.cell? ⟨g, o + 2, none⟩ = some (.string ⟨n.tok.text.toArray⟩)
 c3 : w.cell? ⟨g, o + 3, none⟩ = some (.int .i64 n.tok.int)
 c4 : w.cell? ⟨g, o + 4, none⟩ = some lv
 c5 : w.cell? ⟨g, o + 5, none⟩ = some (.int .i64 n.takes)
 small : n.takes <= 2
def jAC (w : World) : Nat -> Value -> List Px.Node -> Prop
 | 0, lv, l => l = [] /\ ∃ p c, lv = .slice p 0 c
 | k + 1, lv, l => (l = [] /\ ∃ p c, lv = .slice p 0 c) \/
    ∃ g o c, lv = .slice (some ⟨g, o, none⟩) l.length c /\ l.length <= c /\ (c : Int) <= 9223372036854775807 /\
     ∀ i n, l[i]? = some n -> ∃ kv, NodeAt w g (o + i * 6) n kv /\ jAC w k kv n.list
theorem NodeAt.below {w w' : World} {g o : Nat} {n : Px.Node} {lv : Value} (h : NodeAt w g o n lv) (hb : Below w.heap.size w w') : NodeAt w' g o n lv := by
 have e : ∀ j v, w.cell? ⟨g, j, none⟩ = some v -> w'.cell? ⟨g, j, none⟩ = some v := fun j v hj => by
  rw [hb.cell (World.block_lt_of_cell? w _ hj)]; exact hj
 exact ⟨e _ _ h.c0, e _ _ h.c1, e _ _ h.c2, e _ _ h.c3, e _ _ h.c4, e _ _ h.c5, h.small⟩
theorem jAC.below {w w' : World} (hb : Below w.heap.size w w') : ∀ {k : Nat} {lv : Value} {l : List Px.Node}, jAC w k lv l -> jAC w' k lv l := by
 intro k
 induction k with
 | zero => intro lv l h; exact h
 | succ k ih =>
   intro lv l h
   rcases h with h | ⟨g, o, c, h1, h2, h3, h4⟩
   . exact .inl h
   . refine .inr ⟨g, o, c, h1, h2, h3, fun i n hn => ?_⟩; obtain ⟨kv, a, b⟩ := h4 i n hn; exact ⟨kv, a.below hb, ih b⟩
theorem jAC.len {w : World} {k : Nat} {lv : Value} {l : List Px.Node} (h : jAC w k lv l) : ∃ p c, lv = .slice p l.length c := by
 cases k with
 | zero => obtain ⟨rfl, p, c, rfl⟩ := h; exact ⟨p, c, rfl⟩
 | succ k =>
   rcases h with ⟨rfl, p, c, rfl⟩ | ⟨g, o, c, h1, _⟩
   . exact ⟨p, c, rfl⟩
   . exact ⟨_, c, h1⟩
theorem jAC.some {w : World} {k : Nat} {lv : Value} {l : List Px.Node} (h : jAC w k lv l) (hne : l ≠ []) :
 ∃ j g o c, k = j + 1 /\ lv = .slice (some ⟨g, o, none⟩) l.length c /\ l.length <= c /\ (c : Int) <= 9223372036854775807 /\
  ∀ i n, l[i]? = some n -> ∃ kv, NodeAt w g (o + i * 6) n kv /\ jAC w j kv n.list := by
 cases k with
 | zero => exact absurd h.1 hne
 | succ k =>
   rcases h with ⟨h, _⟩ | ⟨g, o, c, h1⟩
   . exact absurd h hne
   . exact ⟨k, g, o, c, rfl, h1⟩
structure NodeBox (w : World) (g : Nat) (n : Px.Node) (lv : Value) : Prop where
 c0 : w.cell? ⟨g, 0, none⟩ = some (.int .i64 n.tok.kind)
 c1 : w.cell? ⟨g, 1, none⟩ = some (.int .i64 n.tok.pos)
 c2 : w.cell? ⟨g, 2, none⟩ = some (.string ⟨n.tok.text.toArray⟩)
 c3 : w.cell? ⟨g, 3, none⟩ = some (.int .i64 n.tok.int)
 c4 : w.cell? ⟨g, 4, none⟩ = some lv
 c5 : w.cell? ⟨g, 5, none⟩ = some (.int .i64 n.takes)
theorem jCU (w : World) (n : Px.Node) (lv : Value) (T : TypeId) : NodeBox (w.alloc (.cells #[.int .i64 n.tok.kind, .int .i64 n.tok.pos, .string ⟨n.tok.text.toArray⟩, .int .i64 n.tok.int, lv, .int .i64 n.takes] T)) w.heap.size n lv := by
 constructor <;> (rw [World.cell?_alloc_mark]; rfl)
theorem NodeBox.below {w w' : World} {g : Nat} {n : Px.Node} {lv : Value} (h : NodeBox w g n lv) (hb : Below w.heap.size w w') : NodeBox w' g n lv := by
 have e : ∀ j v, w.cell? ⟨g, j, none⟩ = some v -> w'.cell? ⟨g, j, none⟩ = some v := fun j v hj => by
  rw [hb.cell (World.block_lt_of_cell? w _ hj)]; exact hj
 exact ⟨e _ _ h.c0, e _ _ h.c1, e _ _ h.c2, e _ _ h.c3, e _ _ h.c4, e _ _ h.c5⟩
theorem jAR {w w' : World} {o : Obj} (hb : Below (w.alloc o).heap.size (w.alloc o) w') : Below w.heap.size w w' :=
 ((Below.refl _ _).alloc (Nat.le_refl _) o).trans (hb.mono (by simp))
def Told {α : Type} (B : World) (rep : World -> Value -> α -> Prop) (r : Px.R α) (e : Ending) (w' : World) : Prop :=
 Below B.heap.size B w' /\ match r with
  | .ok x => ∃ v, e = .returned v /\ rep w' v x
  | .error p => e = jAV p
theorem jAK (n : Px.Node) (lv : Value) (w : World) : Calls Tryz.prog 47 #[jA7 n lv] w fun e w' => e = .returned (.int .i64 n.pos) /\ Below w.heap.size w w' := by
 unfold jA7; go_enter Tryz.func47, Tryz.ntmps47; go_wp2; go_ret; exact ⟨rfl, (Below.refl _ _).alloc (Nat.le_refl _) _⟩
theorem jMW (n : Px.Node) (lv : Value) (w : World) : Calls Tryz.prog 86 #[jA7 n lv] w fun e w' => e = .returned (.bool (Px.jAJ n)) /\ Below w.heap.size w w' := by
 unfold jA7; go_enter Tryz.func86, Tryz.ntmps86; go_wp2; go_ret; exact ⟨rfl, (Below.refl _ _).alloc (Nat.le_refl _) _⟩
theorem jOZ (n : Px.Node) (lv : Value) (w : World) : Calls Tryz.prog 113 #[jA7 n lv] w fun e w' => e = .returned (.bool (Px.jBB n)) /\ Below w.heap.size w w' := by
 unfold jA7; go_enter Tryz.func113, Tryz.ntmps113; go_wp2; go_ret; exact ⟨rfl, (Below.refl _ _).alloc (Nat.le_refl _) _⟩
theorem jH (n : Px.Node) (lv : Value) (w : World) : Calls Tryz.prog 114 #[jA7 n lv] w fun e w' => e = .returned (.bool (Px.jAZ n)) /\ Below w.heap.size w w' := by
 unfold jA7; go_enter Tryz.func114, Tryz.ntmps114; go_wp2; go_ret; exact ⟨rfl, (Below.refl _ _).alloc (Nat.le_refl _) _⟩
theorem jGA (n : Px.Node) (lv : Value) (w : World) : Calls Tryz.prog 115 #[jA7 n lv] w fun e w' => e = .returned (.bool (Px.jAS n)) /\ Below w.heap.size w w' := by
 unfold jA7; cases h0 : (n.tok.text == [100, 97, 116, 97]) with
 | true =>
   go_enter Tryz.func115, Tryz.ntmps115; go_wp2; go_ret; exact ⟨jCJ (by simp [Px.jAS, Px.Node.text, h0]), (Below.refl _ _).alloc (Nat.le_refl _) _⟩
 | false =>
   cases h1 : (n.tok.text == [100, 101, 102]) with
   | true =>
     go_enter Tryz.func115, Tryz.ntmps115; go_wp2; go_ret; exact ⟨jCJ (by simp [Px.jAS, Px.Node.text, h0, h1]), (Below.refl _ _).alloc (Nat.le_refl _) _⟩
   | false =>
     cases h2 : (n.tok.text == [102, 110]) with
     | true =>
       go_enter Tryz.func115, Tryz.ntmps115; go_wp2; go_ret; exact ⟨jCJ (by simp [Px.jAS, Px.Node.text, h0, h1, h2]), (Below.refl _ _).alloc (Nat.le_refl _) _⟩
     | false =>
       cases h3 : (n.tok.text == [108, 101, 116]) with
       | true =>
         go_enter Tryz.func115, Tryz.ntmps115; go_wp2; go_ret; exact ⟨jCJ (by simp [Px.jAS, Px.Node.text, h0, h1, h2, h3]), (Below.refl _ _).alloc (Nat.le_refl _) _⟩
       | false =>
         cases h4 : (n.tok.text == [99, 97, 115, 101]) with
         | true =>
           go_enter Tryz.func115, Tryz.ntmps115; go_wp2; go_ret; exact ⟨jCJ (by simp [Px.jAS, Px.Node.text, h0, h1, h2, h3, h4]), (Below.refl _ _).alloc (Nat.le_refl _) _⟩
         | false =>
           by_cases h5 : n.tok.kind = 3
           . by_cases h6 : n.takes = 0
             . have h7 : ((n.takes : Int) == 0) = true := by simp [h6]
               go_enter Tryz.func115, Tryz.ntmps115; go_wp2; go_ret; exact ⟨jCJ (by simp [Px.jAS, Px.Node.text, h0, h1, h2, h3, h4, h5, h6]), (Below.refl _ _).alloc (Nat.le_refl _) _⟩
             . have h7 : ((n.takes : Int) == 0) = false := by simp; omega
               go_enter Tryz.func115, Tryz.ntmps115; go_wp2; go_ret; exact ⟨jCJ (by simp [Px.jAS, Px.Node.text, h0, h1, h2, h3, h4, h5, h6]), (Below.refl _ _).alloc (Nat.le_refl _) _⟩
           . have h7 : (n.tok.kind == 3) = false := by simp [h5]
             go_enter Tryz.func115, Tryz.ntmps115; go_wp2; go_ret; exact ⟨jCJ (by simp [Px.jAS, Px.Node.text, h0, h1, h2, h3, h4, h5]), (Below.refl _ _).alloc (Nat.le_refl _) _⟩
theorem jFV (n : Px.Node) (lv : Value) (w : World) : Calls Tryz.prog 88 #[jA7 n lv] w (Told w (fun _ v s => v = .string ⟨s.toArray⟩) (Px.jAT n)) := by
 cases h : Px.jAZ n with
 | true =>
   go_enter Tryz.func88, Tryz.ntmps88; unfold jA7; go_wp2_with fail; refine (jH n lv _).mono ?_; rw [h]; rintro e w1 ⟨rfl, hb⟩; obtain ⟨c0, c1, c2, c3, c4, c5⟩ := (jCU w n lv _).below hb; have HB := hid (jAR hb); clear hb
   go_wp2; go_ret; exact ⟨HB.out, by rw [Px.jAT, if_pos h]; exact ⟨_, rfl, rfl⟩⟩
 | false =>
   go_enter Tryz.func88, Tryz.ntmps88; unfold jA7; go_wp2_with fail; refine (jH n lv _).mono ?_; rw [h]; rintro e w1 ⟨rfl, hb⟩; obtain ⟨c0, c1, c2, c3, c4, c5⟩ := (jCU w n lv _).below hb; have HB := hid (jAR hb); clear hb
   go_wp2_with fail; refine (jAK n lv _).mono ?_; rintro e w2 ⟨rfl, hb⟩; have HB2 := bT HB hb; clear hb
   go_wp2; refine ⟨rfl, HB2.out, ?_⟩; rw [Px.jAT, if_neg (by simp [h])]; rfl
theorem jI7 (n : Px.Node) (lv : Value) (w : World) : Calls Tryz.prog 92 #[jA7 n lv] w (Told w (fun _ v s => v = .string ⟨s.toArray⟩) (Px.name n)) := by
 cases h : Px.jAS n with
 | true =>
   go_enter Tryz.func92, Tryz.ntmps92; unfold jA7; go_wp2_with fail; refine (jGA n lv _).mono ?_; rw [h]; rintro e w1 ⟨rfl, hb⟩; obtain ⟨c0, c1, c2, c3, c4, c5⟩ := (jCU w n lv _).below hb; have HB := hid (jAR hb); clear hb
   go_wp2; go_ret; exact ⟨HB.out, by rw [Px.name, if_pos h]; exact ⟨_, rfl, rfl⟩⟩
 | false =>
   go_enter Tryz.func92, Tryz.ntmps92; unfold jA7; go_wp2_with fail; refine (jGA n lv _).mono ?_; rw [h]; rintro e w1 ⟨rfl, hb⟩; obtain ⟨c0, c1, c2, c3, c4, c5⟩ := (jCU w n lv _).below hb; have HB := hid (jAR hb); clear hb
   go_wp2_with fail; refine (jAK n lv _).mono ?_; rintro e w2 ⟨rfl, hb⟩; have HB2 := bT HB hb; clear hb
   go_wp2; refine ⟨rfl, HB2.out, ?_⟩; rw [Px.name, if_neg (by simp [h])]; rfl
theorem jLR (k : Nat) (n : Px.Node) (lv : Value) (a b : Nat) (w : World) (hk : jAC w k lv n.list) (_ha : a <= 1000) (_hb : b <= 1000) :
 Calls Tryz.prog 124 #[jA7 n lv, .int .i64 a, .int .i64 b] w (Told w (fun _ v _ => v = .tuple #[]) (Px.hold n a b)) := by
 by_cases h1 : n.list.length < a
 . obtain ⟨p, c, rfl⟩ := hk.len; go_enter Tryz.func124, Tryz.ntmps124; unfold jA7; go_wp2_with fail; refine (jAK n _ _).mono ?_; rintro e w2 ⟨rfl, hb⟩; have HB2 := hid (jAR hb); clear hb
   go_wp2; refine ⟨rfl, HB2.out, ?_⟩; rw [Px.hold, if_pos h1]; rfl
 . by_cases h2 : b < n.list.length
   . obtain ⟨j, g, o, c, rfl, rfl, h3, h4, h5⟩ := hk.some (by intro e; rw [e] at h2; simp at h2); obtain ⟨kv, hn, _⟩ := h5 b _ (List.getElem?_eq_getElem h2); obtain ⟨c0, c1, c2, c3, c4, c5⟩ := hn.below (Below.alloc (Below.refl w.heap.size w) (Nat.le_refl _) (.cells #[.int .i64 n.tok.kind, .int .i64 n.tok.pos, .string ⟨n.tok.text.toArray⟩, .int .i64 n.tok.int, .slice (some ⟨g, o, none⟩) n.list.length c, .int .i64 n.takes] 105)); generalize hm : n.list[b] = m at *; have Hm := hid hm; clear hm h5
     go_enter Tryz.func124, Tryz.ntmps124; unfold jA7; go_wp2_with fail; refine (jAK m _ _).mono ?_; rintro e w2 ⟨rfl, hb⟩; have HB2 := hid (jAR hb); clear hb
     go_wp2; refine ⟨rfl, HB2.out, ?_⟩; rw [Px.hold, if_neg h1, List.getElem?_eq_getElem h2, Hm.out]; rfl
   . obtain ⟨p, c, rfl⟩ := hk.len; go_enter Tryz.func124, Tryz.ntmps124; unfold jA7; go_wp2_with fail
     go_end0
     refine ⟨(Below.refl _ _).alloc (Nat.le_refl _) _, ?_⟩; rw [Px.hold, if_neg h1, List.getElem?_eq_none (by omega)]; exact ⟨_, rfl, rfl⟩
theorem jB2 (n : Px.Node) (lv : Value) (w : World) (b : Bool) (h : Px.jAJ n = b) : Calls Tryz.prog 86 #[jA7 n lv] w fun e w' => e = .returned (.bool b) /\ Below w.heap.size w w' := h ▸ jMW n lv w
theorem jBU (n : Px.Node) (lv : Value) (w : World) (b : Bool) (h : Px.jAZ n = b) : Calls Tryz.prog 114 #[jA7 n lv] w fun e w' => e = .returned (.bool b) /\ Below w.heap.size w w' := h ▸ jH n lv w
theorem jDM (n : Px.Node) (lv : Value) (w : World) (b : Bool) (h : Px.jBB n = b) : Calls Tryz.prog 113 #[jA7 n lv] w fun e w' => e = .returned (.bool b) /\ Below w.heap.size w w' := h ▸ jOZ n lv w
theorem jCA (n : Px.Node) (lv : Value) (w : World) (b : Bool) (h : Px.jAS n = b) : Calls Tryz.prog 115 #[jA7 n lv] w fun e w' => e = .returned (.bool b) /\ Below w.heap.size w w' := h ▸ jGA n lv w
theorem jNO (k : Nat) (n : Px.Node) (lv : Value) (a b : Nat) (w : World) (hk : jAC w k lv n.list) (ha : a <= 1000) (hb : b <= 1000) (h : Px.hold n a b = .ok ()) :
 Calls Tryz.prog 124 #[jA7 n lv, .int .i64 a, .int .i64 b] w fun e w' => e = .returned (.tuple #[]) /\ Below w.heap.size w w' :=
 (jLR k n lv a b w hk ha hb).mono fun e w' ⟨h1, h2⟩ => by rw [h] at h2; obtain ⟨v, h2, rfl⟩ := h2; exact ⟨h2, h1⟩
theorem jLQ (k : Nat) (n : Px.Node) (lv : Value) (a b : Nat) (w : World) (hk : jAC w k lv n.list) (ha : a <= 1000) (hb : b <= 1000) (p : Nat) (h : Px.hold n a b = .error p) :
 Calls Tryz.prog 124 #[jA7 n lv, .int .i64 a, .int .i64 b] w fun e w' => e = jAV p /\ Below w.heap.size w w' :=
 (jLR k n lv a b w hk ha hb).mono fun e w' ⟨h1, h2⟩ => by rw [h] at h2; exact ⟨h2, h1⟩
theorem jJC (k : Nat) (n : Px.Node) (lv : Value) (a b : Nat) (w : World) (hk : jAC w k lv n.list) (ha : a <= 1000) (hb : b <= 1000) :
 Calls Tryz.prog 87 #[jA7 n lv, .int .i64 a, .int .i64 b] w (Told w (fun _ v l => v = lv /\ l = n.list) (Px.nodes n a b)) := by
 cases h : Px.jAJ n with
 | false =>
   go_enter Tryz.func87, Tryz.ntmps87; unfold jA7; go_wp2_with fail; refine (jB2 n _ _ _ h).mono ?_; rintro e w1 ⟨rfl, hb⟩; obtain ⟨c0, c1, c2, c3, c4, c5⟩ := (jCU w n _ _).below hb; have HB := hid (jAR hb); clear hb
   go_wp2_with fail; refine (jAK n _ _).mono ?_; rintro e w2 ⟨rfl, hb⟩; have HB2 := bT HB hb; clear hb
   go_wp2; refine ⟨rfl, HB2.out, ?_⟩; rw [Px.nodes, if_neg (by simp [h])]; rfl
 | true =>
   go_enter Tryz.func87, Tryz.ntmps87; unfold jA7; go_wp2_with fail; refine (jB2 n _ _ _ h).mono ?_; rintro e w1 ⟨rfl, hb⟩; have nb := (jCU w n _ _).below hb; obtain ⟨c0, c1, c2, c3, c4, c5⟩ := nb; have HB := hid (jAR hb); have HK := hid (hk.below HB.out); have NB := hid ((jCU w n _ _).below hb); clear hb hk; cases h2 : Px.hold n a b with
   | error p =>
     go_wp2_with fail; refine (jLQ k n lv a b _ HK.out ha hb p h2).mono ?_; rintro e w2 ⟨rfl, hb⟩; refine ⟨rfl, HB.out.trans (hb.mono HB.out.size), ?_⟩; rw [Px.nodes, if_pos h, h2]; rfl
   | ok u =>
     go_wp2_with fail; refine (jNO k n lv a b _ HK.out ha hb h2).mono ?_; rintro e w2 ⟨rfl, hb⟩; obtain ⟨d0, d1, d2, d3, d4, d5⟩ := NB.out.below hb; have HB2 := bT HB hb; clear hb
     go_wp2; go_ret; exact ⟨HB2.out, by rw [Px.nodes, if_pos h, h2]; exact ⟨_, rfl, rfl, rfl⟩⟩
theorem nodes_ok (k : Nat) (n : Px.Node) (lv : Value) (a b : Nat) (w : World) (hk : jAC w k lv n.list) (ha : a <= 1000) (hb : b <= 1000) (l : List Px.Node) (h : Px.nodes n a b = .ok l) :
 Calls Tryz.prog 87 #[jA7 n lv, .int .i64 a, .int .i64 b] w fun e w' => e = .returned lv /\ Below w.heap.size w w' :=
 (jJC k n lv a b w hk ha hb).mono fun e w' ⟨h1, h2⟩ => by rw [h] at h2; obtain ⟨v, h2, rfl, _⟩ := h2; exact ⟨h2, h1⟩
theorem jOQ (k : Nat) (n : Px.Node) (lv : Value) (a b : Nat) (w : World) (hk : jAC w k lv n.list) (ha : a <= 1000) (hb : b <= 1000) (p : Nat) (h : Px.nodes n a b = .error p) :
 Calls Tryz.prog 87 #[jA7 n lv, .int .i64 a, .int .i64 b] w fun e w' => e = jAV p /\ Below w.heap.size w w' :=
 (jJC k n lv a b w hk ha hb).mono fun e w' ⟨h1, h2⟩ => by rw [h] at h2; exact ⟨h2, h1⟩
theorem jA8 {n : Px.Node} {a b : Nat} {l : List Px.Node} (h : Px.nodes n a b = .ok l) : l = n.list /\ a <= l.length /\ l.length <= b /\ Px.jAJ n = true := by
 unfold Px.nodes Px.hold at h; by_cases h1 : Px.jAJ n = true
 . rw [if_pos h1] at h; by_cases h2 : n.list.length < a
   . rw [if_pos h2] at h; cases h
   . rw [if_neg h2] at h; cases h3 : n.list[b]? with
     | some m => rw [h3] at h; cases h
     | none =>
       rw [h3] at h; obtain rfl : n.list = l := by simpa using h
       exact ⟨rfl, by omega, by simpa using h3, h1⟩
 . rw [if_neg h1] at h; cases h
theorem jGD (n : Px.Node) (lv : Value) (w : World) (s : List UInt8) (h : Px.jAT n = .ok s) : Calls Tryz.prog 88 #[jA7 n lv] w fun e w' => e = .returned (.string ⟨s.toArray⟩) /\ Below w.heap.size w w' :=
 (jFV n lv w).mono fun e w' ⟨h1, h2⟩ => by rw [h] at h2; obtain ⟨v, h2, rfl⟩ := h2; exact ⟨h2, h1⟩
theorem jFU (n : Px.Node) (lv : Value) (w : World) (p : Nat) (h : Px.jAT n = .error p) : Calls Tryz.prog 88 #[jA7 n lv] w fun e w' => e = jAV p /\ Below w.heap.size w w' :=
 (jFV n lv w).mono fun e w' ⟨h1, h2⟩ => by rw [h] at h2; exact ⟨h2, h1⟩
theorem jKA (n : Px.Node) (lv : Value) (w : World) (s : List UInt8) (h : Px.name n = .ok s) : Calls Tryz.prog 92 #[jA7 n lv] w fun e w' => e = .returned (.string ⟨s.toArray⟩) /\ Below w.heap.size w w' :=
 (jI7 n lv w).mono fun e w' ⟨h1, h2⟩ => by rw [h] at h2; obtain ⟨v, h2, rfl⟩ := h2; exact ⟨h2, h1⟩
theorem name_bad (n : Px.Node) (lv : Value) (w : World) (p : Nat) (h : Px.name n = .error p) : Calls Tryz.prog 92 #[jA7 n lv] w fun e w' => e = jAV p /\ Below w.heap.size w w' :=
 (jI7 n lv w).mono fun e w' ⟨h1, h2⟩ => by rw [h] at h2; exact ⟨h2, h1⟩
namespace Px
theorem each_append {α : Type} (f : Node -> R α) (a b : List Node) : each f (a ++ b) = match each f a with | .error p => .error p | .ok xs => match each f b with | .error p => .error p | .ok ys => .ok (xs ++ ys) := by
 induction a with
 | nil => simp only [List.nil_append, each]; cases each f b <;> rfl
 | cons n r ih =>
   simp only [List.cons_append, each, ih]; cases f n with
   | error p => rfl
   | ok x =>
     cases each f r with
     | error p => rfl
     | ok xs => cases each f b <;> rfl
theorem jC4 {α : Type} {f : Node -> R α} {l : List Node} {k : Nat} {n : Node} {xs : List α} (hn : l[k]? = some n) (h : each f (l.take k) = .ok xs) :
 (∀ x, f n = .ok x -> each f (l.take (k + 1)) = .ok (xs ++ [x])) /\ (∀ p, f n = .error p -> each f l = .error p) := by
 obtain ⟨hk, rfl⟩ := List.getElem?_eq_some_iff.1 hn; refine ⟨fun x hx => ?_, fun p hp => ?_⟩
 . rw [List.take_succ_eq_append_getElem hk, each_append, h]; simp only [each, hx]
 . rw [<- List.take_append_drop k l, each_append, h, List.drop_eq_getElem_cons hk]; simp only [each, hp]
theorem jCY {α : Type} {f : Node -> R α} : ∀ {l : List Node} {xs : List α}, each f l = .ok xs -> xs.length = l.length := by
 intro l
 induction l with
 | nil => intro xs h; simp only [each, Except.ok.injEq] at h; subst h; rfl
 | cons n r ih =>
   intro xs h; simp only [each] at h; cases hf : f n with
   | error p => rw [hf] at h; cases h
   | ok x =>
     rw [hf] at h; cases hr : each f r with
     | error p => rw [hr] at h; cases h
     | ok ys => rw [hr] at h; simp only [Except.ok.injEq] at h; subst h; simp [ih hr]
end Px
def Reps {α : Type} (rep : Value -> α -> Prop) : List Value -> List α -> Prop
 | [], [] => True
 | v :: vs, x :: xs => rep v x /\ Reps rep vs xs
 | _, _ => False
theorem Reps.len {α : Type} {rep : Value -> α -> Prop} : ∀ {vs : List Value} {xs : List α}, Reps rep vs xs -> vs.length = xs.length
 | [], [], _ => rfl
 | _ :: _, _ :: _, h => by simp [Reps.len h.2]
 | [], _ :: _, h => h.elim
 | _ :: _, [], h => h.elim
theorem Reps.snoc {α : Type} {rep : Value -> α -> Prop} {v : Value} {x : α} (hx : rep v x) : ∀ {vs : List Value} {xs : List α}, Reps rep vs xs -> Reps rep (vs ++ [v]) (xs ++ [x])
 | [], [], _ => ⟨hx, trivial⟩
 | _ :: _, _ :: _, h => ⟨h.1, Reps.snoc hx h.2⟩
 | [], _ :: _, h => h.elim
 | _ :: _, [], h => h.elim
theorem Reps.mono {α : Type} {rep rep' : Value -> α -> Prop} (hr : ∀ v x, rep v x -> rep' v x) : ∀ {vs : List Value} {xs : List α}, Reps rep vs xs -> Reps rep' vs xs
 | [], [], _ => trivial
 | _ :: vs, _ :: xs, h => ⟨hr _ _ h.1, Reps.mono hr h.2⟩
 | [], _ :: _, h => h.elim
 | _ :: _, [], h => h.elim
theorem Reps.at {α : Type} {rep : Value -> α -> Prop} : ∀ {vs : List Value} {xs : List α} {i : Nat} {x : α}, Reps rep vs xs -> xs[i]? = some x -> ∃ v, vs[i]? = some v /\ rep v x
 | [], [], _, _, _, h => by simp at h
 | v :: _, _ :: _, 0, _, h, hx => by simp at hx; subst hx; exact ⟨v, rfl, h.1⟩
 | _ :: _, _ :: _, _ + 1, _, h, hx => by simp at hx; simpa using Reps.at h.2 hx
 | [], _ :: _, _, _, h, _ => h.elim
 | _ :: _, [], _, _, h, _ => h.elim
def cellsOf (vs : List Value) : List Value := vs.flatMap fun v => v.cells.toList
theorem jH6 (sz : Nat) : ∀ {vs : List Value}, (∀ v ∈ vs, v.cells.size = sz) -> (cellsOf vs).length = vs.length * sz
 | [], _ => by simp [cellsOf]
 | v :: vs, h => by
   have e : cellsOf (v :: vs) = v.cells.toList ++ cellsOf vs := by simp [cellsOf]
   rw [e, List.length_append, Array.length_toList, h v (by simp), jH6 sz (fun u hu => h u (by simp [hu])), List.length_cons, Nat.add_mul]; omega
theorem jF9 (sz : Nat) : ∀ {vs : List Value} {i j : Nat} {v c : Value}, (∀ v ∈ vs, v.cells.size = sz) -> vs[i]? = some v -> v.cells[j]? = some c -> (cellsOf vs)[i * sz + j]? = some c
 | [], _, _, _, _, _, h, _ => by simp at h
 | u :: vs, 0, j, v, c, hs, h, hc => by
   simp at h; subst h
   have e : cellsOf (u :: vs) = u.cells.toList ++ cellsOf vs := by simp [cellsOf]
   have hj : j < u.cells.size := (Array.getElem?_eq_some_iff.1 hc).1; rw [e, Nat.zero_mul, Nat.zero_add, List.getElem?_append_left (by simpa using hj)]; simpa using hc
 | u :: vs, i + 1, j, v, c, hs, h, hc => by
   simp at h; have e : cellsOf (u :: vs) = u.cells.toList ++ cellsOf vs := by simp [cellsOf]
   have hu := hs u (by simp); rw [e, List.getElem?_append_right (by rw [Array.length_toList, hu, Nat.add_mul]; omega), Array.length_toList, hu]; have := jF9 sz (fun x hx => hs x (by simp [hx])) h hc; rw [<- this]; congr 1; rw [Nat.add_mul]; omega
def jAI {α : Type} (sz : Nat) (rep : Value -> α -> Prop) (w : World) (v : Value) (xs : List α) : Prop :=
 (xs = [] /\ ∃ p c, v = .slice p 0 c) \/
   ∃ g o c, v = .slice (some ⟨g, o, none⟩) xs.length c /\ xs.length <= c /\ (c : Int) <= 9223372036854775807 /\
    ∀ i x, xs[i]? = some x -> ∃ u, rep u x /\ u.cells.size = sz /\ ∀ j z, u.cells[j]? = some z -> w.cell? ⟨g, o + i * sz + j, none⟩ = some z
theorem jAI.len {α : Type} {sz : Nat} {rep : Value -> α -> Prop} {w : World} {v : Value} {xs : List α} (h : jAI sz rep w v xs) : ∃ p c, v = .slice p xs.length c := by
 rcases h with ⟨rfl, p, c, rfl⟩ | ⟨g, o, c, h, _⟩
 . exact ⟨p, c, rfl⟩
 . exact ⟨_, c, h⟩
theorem jAI.mono {α : Type} {sz : Nat} {rep rep' : Value -> α -> Prop} {w w' : World} {v : Value} {xs : List α} (h : jAI sz rep w v xs) (hb : Below w.heap.size w w') (hr : ∀ u x, x ∈ xs -> rep u x -> rep' u x) : jAI sz rep' w' v xs := by
 rcases h with h | ⟨g, o, c, h1, h2, h3, h4⟩
 . exact .inl h
 . refine .inr ⟨g, o, c, h1, h2, h3, fun i x hx => ?_⟩; obtain ⟨u, a, b, d⟩ := h4 i x hx; refine ⟨u, hr u x (List.mem_of_getElem? hx) a, b, fun j z hz => ?_⟩; have := d j z hz; rw [hb.cell (World.block_lt_of_cell? w _ this)]; exact this
def New {α : Type} (rep : World -> Value -> α -> Prop) (w w' : World) (v : Value) (x : α) : Prop :=
 ∀ u : World, (∀ b, w.heap.size <= b -> b < w'.heap.size -> u.heap[b]? = w'.heap[b]?) -> rep u v x
theorem New.now {α : Type} {rep : World -> Value -> α -> Prop} {w w' : World} {v : Value} {x : α} (h : New rep w w' v x) : rep w' v x := h w' fun _ _ _ => rfl
def Kept {α : Type} (rep : World -> Value -> α -> Prop) (base : Nat) (w : World) (ob : Option Nat) (v : Value) (x : α) : Prop :=
 ∃ lo hi, base <= lo /\ hi <= w.heap.size /\ (∀ g, ob = some g -> g < lo \/ hi <= g) /\ ∀ u : World, (∀ b, lo <= b -> b < hi -> u.heap[b]? = w.heap[b]?) -> rep u v x
theorem Kept.since {α : Type} {rep : World -> Value -> α -> Prop} {base : Nat} {w w' : World} {ob ob' : Option Nat} {v : Value} {x : α} (h : Kept rep base w ob v x) (hs : w.heap.size <= w'.heap.size)
 (hk : ∀ b, base <= b -> b < w.heap.size -> ob ≠ some b -> w'.heap[b]? = w.heap[b]?) (ho : ob' = ob \/ ∀ g, ob' = some g -> w.heap.size <= g) : Kept rep base w' ob' v x := by
 obtain ⟨lo, hi, h0, h1, h2, h3⟩ := h; refine ⟨lo, hi, h0, by omega, fun g hg => ?_, fun u hu => h3 u fun b hb1 hb2 => ?_⟩
 . rcases ho with rfl | ho
   . exact h2 g hg
   . have := ho g hg; omega
 . rw [hu b hb1 hb2]; exact hk b (by omega) (by omega) (fun e => by have := h2 b e; omega)
theorem Kept.step {α : Type} {rep : World -> Value -> α -> Prop} {base : Nat} {w w' : World} {ob ob' : Option Nat} {v : Value} {x : α} (h : Kept rep base w ob v x) (hs : w.heap.size <= w'.heap.size)
 (hk : ∀ b, b < w.heap.size -> ob ≠ some b -> w'.heap[b]? = w.heap[b]?) (ho : ob' = ob \/ ∀ g, ob' = some g -> w.heap.size <= g) : Kept rep base w' ob' v x :=
 h.since hs (fun b _ => hk b) ho
theorem Kept.below {α : Type} {rep : World -> Value -> α -> Prop} {base : Nat} {w w' : World} {ob : Option Nat} {v : Value} {x : α} (h : Kept rep base w ob v x) (hb : Below w.heap.size w w') : Kept rep base w' ob v x :=
 h.step hb.size (fun b hb1 _ => hb.block b hb1) (.inl rfl)
theorem New.kept {α : Type} {rep : World -> Value -> α -> Prop} {base : Nat} {w w' : World} {ob : Option Nat} {v : Value} {x : α} (h : New rep w w' v x) (hb : base <= w.heap.size) (ho : ∀ g, ob = some g -> g < w.heap.size) : Kept rep base w' ob v x :=
 ⟨w.heap.size, w'.heap.size, hb, Nat.le_refl _, fun g hg => .inl (ho g hg), h⟩
theorem New.row {α : Type} {sz : Nat} {rep : World -> Value -> α -> Prop} {w0 w : World} {E n : Nat} {v : Value} {vs : List Value} {xs : List α} (h : w.ownsRow w0.heap.size E sz v n (cellsOf vs)) (hn : n = xs.length)
 (hr : Reps (Kept rep w0.heap.size w v.ownBlock) vs xs) (hs : ∀ v ∈ vs, v.cells.size = sz) : New (fun u => jAI sz (rep u) u) w0 w v xs := by
 intro u hu; subst hn
 rcases h.2 with ⟨rfl, hn⟩ | ⟨g, cap, cur, rfl, hb, hg, hc1, hc2, hc3, hc4⟩
 . exact .inl ⟨List.eq_nil_of_length_eq_zero hn, none, 0, rfl⟩
 . refine .inr ⟨g, 0, cap, rfl, hc1, by unfold maxLen at hc2; omega, fun i x hx => ?_⟩; obtain ⟨y, hy, lo, hi, h0, h1, _, h3⟩ := hr.at hx; refine ⟨y, h3 u fun b hb1 hb2 => hu b (by omega) (by omega), hs y (List.mem_of_getElem? hy), fun j z hz => ?_⟩; have hcell := World.ownsRow.cells h (g := g) rfl (i * sz + j) z (jF9 sz hs hy hz); have e : (⟨g, 0, none⟩ : Addr).add (i * sz + j) = ⟨g, 0 + i * sz + j, none⟩ := by unfold Addr.add; split <;> simp_all
   rw [e] at hcell; have hlt : g < w.heap.size := (Array.getElem?_eq_some_iff.1 hg).1; rw [World.cell?_of_block (w := w) (hu g hb hlt)]; exact hcell
def jB3 {α : Type} (w : World) (rep : World -> Value -> α -> Prop) (r : Px.R α) : Ending -> World -> Prop := Told w (New rep w) r
theorem jDJ (w : World) (base : Nat) (t ty e : TypeId) (i : TypeInfo) (z : Value) (size bytes : Nat) (ht : Tryz.prog.underlying t = some (.slice e)) (hi : Tryz.prog.info? e = some i) (hz : i.zero = some z)
 (hsize : i.size = size) (hby : i.bytes = bytes) (hzs : z.cells.size = size) (hsz : 0 < size)
 (v : Value) (n : Nat) (xs : List Value) (hown : w.ownsRow base e size v n xs)
 (a : Addr) (m c : Nat) (hm : 0 < m) (news : List Value) (hl : news.length = m * size) (hnews : ∀ j u, news[j]? = some u -> w.cell? (a.add j) = some u) (h1 : ∀ u ∈ news, u.oneCell' = true)
 (h63 : n + m <= maxLen) (hbytes : (n + m) * bytes <= 140737488355328) (hbase : base <= w.heap.size) :
 ∃ v' w', (Builtin.append_ #[t, t] ty #[v, .slice (some a) m c]).run Tryz.prog w = .ok v' w' /\ w'.ownsRow base e size v' (n + m) (xs ++ news) /\ w.grownBy w' v.ownBlock /\
  (v'.ownBlock = v.ownBlock \/ ∀ g, v'.ownBlock = some g -> w.heap.size <= g) := by
 obtain ⟨v', w', hr, h2, h3, _⟩ := run_append_own (P := Tryz.prog) w base t ty e i z size bytes ht hi hz hsize hby hzs hsz v n xs hown a m c news hl hnews h1 h63 hbytes hbase; refine ⟨v', w', hr, h2, h3, ?_⟩; subst hsize
 subst hby
 have hsmall : n + m <= 9223372036854775807 := by simp only [maxLen] at h63; omega
 rcases hown.2 with ⟨rfl, rfl⟩ | ⟨g, cap, cur, rfl, hbg, hg, hnc, hcm, hcs, htake⟩
 . have hr' := run_append_nil (P := Tryz.prog) w t ty e i z ht hi hz a m c news hl hnews (by omega) (by omega) (by have hb := hbytes; simp only [Nat.zero_add] at hb; omega); rw [hr] at hr'
   injection hr' with hv _
   subst hv; exact .inr fun g hg => by simp only [Value.ownBlock, Option.some.injEq] at hg; omega
 . by_cases hroom : n + m <= cap
   . have hfit : n * i.size + news.length <= cur.size := by rw [hl, hcs, <- Nat.add_mul]; exact Nat.mul_le_mul_right _ hroom
     have hr' := run_append_room (P := Tryz.prog) w t ty e i ht hi g n cap cur hg a m c news hl hnews h1 hroom hfit; rw [hr] at hr'
     injection hr' with hv _
     subst hv; exact .inl rfl
   . have holds : ∀ j u, xs[j]? = some u -> w.cell? ((⟨g, 0, none⟩ : Addr).add j) = some u := hown.cells (g := g) rfl
     have hr' := run_append_grow (P := Tryz.prog) w t ty e i z ht hi hz ⟨g, 0, none⟩ n cap xs hown.1 holds a m c news hl hnews (by omega) (by omega) (growslice_fits (by omega) hbytes); rw [hr] at hr'
     injection hr' with hv _
     subst hv; exact .inr fun g hg => by simp only [Value.ownBlock, Option.some.injEq] at hg; omega
theorem jAM (w : World) {ops : Array Oper} {rest : List Oper} {o : Oper} {a : Act} {Q : Exit -> Act -> World -> Prop} (hgd : o.guard = none) (s x : Operand) (t : TypeId)
 (ho : o.op = .call { callee := .builtin .append, args := #[s, x], argTypes := #[t, t] })
 (base : Nat) (e : TypeId) (i : TypeInfo) (z : Value) (size bytes : Nat) (ht : Tryz.prog.underlying t = some (.slice e)) (hi : Tryz.prog.info? e = some i) (hz : i.zero = some z)
 (hsize : i.size = size) (hby : i.bytes = bytes) (hzs : z.cells.size = size) (hsz : 0 < size)
 (v : Value) (n : Nat) (xs : List Value) (hs : a.eval s = v) (hown : w.ownsRow base e size v n xs)
 (ad : Addr) (m c : Nat) (news : List Value) (hx : a.eval x = .slice (some ad) m c) (hm : 0 < m) (hl : news.length = m * size) (hnews : ∀ j u, news[j]? = some u -> w.cell? (ad.add j) = some u) (h1 : ∀ u ∈ news, u.oneCell' = true)
 (h63 : n + m <= maxLen) (hbytes : (n + m) * bytes <= 140737488355328) (hbase : base <= w.heap.size)
 (h : ∀ v' w', w'.ownsRow base e size v' (n + m) (xs ++ news) -> w.grownBy w' v.ownBlock -> (v'.ownBlock = v.ownBlock \/ ∀ g, v'.ownBlock = some g -> w.heap.size <= g) -> wpList Tryz.prog ops Q rest (a.put o.dst v') w') : wpList Tryz.prog ops Q (o :: rest) a w := by
 refine wpList_plain hgd fun K hK => ?_
 obtain ⟨v', w', hr, h2, h3, h4⟩ := jDJ w base t o.type e i z size bytes ht hi hz hsize hby hzs hsz v n xs hown ad m c hm news hl hnews h1 h63 hbytes hbase; unfold Oper.wp execOp; simp only [ho, resolve, invoke, builtin, Sem.run_bind, Sem.run_pure, Result.andThen_ok, List.map_toArray, List.map_cons, List.map_nil, hs, hx, hr]; exact hK _ _ (h v' w' h2 h3 h4)
def jBJ : Array MapEntry := #[⟨.string ⟨#[43]⟩, .int .i64 2, 0⟩, ⟨.string ⟨#[45]⟩, .int .i64 2, 1⟩, ⟨.string ⟨#[42]⟩, .int .i64 2, 2⟩, ⟨.string ⟨#[47]⟩, .int .i64 2, 3⟩, ⟨.string ⟨#[37]⟩, .int .i64 2, 4⟩, ⟨.string ⟨#[61]⟩, .int .i64 2, 5⟩, ⟨.string ⟨#[60]⟩, .int .i64 2, 6⟩, ⟨.string ⟨#[99, 112, 120]⟩, .int .i64 2, 7⟩, ⟨.string ⟨#[114, 101]⟩, .int .i64 1, 8⟩, ⟨.string ⟨#[105, 109]⟩, .int .i64 1, 9⟩, ⟨.string ⟨#[99, 97, 100, 100]⟩, .int .i64 2, 10⟩, ⟨.string ⟨#[99, 109, 117, 108]⟩, .int .i64 2, 11⟩]
theorem push_set (h : Array Obj) (o o' : Obj) : (h.push o).setIfInBounds h.size o' = h.push o' := by
 apply Array.ext_getElem?
 intro i; rw [Array.getElem?_setIfInBounds, Array.getElem?_push, Array.getElem?_push]; by_cases hi : h.size = i
 . subst hi; simp
 . rw [if_neg hi, if_neg (fun e => hi e.symm), if_neg (fun e => hi e.symm)]
theorem jPB (w : World) (o o' : Obj) : { w.alloc o with heap := (w.alloc o).heap.setIfInBounds w.heap.size o' } = w.alloc o' := by
 show ({ w with heap := (w.heap.push o).setIfInBounds w.heap.size o' } : World) = { w with heap := w.heap.push o' }; rw [push_set]
theorem jD6 (w : World) (es : Array MapEntry) (k : ByteArray) (v : Value) (hf : Instr.findNow .string (.string k) es.toList 0 = some none) :
 (Instr.mapUpdate 97 (.map (some w.heap.size)) (.string k) v).run Tryz.prog (w.alloc (.map es es.size)) = .ok () (w.alloc (.map (es.push ⟨.string k, v, es.size⟩) (es.size + 1))) := by
 have hb : (w.alloc (.map es es.size)).heap[w.heap.size]? = some (.map es es.size) := heap_alloc_new w _; have hck := MapKept.run_checkKey (P := Tryz.prog) (w := w.alloc (.map es es.size)) (kt := 9) (d := .string) (k := .string k) Tryz.underlying9 (by simp [MapKept.IsKey]) false 9999; simp [Instr.mapUpdate, run_underlying Tryz.underlying97, MapKept.run_getObj_map hb, hck, MapKept.run_findKey Tryz.underlying9 hf, MapKept.run_setObj_map _ hb, Result.andThen]; exact jPB w _ _
theorem jJB (w : World) : Calls Tryz.prog 44 #[] w fun e w' => e = .returned (.map (some w.heap.size)) /\ w' = w.alloc (.map jBJ 12) := by
 have hmm := @run_makeMap Tryz.prog; have h0 := jD6 w #[] ⟨#[43]⟩ (.int .i64 2) rfl; have h1 := jD6 w #[⟨.string ⟨#[43]⟩, .int .i64 2, 0⟩] ⟨#[45]⟩ (.int .i64 2) rfl; have h2 := jD6 w #[⟨.string ⟨#[43]⟩, .int .i64 2, 0⟩, ⟨.string ⟨#[45]⟩, .int .i64 2, 1⟩] ⟨#[42]⟩ (.int .i64 2) rfl; have h3 := jD6 w #[⟨.string ⟨#[43]⟩, .int .i64 2, 0⟩, ⟨.string ⟨#[45]⟩, .int .i64 2, 1⟩, ⟨.string ⟨#[42]⟩, .int .i64 2, 2⟩] ⟨#[47]⟩ (.int .i64 2) rfl; have h4 := jD6 w #[⟨.string ⟨#[43]⟩, .int .i64 2, 0⟩, ⟨.string ⟨#[45]⟩, .int .i64 2, 1⟩, ⟨.string ⟨#[42]⟩, .int .i64 2, 2⟩, ⟨.string ⟨#[47]⟩, .int .i64 2, 3⟩] ⟨#[37]⟩ (.int .i64 2) rfl; have h5 := jD6 w #[⟨.string ⟨#[43]⟩, .int .i64 2, 0⟩, ⟨.string ⟨#[45]⟩, .int .i64 2, 1⟩, ⟨.string ⟨#[42]⟩, .int .i64 2, 2⟩, ⟨.string ⟨#[47]⟩, .int .i64 2, 3⟩, ⟨.string ⟨#[37]⟩, .int .i64 2, 4⟩] ⟨#[61]⟩ (.int .i64 2) rfl; have h6 := jD6 w #[⟨.string ⟨#[43]⟩, .int .i64 2, 0⟩, ⟨.string ⟨#[45]⟩, .int .i64 2, 1⟩, ⟨.string ⟨#[42]⟩, .int .i64 2, 2⟩, ⟨.string ⟨#[47]⟩, .int .i64 2, 3⟩, ⟨.string ⟨#[37]⟩, .int .i64 2, 4⟩, ⟨.string ⟨#[61]⟩, .int .i64 2, 5⟩] ⟨#[60]⟩ (.int .i64 2) rfl; have h7 := jD6 w #[⟨.string ⟨#[43]⟩, .int .i64 2, 0⟩, ⟨.string ⟨#[45]⟩, .int .i64 2, 1⟩, ⟨.string ⟨#[42]⟩, .int .i64 2, 2⟩, ⟨.string ⟨#[47]⟩, .int .i64 2, 3⟩, ⟨.string ⟨#[37]⟩, .int .i64 2, 4⟩, ⟨.string ⟨#[61]⟩, .int .i64 2, 5⟩, ⟨.string ⟨#[60]⟩, .int .i64 2, 6⟩] ⟨#[99, 112, 120]⟩ (.int .i64 2) rfl; have h8 := jD6 w #[⟨.string ⟨#[43]⟩, .int .i64 2, 0⟩, ⟨.string ⟨#[45]⟩, .int .i64 2, 1⟩, ⟨.string ⟨#[42]⟩, .int .i64 2, 2⟩, ⟨.string ⟨#[47]⟩, .int .i64 2, 3⟩, ⟨.string ⟨#[37]⟩, .int .i64 2, 4⟩, ⟨.string ⟨#[61]⟩, .int .i64 2, 5⟩, ⟨.string ⟨#[60]⟩, .int .i64 2, 6⟩, ⟨.string ⟨#[99, 112, 120]⟩, .int .i64 2, 7⟩] ⟨#[114, 101]⟩ (.int .i64 1) rfl; have h9 := jD6 w #[⟨.string ⟨#[43]⟩, .int .i64 2, 0⟩, ⟨.string ⟨#[45]⟩, .int .i64 2, 1⟩, ⟨.string ⟨#[42]⟩, .int .i64 2, 2⟩, ⟨.string ⟨#[47]⟩, .int .i64 2, 3⟩, ⟨.string ⟨#[37]⟩, .int .i64 2, 4⟩, ⟨.string ⟨#[61]⟩, .int .i64 2, 5⟩, ⟨.string ⟨#[60]⟩, .int .i64 2, 6⟩, ⟨.string ⟨#[99, 112, 120]⟩, .int .i64 2, 7⟩, ⟨.string ⟨#[114, 101]⟩, .int .i64 1, 8⟩] ⟨#[105, 109]⟩ (.int .i64 1) rfl; have h10 := jD6 w #[⟨.string ⟨#[43]⟩, .int .i64 2, 0⟩, ⟨.string ⟨#[45]⟩, .int .i64 2, 1⟩, ⟨.string ⟨#[42]⟩, .int .i64 2, 2⟩, ⟨.string ⟨#[47]⟩, .int .i64 2, 3⟩, ⟨.string ⟨#[37]⟩, .int .i64 2, 4⟩, ⟨.string ⟨#[61]⟩, .int .i64 2, 5⟩, ⟨.string ⟨#[60]⟩, .int .i64 2, 6⟩, ⟨.string ⟨#[99, 112, 120]⟩, .int .i64 2, 7⟩, ⟨.string ⟨#[114, 101]⟩, .int .i64 1, 8⟩, ⟨.string ⟨#[105, 109]⟩, .int .i64 1, 9⟩] ⟨#[99, 97, 100, 100]⟩ (.int .i64 2) rfl; have h11 := jD6 w #[⟨.string ⟨#[43]⟩, .int .i64 2, 0⟩, ⟨.string ⟨#[45]⟩, .int .i64 2, 1⟩, ⟨.string ⟨#[42]⟩, .int .i64 2, 2⟩, ⟨.string ⟨#[47]⟩, .int .i64 2, 3⟩, ⟨.string ⟨#[37]⟩, .int .i64 2, 4⟩, ⟨.string ⟨#[61]⟩, .int .i64 2, 5⟩, ⟨.string ⟨#[60]⟩, .int .i64 2, 6⟩, ⟨.string ⟨#[99, 112, 120]⟩, .int .i64 2, 7⟩, ⟨.string ⟨#[114, 101]⟩, .int .i64 1, 8⟩, ⟨.string ⟨#[105, 109]⟩, .int .i64 1, 9⟩, ⟨.string ⟨#[99, 97, 100, 100]⟩, .int .i64 2, 10⟩] ⟨#[99, 109, 117, 108]⟩ (.int .i64 2) rfl; simp only [List.push_toArray, List.nil_append, List.cons_append, List.size_toArray, List.length_nil, List.length_cons, Nat.zero_add, Nat.reduceAdd] at h0 h1 h2 h3 h4 h5 h6 h7 h8 h9 h10 h11; go_enter Tryz.func44, Tryz.ntmps44; go_wp2; go_ret; exact ⟨rfl, rfl⟩
theorem str_eq (a b : List UInt8) : ((⟨a.toArray⟩ : ByteArray) == ⟨b.toArray⟩) = (a == b) := by
 rw [Bool.eq_iff_iff, MapKept.bytes_beq]; simp
theorem jMX (s : List UInt8) : ∃ r, Instr.findNow .string (.string ⟨s.toArray⟩) jBJ.toList 0 = some r /\ ((r = none /\ Px.jC7 s = 0) \/ ∃ j n, r = some (j, .int .i64 n) /\ Px.jC7 s = n) := by
 by_cases e0 : s = [43]
 . subst e0; exact ⟨_, by rfl, .inr ⟨0, 2, rfl, by decide⟩⟩
 by_cases e1 : s = [45]
 . subst e1; exact ⟨_, by rfl, .inr ⟨1, 2, rfl, by decide⟩⟩
 by_cases e2 : s = [42]
 . subst e2; exact ⟨_, by rfl, .inr ⟨2, 2, rfl, by decide⟩⟩
 by_cases e3 : s = [47]
 . subst e3; exact ⟨_, by rfl, .inr ⟨3, 2, rfl, by decide⟩⟩
 by_cases e4 : s = [37]
 . subst e4; exact ⟨_, by rfl, .inr ⟨4, 2, rfl, by decide⟩⟩
 by_cases e5 : s = [61]
 . subst e5; exact ⟨_, by rfl, .inr ⟨5, 2, rfl, by decide⟩⟩
 by_cases e6 : s = [60]
 . subst e6; exact ⟨_, by rfl, .inr ⟨6, 2, rfl, by decide⟩⟩
 by_cases e7 : s = [99, 112, 120]
 . subst e7; exact ⟨_, by rfl, .inr ⟨7, 2, rfl, by decide⟩⟩
 by_cases e8 : s = [114, 101]
 . subst e8; exact ⟨_, by rfl, .inr ⟨8, 1, rfl, by decide⟩⟩
 by_cases e9 : s = [105, 109]
 . subst e9; exact ⟨_, by rfl, .inr ⟨9, 1, rfl, by decide⟩⟩
 by_cases e10 : s = [99, 97, 100, 100]
 . subst e10; exact ⟨_, by rfl, .inr ⟨10, 2, rfl, by decide⟩⟩
 by_cases e11 : s = [99, 109, 117, 108]
 . subst e11; exact ⟨_, by rfl, .inr ⟨11, 2, rfl, by decide⟩⟩
 refine ⟨none, ?_, .inl ⟨rfl, by simp [Px.jC7, e0, e1, e2, e3, e4, e5, e6, e7, e8, e9, e10, e11]⟩⟩; have d0 : ((⟨s.toArray⟩ : ByteArray) == ⟨#[43]⟩) = false := by rw [show (⟨#[43]⟩ : ByteArray) = ⟨([43] : List UInt8).toArray⟩ from rfl, str_eq]; simpa using e0
 have d1 : ((⟨s.toArray⟩ : ByteArray) == ⟨#[45]⟩) = false := by rw [show (⟨#[45]⟩ : ByteArray) = ⟨([45] : List UInt8).toArray⟩ from rfl, str_eq]; simpa using e1
 have d2 : ((⟨s.toArray⟩ : ByteArray) == ⟨#[42]⟩) = false := by rw [show (⟨#[42]⟩ : ByteArray) = ⟨([42] : List UInt8).toArray⟩ from rfl, str_eq]; simpa using e2
 have d3 : ((⟨s.toArray⟩ : ByteArray) == ⟨#[47]⟩) = false := by rw [show (⟨#[47]⟩ : ByteArray) = ⟨([47] : List UInt8).toArray⟩ from rfl, str_eq]; simpa using e3
 have d4 : ((⟨s.toArray⟩ : ByteArray) == ⟨#[37]⟩) = false := by rw [show (⟨#[37]⟩ : ByteArray) = ⟨([37] : List UInt8).toArray⟩ from rfl, str_eq]; simpa using e4
 have d5 : ((⟨s.toArray⟩ : ByteArray) == ⟨#[61]⟩) = false := by rw [show (⟨#[61]⟩ : ByteArray) = ⟨([61] : List UInt8).toArray⟩ from rfl, str_eq]; simpa using e5
 have d6 : ((⟨s.toArray⟩ : ByteArray) == ⟨#[60]⟩) = false := by rw [show (⟨#[60]⟩ : ByteArray) = ⟨([60] : List UInt8).toArray⟩ from rfl, str_eq]; simpa using e6
 have d7 : ((⟨s.toArray⟩ : ByteArray) == ⟨#[99, 112, 120]⟩) = false := by rw [show (⟨#[99, 112, 120]⟩ : ByteArray) = ⟨([99, 112, 120] : List UInt8).toArray⟩ from rfl, str_eq]; simpa using e7
 have d8 : ((⟨s.toArray⟩ : ByteArray) == ⟨#[114, 101]⟩) = false := by rw [show (⟨#[114, 101]⟩ : ByteArray) = ⟨([114, 101] : List UInt8).toArray⟩ from rfl, str_eq]; simpa using e8
 have d9 : ((⟨s.toArray⟩ : ByteArray) == ⟨#[105, 109]⟩) = false := by rw [show (⟨#[105, 109]⟩ : ByteArray) = ⟨([105, 109] : List UInt8).toArray⟩ from rfl, str_eq]; simpa using e9
 have d10 : ((⟨s.toArray⟩ : ByteArray) == ⟨#[99, 97, 100, 100]⟩) = false := by rw [show (⟨#[99, 97, 100, 100]⟩ : ByteArray) = ⟨([99, 97, 100, 100] : List UInt8).toArray⟩ from rfl, str_eq]; simpa using e10
 have d11 : ((⟨s.toArray⟩ : ByteArray) == ⟨#[99, 109, 117, 108]⟩) = false := by rw [show (⟨#[99, 109, 117, 108]⟩ : ByteArray) = ⟨([99, 109, 117, 108] : List UInt8).toArray⟩ from rfl, str_eq]; simpa using e11
 simp [jBJ, Instr.findNow, Instr.sameNow, d0, d1, d2, d3, d4, d5, d6, d7, d8, d9, d10, d11]
theorem run_look (w : World) (B : Nat) (s : List UInt8) (hb : w.heap[B]? = some (.map jBJ 12)) :
 (Instr.lookup 97 (.map (some B)) (.string ⟨s.toArray⟩) false).run Tryz.prog w = .ok (.int .i64 (Px.jC7 s)) w := by
 obtain ⟨r, hf, h⟩ := jMX s; have hz : (zeroValue 3).run Tryz.prog w = .ok (.int .i64 0) w := by kernel_rfl
 have hck := MapKept.run_checkKey (P := Tryz.prog) (w := w) (kt := 9) (d := .string) (k := .string ⟨s.toArray⟩) Tryz.underlying9 (by simp [MapKept.IsKey]) jBJ.isEmpty 9999
 rcases h with ⟨rfl, h0⟩ | ⟨j, n, rfl, hn⟩
 . simp [Instr.lookup, run_underlying Tryz.underlying97, MapKept.run_getObj_map hb, hck, MapKept.run_findKey Tryz.underlying9 hf, hz, Result.andThen, h0]
 . simp [Instr.lookup, run_underlying Tryz.underlying97, MapKept.run_getObj_map hb, hck, MapKept.run_findKey Tryz.underlying9 hf, Result.andThen, hn]
theorem jHP (k : Nat) (n : Px.Node) (lv : Value) (w : World) (hk : jAC w k lv n.list) :
 Calls Tryz.prog 48 #[jA7 n lv] w fun e w' => e = .returned (.string ⟨(Px.word n).toArray⟩) /\ Below w.heap.size w w' := by
 cases hl : n.list with
 | nil =>
   obtain ⟨p, c, rfl⟩ := hk.len; rw [hl]; have hw : Px.word n = [] := by rw [Px.word, hl]
   rw [hw]; clear hl hw hk; go_enter Tryz.func48, Tryz.ntmps48; unfold jA7; go_wp2; go_ret; exact ⟨rfl, (Below.refl _ _).alloc (Nat.le_refl _) _⟩
 | cons m r =>
   obtain ⟨j, g, o, c, rfl, rfl, h3, h4, h5⟩ := hk.some (by rw [hl]; simp); obtain ⟨kv, hn, hkm⟩ := h5 0 m (by rw [hl]; rfl); have hlen : 0 < n.list.length := by rw [hl]; simp
   have hlz : ((n.list.length : Int) == 0) = false := by simp [hl]; omega
   have hw : Px.word n = if Px.jAJ m then [] else m.tok.text := by rw [Px.word, hl]; rfl
   rw [Nat.zero_mul, Nat.add_zero] at hn; obtain ⟨c0, c1, c2, c3, c4, c5⟩ := hn.below (Below.alloc (Below.refl w.heap.size w) (Nat.le_refl _) (.cells #[.int .i64 n.tok.kind, .int .i64 n.tok.pos, .string ⟨n.tok.text.toArray⟩, .int .i64 n.tok.int, .slice (some ⟨g, o, none⟩) n.list.length c, .int .i64 n.takes] 105)); have HW := hid hw; have HN := hid hn; clear hw h5 hl hk hn; cases hm : Px.jAJ m with
   | true =>
     have hw2 : Px.word n = [] := by rw [HW.out, hm]; rfl
     rw [hw2]; clear hw2; go_enter Tryz.func48, Tryz.ntmps48; unfold jA7; go_wp2_with fail; refine (jB2 m _ _ _ hm).mono ?_; rintro e w1 ⟨rfl, hb⟩; have HB := hid (jAR hb); clear hb
     go_wp2; go_ret; exact ⟨rfl, HB.out⟩
   | false =>
     have hw2 : Px.word n = m.tok.text := by rw [HW.out, hm]; rfl
     rw [hw2]; clear hw2; go_enter Tryz.func48, Tryz.ntmps48; unfold jA7; go_wp2_with fail; refine (jB2 m _ _ _ hm).mono ?_; rintro e w1 ⟨rfl, hb⟩; obtain ⟨d0, d1, d2, d3, d4, d5⟩ := (jCU w n _ _).below hb; have HB := hid (jAR hb); clear hb
     obtain ⟨e0, e1, e2, e3, e4, e5⟩ := HN.out.below HB.out; go_wp2; go_ret; exact ⟨rfl, HB.out⟩
end Go.Proofs.YtnhndamfbeiljaaGreatDoor
