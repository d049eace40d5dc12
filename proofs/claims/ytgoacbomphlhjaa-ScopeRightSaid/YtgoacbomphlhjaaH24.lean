/-
  Several texts in one: SOk, SSrc, SRightW.
-/
import Derived.Test.YtgoacbomphlhjaaG22
import Derived.Test.YtgoacbomphlhjaaG00
import Derived.ProofKit
import Derived.OpenShut
import Derived.ShutString
import Derived.HandedShaped
import Derived.SizedLaws
import Derived.Carry
import Derived.Test.YtgoacbomphlhjaaG23
import Derived.Test.YtgoacbomphlhjaaG20
import Derived.Deep.DeepCutAuto
namespace Go.Proofs.Ytgoacbomphlhjaa
open Go Go.RowKit
set_option linter.unusedVariables false
set_option linter.unusedSimpArgs false
theorem asked_no {a : Int} {r : Bool} {p : Nat} (h : asked a r (p : Int) = -1) : a = -1 ∧ r = true := by
 unfold asked at h
 split at h
 · omega
 · rename_i hn
   cases r with
   | true => exact ⟨h, rfl⟩
   | false => exact absurd ⟨rfl, h⟩ hn
theorem fold_no {α : Type} {g : Int → α → Int} (hg : ∀ s x, g s x = -1 → s = -1) : ∀ (l : List α) (a : Int), l.foldl g a = -1 → a = -1 ∧ ∀ x ∈ l, g (-1) x = -1
 | [], a, h => ⟨h, fun x hx => by cases hx⟩
 | x :: r, a, h => by
   rw [List.foldl_cons] at h
   obtain ⟨h1, h2⟩ := fold_no hg r _ h
   have h3 := hg _ _ h1
   subst h3
   refine ⟨rfl, fun y hy => ?_⟩
   rcases List.mem_cons.1 hy with rfl | hy
   · exact h1
   · exact h2 y hy
theorem foldP_no {α : Type} {g : Int × List Nm → α → Int × List Nm} (hg : ∀ s x, (g s x).1 = -1 → s.1 = -1) : ∀ (l : List α) (s : Int × List Nm), (l.foldl g s).1 = -1 → s.1 = -1
 | [], s, h => h
 | x :: r, s, h => by rw [List.foldl_cons] at h; exact hg _ _ (foldP_no hg r _ h)
theorem partS_no (m : Nm → Option C3) : ∀ (f : Nat) (s : Int × List Nm) (x : Px.Pat), (partS m f s x).1 = -1 → s.1 = -1
 | 0, s, x, h => by rw [partS] at h; exact h
 | f + 1, s, .mk k p nm i xs, h => by
   rw [partS] at h
   have h1 := foldP_no (fun s x => partS_no m f s x) _ _ h
   split at h1
   · exact (asked_no h1).1
   · split at h1
     · exact (asked_no h1).1
     · exact h1
theorem exprAsk_no (m : Nm → Option C3) (vars : List Nm) (a : Int) (x : Px.Expr) (h : exprAsk m vars a x = -1) : a = -1 := by
 cases x with | mk k p nm i ns xs al =>
 rw [exprAsk] at h
 split at h
 · exact (asked_no h).1
 · split at h
   · exact (asked_no h).1
   · split at h
     · exact (asked_no h).1
     · exact h
theorem walk_no (m : Nm → Option C3) : ∀ (f : Nat) (x : Px.Expr) (a : Int) (base but : List Nm), walkS (ckE m) (ckP m) f a (base ++ but) x = -1 → a = -1 ∧ ∀ s ∈ Sx.usesE f x but, s ∈ base := by
 intro f
 induction f with
 | zero => intro x a base but h; rw [walkS] at h; exact ⟨h, fun s hs => by rw [Sx.usesE] at hs; cases hs⟩
 | succ f ih =>
   intro x a base but h
   cases x with | mk k p nm i ns xs al =>
   rw [walkS] at h
   have hA : ∀ s (a' : Px.Pat × Px.Expr), walkS (ckE m) (ckP m) f (ckP m f s (base ++ but) a'.1) ((base ++ but) ++ Sx.boundP f a'.1) a'.2 = -1 → s = -1 := fun s a' hh => by
    rw [List.append_assoc] at hh
    have := (ih a'.2 _ base _ hh).1
    unfold ckP at this
    exact partS_no m f _ _ this
   obtain ⟨h1, h2⟩ := fold_no hA al _ h
   have hX : ∀ s (y : Px.Expr), walkS (ckE m) (ckP m) f s ((base ++ but) ++ ns) y = -1 → s = -1 := fun s y hh => by
    rw [List.append_assoc] at hh
    exact (ih y _ base _ hh).1
   obtain ⟨h3, h4⟩ := fold_no hX xs _ h1
   unfold ckE at h3
   have ha := exprAsk_no m _ _ _ h3
   refine ⟨ha, fun s hs => ?_⟩
   rw [Sx.usesE] at hs
   rcases List.mem_append.1 hs with hs | hs
   · rcases List.mem_append.1 hs with hs | hs
     · split at hs
       · rename_i hk
         simp only [List.mem_cons, List.not_mem_nil, or_false] at hs
         subst hs
         rw [exprAsk, if_pos hk.1] at h3
         have h5 := (asked_no h3).2
         have h6 : s ∈ base ++ but := by simpa using h5
         rcases List.mem_append.1 h6 with h6 | h6
         · exact h6
         · exact absurd h6 (by simpa using hk.2)
       · cases hs
     · obtain ⟨y, hy, hs⟩ := List.mem_flatMap.1 hs
       have := h4 y hy
       rw [List.append_assoc] at this
       exact (ih y _ base _ this).2 s hs
   · obtain ⟨y, hy, hs⟩ := List.mem_flatMap.1 hs
     have := h2 y hy
     rw [List.append_assoc] at this
     exact (ih y.2 _ base _ this).2 s hs
theorem defS_no (m : Nm → Option C3) (vars : List Nm) (f : Nat) (a : Int) (d : Px.Def) (h : defS m vars f a d = -1) : a = -1 ∧ ∀ s ∈ Sx.freeE f d.body, s ∈ d.params ∨ s ∈ vars := by
 unfold defS at h
 have h' : walkS (ckE m) (ckP m) f (asked a (addsB (fun _ => 0) d.params) d.pos) ((vars ++ d.params) ++ []) d.body = -1 := by rw [List.append_nil]; exact h
 obtain ⟨h1, h2⟩ := walk_no m f d.body _ _ _ h'
 refine ⟨(asked_no h1).1, fun s hs => ?_⟩
 unfold Sx.freeE at hs
 rw [Sx.once_mem] at hs
 rcases hs with hs | hs
 · cases hs
 · rcases List.mem_append.1 (h2 s hs) with h | h
   · exact .inr h
   · exact .inl h
theorem mainS_no : ∀ (l : List Px.Def) (a : Int), mainS a l = -1 → a = -1 ∧ ∃ d ∈ l, d.name = sMain ∧ d.params = []
 | [], a, h => by
   rw [mainS] at h
   have := (asked_no (p := 0) h).2
   cases this
 | d :: r, a, h => by
   rw [mainS] at h
   split at h
   · rename_i hm
     obtain ⟨h1, h2⟩ := asked_no h
     exact ⟨h1, d, by simp, hm, List.eq_nil_of_length_eq_zero (by simpa using h2)⟩
   · obtain ⟨h1, d', h2, h3⟩ := mainS_no r a h
     exact ⟨h1, d', by simp [h2], h3⟩
/-- Of a program that is right the free names of each definition are its parameters, or definitions; and there is a main. -/
theorem prog_right (p : Px.Prog) (h : progS p = -1) : (∀ d ∈ p.defs, ∀ s ∈ Sx.freeE 50 d.body, s ∈ d.params ∨ s ∈ p.defs.map (·.name)) ∧ ∃ d ∈ p.defs, d.name = sMain ∧ d.params = [] := by
 unfold progS at h
 obtain ⟨h1, h2⟩ := mainS_no _ _ h
 unfold progS4 at h1
 obtain ⟨_, h4⟩ := fold_no (fun s x hh => (defS_no _ _ _ _ _ hh).1) _ _ h1
 exact ⟨fun d hd => (defS_no _ _ _ _ _ (h4 d hd)).2, h2⟩
end Go.Proofs.Ytgoacbomphlhjaa
namespace Go.Proofs.Ytgoacbomphlhjaa
open Go.ChangeShapes Go.WideShapes Go.ChangeAt Go.RowKit
set_option linter.unusedVariables false
set_option linter.unusedSimpArgs false
theorem own : ownKnob Try.prog.godebug = none := by kernel_rfl
theorem laidOut : laidOutB Try.prog = true := by kernel_rfl
/-- A slice of integers that came in: nil, or a row of 'cap' cells with the numbers 'zs'; the first 'len' are its elements. -/
def IsRow (k : IntKind) (w : World) (a : Option Addr) (len cap : Nat) (zs : List Int) : Prop :=
 (a = none ∧ len = 0 ∧ cap = 0 ∧ zs = []) ∨
 ∃ x, a = some x ∧ len ≤ cap ∧ cap ≤ 140737488351232 ∧ zs.length = cap ∧ (∀ i, i < zs.length → w.cell? (x.add i) = some (.int k (zs.getD i 0))) ∧ ∀ n ∈ zs, (Lit.int k n).wf = true
/-- What a slice of bytes that came in holds. -/
def bytesOf (zs : List Int) (len : Nat) : List UInt8 := (zs.take len).map fun z => UInt8.ofNat z.toNat
/-- A source of bytes for an append. -/
def SrcAt (w : World) (v : Value) (l : List UInt8) : Prop :=
 (v = .slice none 0 0 ∧ l = []) ∨ ∃ ad c, v = .slice (some ad) l.length c ∧ ∀ j u, (l.map byteV)[j]? = some u → w.cell? (ad.add j) = some u
theorem SrcAt.below {w w' : World} {v : Value} {l : List UInt8} (h : SrcAt w v l) (hb : Below w.heap.size w w') : SrcAt w' v l := by
 rcases h with h | ⟨ad, c, rfl, h⟩
 · exact .inl h
 · refine .inr ⟨ad, c, rfl, fun j u hu => ?_⟩
   have := h j u hu
   rw [hb.cell (World.block_lt_of_cell? w _ this)]; exact this
theorem row_src {w : World} {a : Option Addr} {len cap : Nat} {zs : List Int} (h : IsRow .u8 w a len cap zs) :
 SrcAt w (.slice a len cap) (bytesOf zs len) ∧ SliceAt w (.slice a len cap) (bytesOf zs len) ∧ (bytesOf zs len).length = len ∧ len ≤ 140737488351232 := by
 rcases h with ⟨rfl, rfl, rfl, rfl⟩ | ⟨x, rfl, h1, h2, h3, h4, h5⟩
 · exact ⟨.inl ⟨rfl, rfl⟩, .inl ⟨none, 0, rfl, rfl⟩, rfl, by omega⟩
 · have hl : (bytesOf zs len).length = len := by simp [bytesOf]; omega
   have hz : ∀ j, j < len → zs.getD j 0 = ((Lx.at0 (bytesOf zs len) j).toNat : Int) := by
    intro j hj
    have hjz : j < zs.length := by omega
    have hb := bounds_u8 (h5 _ (List.getElem_mem hjz))
    unfold Lx.at0
    rw [List.getD_eq_getElem?_getD, List.getD_eq_getElem?_getD, List.getElem?_eq_getElem hjz]
    simp only [bytesOf, List.getElem?_map, List.getElem?_take, if_pos hj, List.getElem?_eq_getElem hjz, Option.map_some, Option.getD_some]
    rw [UInt8.toNat_ofNat']; omega
   have hsrc : ∀ j, j < len → w.cell? (x.add j) = some (.int .u8 (Lx.at0 (bytesOf zs len) j).toNat) := by
    intro j hj
    rw [h4 j (by omega), hz j hj]
   refine ⟨.inr ⟨x, cap, by rw [hl], fun j u hu => ?_⟩, ?_, hl, by omega⟩
   · have hj : j < len := by
      have := (List.getElem?_eq_some_iff.1 hu).1
      simpa [hl] using this
     rw [hsrc j hj, ← hu, at0_get _ j (by omega)]
   · by_cases h0 : len = 0
     · subst h0
       exact .inl ⟨_, cap, rfl, List.eq_nil_of_length_eq_zero hl⟩
     · obtain ⟨b, off, rfl, hbo⟩ := ints_at (zs := zs) (k := .u8) (w := w) (a := x) h4 (by omega)
       refine .inr ⟨b, off, cap, by rw [hl], by omega, by omega, fun j hj => ?_⟩
       rw [hbo j (by omega), hz j (by omega)]
theorem conv_src {W : World} {v : Value} {l : List UInt8} (h : SrcAt W v l) : (convert 22 9 v).run Try.prog W = .ok (.string ⟨l.toArray⟩) W := by
 rcases h with ⟨rfl, rfl⟩ | ⟨ad, c, rfl, h⟩
 · exact run_convert_bytes_nil (P := Try.prog) W 22 5 Try.underlying22 Try.underlying5 0 0 9 Try.underlying9
 · refine run_convert_bytes_back (P := Try.prog) W 22 9 5 ad c l Try.underlying22 Try.underlying5 Try.underlying9 (fun j hj => ?_)
   refine h j _ ?_
   rw [List.getElem?_map, List.getElem?_eq_getElem hj]; rfl
/-- The bytes of an argument. -/
theorem open_bytes {H : Type} {enc : TypeId × Value → H} {W : World} {a0 : Option Addr} {len0 cap0 : Nat} {d0 : DataW H} {p0 : List MemPlace} {ts : List TypeId} {ds : List (DataW H)}
 (h : DataW.Trod enc Try.prog W 0 (fun _ => true) true 22 (.slice a0 len0 cap0) d0 p0) (hreach : (DataW.weightsEach Try.prog (22 :: ts) (d0 :: ds)).all (· ≤ reachBytes) = true) :
 ∃ l : List UInt8, SrcAt W (.slice a0 len0 cap0) l ∧ l.length = len0 ∧ len0 ≤ 140737488351232 := by
 obtain ⟨zs, hz⟩ : ∃ zs, IsRow .u8 W a0 len0 cap0 zs := by
  obtain ⟨fuel, hf⟩ := h
  rcases open_ints Try.underlying22 Try.underlying5 (by kernel_rfl) hf with ⟨hcs, _⟩ | ⟨x, l, c, zs, hcs, _, hl, hm, hz, hx, hcell, hwz⟩
  · simp [Value.cells] at hcs
    obtain ⟨rfl, rfl, rfl⟩ := hcs
    exact ⟨[], .inl ⟨rfl, rfl, rfl, rfl⟩⟩
  · simp [Value.cells] at hcs
    obtain ⟨rfl, rfl, rfl⟩ := hcs
    have hzz : zs.length = cap0 := by simpa using hz
    simp only [Prod.mk.injEq] at hx
    have hd : d0 = _ := hx.1
    have hr : cap0 ≤ 140737488351232 := by
     have this : ((lits (H := H) .u8 (zs.take len0)).length + (lits (H := H) .u8 (zs.drop len0)).length) * Try.prog.bytesOf 5 ≤ reachBytes := sized_slice hreach (j := 0) (t := 22) (e := 5) rfl (by rw [hd]; rfl) Try.underlying22
     rw [show Try.prog.bytesOf 5 = 1 by kernel_rfl] at this
     simp only [lits, List.length_map, List.length_take, List.length_drop, reachBytes] at this
     omega
    exact ⟨zs, .inr ⟨_, rfl, hl, hr, hzz, hcell, hwz⟩⟩
 obtain ⟨h1, _, h3, h4⟩ := row_src hz
 exact ⟨_, h1, h3, h4⟩
end Go.Proofs.Ytgoacbomphlhjaa
namespace Go.Proofs.Ytgoacbomphlhjaa
open Go Go.RowKit
set_option linter.unusedVariables false
set_option linter.unusedSimpArgs false
def isMain (d : Px.Def) : Bool := d.name == sMain && d.params.length == 0
theorem any_next {α : Type} (f : α → Bool) {l : List α} {k : Nat} {x : α} (h : l[k]? = some x) : (l.take (k + 1)).any f = ((l.take k).any f || f x) := by
 rw [List.take_add_one, h]; simp
set_option maxHeartbeats 8000000 in
set_option maxRecDepth 100000 in
theorem scopeRight_walk (w : World) (a0 : Option Addr) (n c : Nat) (l : List UInt8) (hs : SrcAt w (.slice a0 n c) l) (hl : l.length = n) (hn : n ≤ 140737488351232) :
 Calls Try.prog 5 #[.slice a0 n c] w fun e w' => e = .returned (.bool true) ∧ Below w.heap.size w w' := by
 have HS := Lib.hid hs; have HL := Lib.hid hl
 clear hs hl
 go_enter Try.func5, Try.ntmps5
 go_wp2_with fail
 refine (lives_any _).mono ?_
 rintro e w1 ⟨rfl, hb1⟩
 have HB1 := Lib.hid hb1; clear hb1
 by_cases hlong : 2500 < n
 · have hl2 : (2500 : Int) < (n : Int) := by omega
   go_wp2_with fail
   refine (lives_any _).mono ?_
   rintro e w2 ⟨rfl, hb2⟩
   have HB2 := Lib.hid (HB1.out.trans (hb2.mono HB1.out.size)); clear hb2
   go_wp2_with fail
   go_ret
   exact ⟨rfl, HB2.out⟩
 have hl2 : ¬ (2500 : Int) < (n : Int) := by omega
 have hcv := conv_src (HS.out.below HB1.out)
 go_wp2_with fail
 refine (RProgram_any l _ (by have := HL.out; omega)).mono ?_
 rintro e w2 ⟨hb2, v, pp, kk, rfl, hsh, hres⟩
 have HB2 := Lib.hid (HB1.out.trans (hb2.mono HB1.out.size)); clear hb2 hcv
 generalize hout : Px.program l = out at *
 cases out with
 | lex q =>
   obtain ⟨rfl, rfl⟩ := hres
   obtain ⟨q1, n1, c1, q2, n2, c2, rfl⟩ := hsh
   go_wp2_with fail
   go_ret
   exact ⟨rfl, HB2.out.alloc HB2.out.size _⟩
 | parse q =>
   obtain ⟨rfl, rfl⟩ := hres
   obtain ⟨q1, n1, c1, q2, n2, c2, rfl⟩ := hsh
   go_wp2_with fail
   go_ret
   exact ⟨rfl, HB2.out.alloc HB2.out.size _⟩
 | done p =>
 obtain ⟨rfl, rfl, hnew⟩ := hres
 clear hsh
 obtain ⟨q1, c1, q2, c2, rfl⟩ := progAt_sh hnew.now
 have HP := Lib.hid (new_alloc hnew (.cells #[.slice q1 p.datas.length c1, .slice q2 p.defs.length c2] 27))
 have HB3 := Lib.hid (HB2.out.alloc HB2.out.size (.cells #[.slice q1 p.datas.length c1, .slice q2 p.defs.length c2] 27))
 have EX3 := Lib.hid (ent_new w2 #[.slice q1 p.datas.length c1, .slice q2 p.defs.length c2] 27)
 have HW := Lib.hid (Px.program_wt l p hout)
 clear hnew hout
 have hpb : w.heap.size ≤ w2.heap.size := HB2.out.size
 have e0 := ent_cell EX3.out 0 _ rfl; have e1 := ent_cell EX3.out 1 _ rfl
 go_wp2_with fail
 clear e0 e1
 refine (Check_any p _ _ HP.out (by have := HW.out; omega)).mono ?_
 rintro e w4 ⟨rfl, hb4⟩
 have HB4 := Lib.hid (HB3.out.trans (hb4.mono HB3.out.size))
 have EX4 := Lib.hid (ent_below EX3.out hb4)
 have HP4 := Lib.hid (progAt_below HP.out hb4)
 clear hb4 HP EX3 HB3
 by_cases hr : progS p = -1
 case neg =>
  have hc4 : checkNo (progS p) = 4 := by rw [checkNo, if_neg hr]
  rw [hc4]
  clear hr hc4
  obtain ⟨a, ha⟩ : ∃ a, progS p = a := ⟨_, rfl⟩
  rw [ha]
  clear ha
  go_wp2_with fail
  go_ret
  exact ⟨rfl, HB4.out⟩
 obtain ⟨hfree, hmain⟩ := prog_right p hr
 have HFREE := Lib.hid hfree; have HMAIN := Lib.hid hmain
 have hc4 : checkNo (-1) = 0 := by decide
 rw [hr, hc4]
 clear hr hc4 hfree hmain
 have HF : Hid (RowAt 10 (DefAt 50 w4) w4 (.slice q2 p.defs.length c2) p.defs) := Lib.hid (by
  obtain ⟨dv, fv, hpv, h1, h2⟩ := HP4.out
  simp only [Value.agg.injEq, Array.mk.injEq, List.cons.injEq, and_true] at hpv
  obtain ⟨rfl, rfl⟩ := hpv
  exact h2)
 have hlf : p.defs.length ≤ 190000 := Nat.le_trans (Sx.len_sum Sx.fw _ (fun x _ => by unfold Sx.fw; omega)) (by have := HW.out; omega)
 clear HP4 HS HL
 have e0 := ent_cell EX4.out 0 _ rfl; have e1 := ent_cell EX4.out 1 _ rfl
 go_wp2_with fail
 clear e0 e1
 go_loopw [8, 43] (fun m i wr => ∃ k : Nat, i = .int .i64 k ∧ k ≤ p.defs.length ∧ m = .bool ((p.defs.take k).any isMain) ∧ Hid (Below w4.heap.size w4 wr)) (fun _ i _ => p.defs.length - (intOf i).toNat)
 case atStart => exact ⟨0, rfl, Nat.zero_le _, rfl, Lib.hid (Below.refl _ _)⟩
 case round =>
  obtain ⟨k, rfl, hk, rfl, HR⟩ := hrel
  by_cases hlt : k < p.defs.length
  · obtain ⟨d, hd⟩ : ∃ x, p.defs[k]? = some x := ⟨_, List.getElem?_eq_getElem hlt⟩
    rcases HF.out with ⟨h0, _⟩ | ⟨g, of, c', hv, g1, g2, g3⟩
    · rw [h0] at hlt; simp at hlt
    injection hv with hq1 _ hq2
    subst hq1; subst hq2
    obtain ⟨u, hu, _, hcell⟩ := g3 k d hd
    obtain ⟨dr, ds, dk, dp, dn, di, dq1, dn1, dc1, dq2, dn2, dc2, dq3, dn3, dc3, rfl, hrp, hbx⟩ := defAt_sh hu
    have HBW := Lib.hid HR.out
    have z0 := cell_up HBW.out (hcell 0 _ rfl); have z1 := cell_up HBW.out (hcell 1 _ rfl); have z2 := cell_up HBW.out (hcell 2 _ rfl); have z3 := cell_up HBW.out (hcell 3 _ rfl); have z4 := cell_up HBW.out (hcell 4 _ rfl); have z5 := cell_up HBW.out (hcell 5 _ rfl); have z6 := cell_up HBW.out (hcell 6 _ rfl); have z7 := cell_up HBW.out (hcell 7 _ rfl); have z8 := cell_up HBW.out (hcell 8 _ rfl); have z9 := cell_up HBW.out (hcell 9 _ rfl)
    simp only [Nat.add_zero] at z0
    have hk1 : (k : Int) < (p.defs.length : Int) := by omega
    have hk2 : (p.defs.length : Int) ≤ (c2 : Int) := by omega
    have hk3 := g2
    have hfw := Sx.sum_mem Sx.fw (List.mem_of_getElem? hd)
    have hff : Sx.fw d = 1 + d.name.length + nw d.params + Sx.ew 50 d.body := rfl
    have hpl : d.params.length ≤ nw d.params := nw_len _
    have HDW := Lib.hid (show Sx.ew 50 d.body ≤ 400000 ∧ d.params.length ≤ 400000 by have := HW.out; omega)
    have HAL := Lib.hid ((Below.refl _ wr).alloc (Nat.le_refl _) (.cells #[.int .i64 d.pos, .string ⟨d.name.toArray⟩, .slice dr d.params.length ds, .int .i64 dk, .int .i64 dp, .string dn, .int .i64 di, .slice dq1 dn1 dc1, .slice dq2 dn2 dc2, .slice dq3 dn3 dc3] 58))
    have E5 := Lib.hid (ent_new wr #[.int .i64 d.pos, .string ⟨d.name.toArray⟩, .slice dr d.params.length ds, .int .i64 dk, .int .i64 dp, .string dn, .int .i64 di, .slice dq1 dn1 dc1, .slice dq2 dn2 dc2, .slice dq3 dn3 dc3] 58)
    have HR5 := Lib.hid (HR.out.trans (HAL.out.mono HR.out.size))
    have HPR := Lib.hid hrp; have HBX := Lib.hid hbx; have HD := Lib.hid hd
    clear g1 g2 g3 hcell hu hd hfw hff hpl hrp hbx HBW
    obtain ⟨b, hb⟩ : ∃ b, (p.defs.take k).any isMain = b := ⟨_, rfl⟩
    rw [hb]
    have HM := Lib.hid (show (p.defs.take (k + 1)).any isMain = (b || isMain d) by rw [any_next isMain HD.out, hb])
    clear hb
    go_upto_region 13 with fail
    clear z0 z1 z2 z3 z4 z5 z6 z7 z8 z9
    obtain ⟨w5, hw5⟩ : ∃ u, u = wr.alloc (.cells #[.int .i64 d.pos, .string ⟨d.name.toArray⟩, .slice dr d.params.length ds, .int .i64 dk, .int .i64 dp, .string dn, .int .i64 di, .slice dq1 dn1 dc1, .slice dq2 dn2 dc2, .slice dq3 dn3 dc3] 58) := ⟨_, rfl⟩
    rw [← hw5] at HAL E5 HR5 ⊢
    clear hw5
    go_cut [8] (fun m wx => m = .bool (b || isMain d) ∧ wx = w5)
    case first =>
     have y1 := ent_cell E5.out 1 _ rfl; have y2 := ent_cell E5.out 2 _ rfl
     cases b with
     | true =>
       go_wp2_with fail
       go_meet
       exact ⟨rfl, rfl⟩
     | false =>
       by_cases hm : d.name = sMain
       · have hq : (⟨d.name.toArray⟩ : ByteArray) = { data := #[109, 97, 105, 110] } := by rw [hm]; rfl
         rw [hq] at y1
         by_cases h0 : d.params.length = 0
         · have h1 : ((d.params.length : Int) == 0) = true := by simp [h0]
           have HI := Lib.hid (show isMain d = true by rw [isMain, hm, h0]; rfl)
           clear hq hm
           go_wp2_with fail
           go_meet
           exact ⟨by rw [HI.out]; rfl, rfl⟩
         · have h1 : ((d.params.length : Int) == 0) = false := beq_eq_false_iff_ne.2 (by omega)
           have h2 : ¬ (d.params.length : Int) = 0 := by omega
           have HI := Lib.hid (show isMain d = false by rw [isMain, beq_eq_false_iff_ne.2 h0, Bool.and_false])
           clear hq hm h0
           go_wp2_with fail
           go_meet
           exact ⟨by rw [HI.out]; rfl, rfl⟩
       · have hq : ¬ (⟨d.name.toArray⟩ : ByteArray) = { data := #[109, 97, 105, 110] } := arr_ne hm
         have hq2 : ¬ d.name = [109, 97, 105, 110] := hm
         have hq4 : (d.name == [109, 97, 105, 110]) = false := beq_eq_false_iff_ne.2 hq2
         have hq3 : ¬ d.name.toArray = #[109, 97, 105, 110] := fun e => hq2 (by simpa using congrArg Array.toList e)
         have HI := Lib.hid (show isMain d = false by rw [isMain, beq_eq_false_iff_ne.2 hm, Bool.false_and])
         clear hm
         go_wp2_with fail
         go_meet
         exact ⟨by rw [HI.out]; rfl, rfl⟩
    case rest =>
    obtain ⟨rfl, rfl⟩ := hcut
    rw [← HM.out]
    have y3 := ent_cell E5.out 3 _ rfl; have y4 := ent_cell E5.out 4 _ rfl; have y5 := ent_cell E5.out 5 _ rfl; have y6 := ent_cell E5.out 6 _ rfl; have y7 := ent_cell E5.out 7 _ rfl; have y8 := ent_cell E5.out 8 _ rfl; have y9 := ent_cell E5.out 9 _ rfl
    go_wp2_with fail
    clear y3 y4 y5 y6 y7 y8 y9
    refine (Free_any 50 d.body _ _ (exprAt_below HBX.out HR5.out) HDW.out.1).mono ?_
    rintro e w6 ⟨fv, rfl, hb6, hn6⟩
    obtain ⟨fs, hfs⟩ : ∃ fs, Sx.freeE 50 d.body = fs := ⟨_, rfl⟩
    have hfl : fs.length ≤ 400000 := by
     have h1 := Sx.once_len (Sx.usesE 50 d.body []) []
     have h2 := nw_len (Sx.usesE 50 d.body [])
     have h3 := Sx.nw_uses 50 d.body []
     have h4 := HDW.out.1
     rw [← hfs, Sx.freeE]
     simp at h1; omega
    have HFS := Lib.hid (show ∀ s ∈ fs, s ∈ d.params ∨ s ∈ p.defs.map (·.name) from fun s hs => HFREE.out d (List.mem_of_getElem? HD.out) s (by rw [hfs]; exact hs))
    rw [hfs] at hn6
    obtain ⟨q5, c5, rfl⟩ := hn6.now.len
    have HN6 := Lib.hid hn6.now
    have HR6 := Lib.hid (HR5.out.trans (hb6.mono HR5.out.size))
    have E6 := Lib.hid (ent_below E5.out hb6)
    have hdb : wr.heap.size < w6.heap.size := ent_lt E6.out
    clear hb6 hn6 hfs E5 HR5
    go_wp2_with fail
    go_loopw [63] (fun i wx => ∃ e : Nat, i = .int .i64 e ∧ e ≤ fs.length ∧ Hid (Below w6.heap.size w6 wx)) (fun i _ => fs.length - (intOf i).toNat)
    case atStart => exact ⟨0, rfl, Nat.zero_le _, Lib.hid (Below.refl _ _)⟩
    case round =>
     rename World => wz
     obtain ⟨e, rfl, he, HZ⟩ := hrel
     by_cases hle : e < fs.length
     · obtain ⟨s, hse⟩ : ∃ s, fs[e]? = some s := ⟨_, List.getElem?_eq_getElem hle⟩
       rcases HN6.out with ⟨h0, _⟩ | ⟨g, of, c', hv, g1, g2, g3⟩
       · rw [h0] at hle; simp at hle
       injection hv with hq1 _ hq2
       subst hq1; subst hq2
       obtain ⟨u, hu, _, hcell⟩ := g3 e s hse
       have hu' : u = .string ⟨s.toArray⟩ := hu
       subst hu'
       have h0 := cell_up HZ.out (hcell 0 _ rfl)
       simp only [Nat.mul_one, Nat.add_zero] at h0
       have hk1 : (e : Int) < (fs.length : Int) := by omega
       have hk2 : (fs.length : Int) ≤ (c5 : Int) := by omega
       have hk3 := g2
       have HSE := Lib.hid hse
       have HOR := Lib.hid (HFS.out s (List.mem_of_getElem? hse))
       clear g1 g2 g3 hcell hu hse
       have EZ := Lib.hid (ent_below E6.out HZ.out)
       have y2 := ent_cell EZ.out 2 _ rfl
       go_wp2_with fail
       clear y2 h0
       refine (refHas_any _ d.params s _ (rowS_below (rowS_below HPR.out HR6.out) HZ.out)).mono ?_
       rintro e9 w9 ⟨rfl, rfl⟩
       have XZ := Lib.hid (ent_below (ent_below EX4.out HR6.out) HZ.out)
       have x0 := ent_cell XZ.out 0 _ rfl; have x1 := ent_cell XZ.out 1 _ rfl
       go_wp2_with fail
       clear x0 x1
       go_loopw [13, 74] (fun ok i wx => ∃ j : Nat, i = .int .i64 j ∧ j ≤ p.defs.length ∧ ok = .bool (hasN d.params s || (p.defs.take j).any (fun o => o.name == s)) ∧ Hid (Below w9.heap.size w9 wx)) (fun _ i _ => p.defs.length - (intOf i).toNat)
       case atStart => exact ⟨0, rfl, Nat.zero_le _, by simp, Lib.hid (Below.refl _ _)⟩
       case round =>
        rename World => wy
        obtain ⟨j, rfl, hj, rfl, HY⟩ := hrel
        by_cases hlt : j < p.defs.length
        · obtain ⟨o, hd⟩ : ∃ x, p.defs[j]? = some x := ⟨_, List.getElem?_eq_getElem hlt⟩
          rcases HF.out with ⟨h0, _⟩ | ⟨g, of, c', hv, g1, g2, g3⟩
          · rw [h0] at hlt; simp at hlt
          cases hv
          obtain ⟨u, hu, _, hcell⟩ := g3 j o hd
          obtain ⟨or, os, ok, op, on, oi, oq1, on1, oc1, oq2, on2, oc2, oq3, on3, oc3, rfl, hrp, hbx⟩ := defAt_sh hu
          have HBW := Lib.hid (HR6.out.trans ((HZ.out.trans (HY.out.mono HZ.out.size)).mono HR6.out.size))
          have z0 := cell_up HBW.out (hcell 0 _ rfl); have z1 := cell_up HBW.out (hcell 1 _ rfl); have z2 := cell_up HBW.out (hcell 2 _ rfl); have z3 := cell_up HBW.out (hcell 3 _ rfl); have z4 := cell_up HBW.out (hcell 4 _ rfl); have z5 := cell_up HBW.out (hcell 5 _ rfl); have z6 := cell_up HBW.out (hcell 6 _ rfl); have z7 := cell_up HBW.out (hcell 7 _ rfl); have z8 := cell_up HBW.out (hcell 8 _ rfl); have z9 := cell_up HBW.out (hcell 9 _ rfl)
          simp only [Nat.add_zero] at z0
          have hk1 : (j : Int) < (p.defs.length : Int) := by omega
          have hk2 : (p.defs.length : Int) ≤ (c2 : Int) := by omega
          have hk3 := g2
          have HAL2 := Lib.hid ((Below.refl _ wy).alloc (Nat.le_refl _) (.cells #[.int .i64 o.pos, .string ⟨o.name.toArray⟩, .slice or o.params.length os, .int .i64 ok, .int .i64 op, .string on, .int .i64 oi, .slice oq1 on1 oc1, .slice oq2 on2 oc2, .slice oq3 on3 oc3] 58))
          have E7 := Lib.hid (ent_new wy #[.int .i64 o.pos, .string ⟨o.name.toArray⟩, .slice or o.params.length os, .int .i64 ok, .int .i64 op, .string on, .int .i64 oi, .slice oq1 on1 oc1, .slice oq2 on2 oc2, .slice oq3 on3 oc3] 58)
          have HY7 := Lib.hid (HY.out.trans (HAL2.out.mono HY.out.size))
          have HO := Lib.hid hd
          have y1 := ent_cell E7.out 1 _ rfl
          clear g1 g2 g3 hcell hu hd hrp hbx HBW
          obtain ⟨b, hb⟩ : ∃ b, (hasN d.params s || (p.defs.take j).any (fun o => o.name == s)) = b := ⟨_, rfl⟩
          rw [hb]
          have HM2 := Lib.hid (show (hasN d.params s || (p.defs.take (j + 1)).any (fun o => o.name == s)) = (b || (o.name == s)) by rw [any_next _ HO.out, ← Bool.or_assoc, hb])
          clear hb
          cases b with
          | true =>
            go_wp2_with fail
            go_roundw
            case rel => exact ⟨j + 1, by go_num, by omega, by rw [HM2.out]; rfl, HY7⟩
            case measure => simp [intOf]; omega
          | false =>
            by_cases he : o.name = s
            · have HI := Lib.hid (show (o.name == s) = true by rw [he]; simp)
              rw [he] at y1 z1 HY7
              clear he
              go_wp2_with fail
              go_roundw
              case rel => exact ⟨j + 1, by go_num, by omega, by rw [HM2.out, HI.out]; rfl, HY7⟩
              case measure => simp [intOf]; omega
            · have hne : (o.name == s) = false := beq_eq_false_iff_ne.2 he
              have HI := Lib.hid hne
              have ha : ¬ (⟨o.name.toArray⟩ : ByteArray) = ⟨s.toArray⟩ := arr_ne he
              have hq3 : ¬ o.name.toArray = s.toArray := fun e => he (by simpa using congrArg Array.toList e)
              go_wp2_with fail
              go_roundw
              case rel => exact ⟨j + 1, by go_num, by omega, by rw [HM2.out, HI.out]; rfl, HY7⟩
              case measure => simp [intOf]; omega
        · obtain rfl : j = p.defs.length := by omega
          have HT := Lib.hid (show (hasN d.params s || (p.defs.take p.defs.length).any (fun o => o.name == s)) = true by
           rw [List.take_length, Bool.or_eq_true]
           rcases HOR.out with h | h
           · exact .inl (by rw [hasN]; simpa using h)
           · obtain ⟨o, h1, h2⟩ := List.mem_map.1 h
             exact .inr (List.any_eq_true.2 ⟨o, h1, by rw [h2]; simp⟩))
          rw [HT.out]
          go_wp2_with fail
          go_roundw
          case rel => exact ⟨e + 1, by go_num, by omega, Lib.hid (HZ.out.trans (HY.out.mono HZ.out.size))⟩
          case measure => simp [intOf]; omega
     · obtain rfl : e = fs.length := by omega
       go_wp2_with fail
       go_roundw
       case rel => exact ⟨k + 1, by go_num, by omega, rfl, Lib.hid (HR6.out.trans (HZ.out.mono HR6.out.size))⟩
       case measure => simp [intOf]; omega
  · obtain rfl : k = p.defs.length := by omega
    have HM := Lib.hid (show (p.defs.take p.defs.length).any isMain = true by
     rw [List.take_length, List.any_eq_true]
     obtain ⟨d, h1, h2, h3⟩ := HMAIN.out
     exact ⟨d, h1, by rw [isMain, h2, h3]; rfl⟩)
    rw [HM.out]
    go_wp2_with fail
    go_ret
    exact ⟨rfl, HB4.out.trans (HR.out.mono HB4.out.size)⟩
end Go.Proofs.Ytgoacbomphlhjaa
