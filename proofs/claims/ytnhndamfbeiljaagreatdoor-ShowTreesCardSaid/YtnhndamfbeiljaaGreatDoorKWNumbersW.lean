/-
  ShowNumbers: its walk.
-/
import Derived.Test.YtnhndamfbeiljaaGreatDoorKWLives
import Derived.Test.YtnhndamfbeiljaaGreatDoorGSwX
import Derived.Lib.AppendIntMem
import Derived.Test.YtnhndamfbeiljaaGreatDoorGSwM
import Derived.Lib.ItoaLen
namespace Go.Proofs.YtnhndamfbeiljaaGreatDoor
open Go Go.RowKit
set_option linter.unusedVariables false
set_option linter.unusedSimpArgs false
namespace Sw
theorem treeK : ∀ {f : Nat} {w w' : World} {v : Value} {t : Tr}, TreeAt f w v t → Below w.heap.size w w' → TreeAt f w' v t := by
  intro f
  induction f with
  | zero => intro w w' v t h; exact h.elim
  | succ f ih =>
    intro w w' v t h hb
    obtain ⟨nm, i, re, im, args⟩ := t
    obtain ⟨av, rfl, a, b, c, h1⟩ := h
    exact ⟨av, rfl, a, b, c, h1.mono hb (fun u x _ hu => ih hu hb)⟩
theorem showTree2 (f : Nat) (w : World) (htab : Lib.TabIs Tryz.prog w "internal/strconv.uint64pow10" .u64 Lib.pow10Tab) (v : Value) (x : Tr) (hx : TreeAt f w v x) (TX : List UInt8) (hrun : ∃ k, Run [.tree f x] TX k) (hl : TX.length ≤ 1000000) :
    Calls Tryz.prog 19 #[v] w fun e w' => e = .returned (.string ⟨TX.toArray⟩) ∧ Below w.heap.size w w' := by
  obtain ⟨k0, hrun⟩ := hrun
  exact showTree_any f w htab v x (fun w0 h => by subst h; exact hx) TX k0 hrun hl (fun w0 o h => by subst h; exact treeK hx ((Below.refl _ _).alloc (Nat.le_refl _) _))

def numV (n : Int) : Value := .agg #[.string ⟨#[]⟩, .int .i64 n, .int .i64 0, .int .i64 0, .slice none 0 0]
def numT (n : Int) : Tr := .mk [] n 0 0 []
def wantT (nm : List UInt8) (ns : List Int) : List UInt8 := 40 :: (nm ++ ns.flatMap fun n => 32 :: Lib.itoa n)
theorem want_take (nm : List UInt8) (ns : List Int) (k : Nat) (n : Int) (h : ns[k]? = some n) : wantT nm (ns.take (k + 1)) = wantT nm (ns.take k) ++ ([32] ++ Lib.itoa n) := by
  unfold wantT; rw [List.take_add_one, h]; simp
theorem want_joined (nm : List UInt8) (ns : List Int) : joined (nm :: ns.map Lib.itoa) = wantT nm ns ++ [41] := by
  unfold joined wantT glue; simp [List.flatMap_map]
theorem itoa_len21 (n : Int) (h : I64 n) : (Lib.itoa n).length ≤ 21 := Lib.itoa_length_le n h.1 h.2
theorem want_len (nm : List UInt8) : ∀ (ns : List Int), (∀ n ∈ ns, I64 n) → (wantT nm ns).length ≤ nm.length + 22 * ns.length + 1 := by
  intro ns h
  have : (ns.flatMap fun n => 32 :: Lib.itoa n).length ≤ 22 * ns.length := by
    induction ns with
    | nil => simp
    | cons a r ih =>
      have h1 := itoa_len21 a (h a (by simp))
      have h2 := ih (fun n hn => h n (by simp [hn]))
      simp only [List.flatMap_cons, List.length_append, List.length_cons]; omega
  simp only [wantT, List.length_cons, List.length_append]; omega
theorem num_at (w : World) (n : Int) (h : I64 n) : TreeAt 1 w (numV n) (numT n) := ⟨_, rfl, h, ⟨by decide, by decide⟩, ⟨by decide, by decide⟩, row_nil _ _ _⟩
theorem num_run (f : Nat) (n : Int) : ∃ k, Run [Nd.tree (f + 1) (numT n)] (Lib.itoa n) k := run_text (by simp [step, numT])
theorem cells_nums (ns : List Int) : ∀ v ∈ ns.map numV, v.cells.size = 5 := by
  intro v hv; obtain ⟨n, _, rfl⟩ := List.mem_map.1 hv; rfl
theorem cells_snoc (ns : List Int) (n : Int) : cellsOf ((ns ++ [n]).map numV) = cellsOf (ns.map numV) ++ [.string ⟨#[]⟩, .int .i64 n, .int .i64 0, .int .i64 0, .slice none 0 0] := by simp [cellsOf, numV, Value.cells]
theorem reps_nums (w : World) : ∀ (ns : List Int), (∀ n ∈ ns, I64 n) → Reps (TreeAt 1 w) (ns.map numV) (ns.map numT)
  | [], _ => trivial
  | a :: r, h => ⟨num_at w a (h a (by simp)), reps_nums w r fun n hn => h n (by simp [hn])⟩
theorem rowk_row {α : Type} {E sz lo n : Nat} {rep : Value → α → Prop} {w : World} {v : Value} {vs : List Value} {xs : List α} (h : w.ownsRow lo E sz v n (cellsOf vs)) (hn : n = xs.length) (hr : Reps rep vs xs) (hs : ∀ v ∈ vs, v.cells.size = sz) (hsz : 0 < sz) : RowAt sz rep w v xs := (rowk_own h hn hr hs hsz).row

/-- Numbers as they lie. -/
def Nums64 (w : World) (v : Value) (ns : List Int) : Prop := (∀ n ∈ ns, I64 n) ∧ ((ns = [] ∧ ∃ p c, v = .slice p 0 c) ∨ ∃ b o c, v = .slice (some ⟨b, o, none⟩) ns.length c ∧ ns.length ≤ c ∧ (c : Int) ≤ 9223372036854775807 ∧ ∀ (i : Nat) (n : Int), ns[i]? = some n → w.cell? ⟨b, o + i, none⟩ = some (.int .i64 n))
theorem Nums64.len {w : World} {v : Value} {ns : List Int} (h : Nums64 w v ns) : ∃ p c, v = .slice p ns.length c := by
  rcases h.2 with ⟨rfl, p, c, rfl⟩ | ⟨b, o, c, h, _⟩
  · exact ⟨p, c, rfl⟩
  · exact ⟨_, c, h⟩

set_option maxHeartbeats 4000000 in
set_option maxRecDepth 100000 in
theorem showNumbers_walk (w : World) (htab : Lib.TabIs Tryz.prog w "internal/strconv.uint64pow10" .u64 Lib.pow10Tab) (nm : List UInt8) (v : Value) (ns : List Int) (hn : Nums64 w v ns) :
    Calls Tryz.prog 6 #[.string ⟨nm.toArray⟩, v] w fun e w' => e = .returned (.bool true) ∧ Below w.heap.size w w' := by
  obtain ⟨q, c, rfl⟩ := hn.len
  have HN := Lib.hid hn
  have HTAB := Lib.hid htab
  have HTB := Lib.hid (fun (w' : World) (h : Below w.heap.size w w') => (Lib.tabBelow_of_tabIs htab) w' h)
  clear hn htab
  obtain ⟨i0, hi, hz0, hz1, hz2⟩ := info_parts (show (Tryz.prog.info? 58).map (fun i => (i.zero, i.size, i.bytes)) = some (some (.agg #[.string ⟨#[]⟩, .int .i64 0, .int .i64 0, .int .i64 0, .slice none 0 0]), 5, 64) by kernel_rfl)
  have I := Lib.hid hi; have I0 := Lib.hid hz0; have I1 := Lib.hid hz1; have I2 := Lib.hid hz2
  clear hi hz0 hz1 hz2
  go_enter Tryz.func6, Tryz.ntmps6
  go_wp2_with fail
  refine (lives_any _ HTAB.out).mono ?_
  rintro e w1 ⟨rfl, hb1⟩
  have HB1 := Lib.hid hb1
  clear hb1
  by_cases c1 : 30 < ns.length
  · have f1 : decide ((30 : Int) < (ns.length : Int)) = true := by simp; omega
    clear c1
    go_wp2_with fail
    refine (lives_any _ (HTB.out _ HB1.out)).mono ?_
    rintro e w2 ⟨rfl, hb2⟩
    go_wp2_with fail
    go_ret
    exact ⟨rfl, HB1.out.trans (hb2.mono HB1.out.size)⟩
  have f1 : decide ((30 : Int) < (ns.length : Int)) = false := by simp; omega
  have C1 := Lib.hid c1
  clear c1
  by_cases c2 : 20 < nm.length
  · have f2 : decide ((20 : Int) < (nm.length : Int)) = true := by simp; omega
    clear c2
    go_wp2_with fail
    refine (lives_any _ (HTB.out _ HB1.out)).mono ?_
    rintro e w2 ⟨rfl, hb2⟩
    go_wp2_with fail
    go_ret
    exact ⟨rfl, HB1.out.trans (hb2.mono HB1.out.size)⟩
  have f2 : decide ((20 : Int) < (nm.length : Int)) = false := by simp; omega
  have C2 := Lib.hid c2
  clear c2
  by_cases c3 : nm = []
  · subst c3
    clear f2
    go_wp2_with fail
    refine (lives_any _ (HTB.out _ HB1.out)).mono ?_
    rintro e w2 ⟨rfl, hb2⟩
    go_wp2_with fail
    go_ret
    exact ⟨rfl, HB1.out.trans (hb2.mono HB1.out.size)⟩
  have f3 : nm.isEmpty = false := by simpa using c3
  have f3b : (nm == []) = false := by simpa using c3
  have C3 := Lib.hid c3
  clear c3
  by_cases c4 : nm = [99, 112, 120]
  · subst c4
    clear f2 f3 f3b
    go_wp2_with fail
    refine (lives_any _ (HTB.out _ HB1.out)).mono ?_
    rintro e w2 ⟨rfl, hb2⟩
    go_wp2_with fail
    go_ret
    exact ⟨rfl, HB1.out.trans (hb2.mono HB1.out.size)⟩
  have f4 : (nm == [99, 112, 120]) = false := by simpa using c4
  have C4 := Lib.hid c4
  clear c4
  have s1 := fun (w : World) => sum_text (w := w) [40] nm (by have := C2.out; simp only [List.length_cons, List.length_nil]; omega)
  go_wp2_with fail
  have EX := Lib.hid (ent_new w1 #[.string ⟨nm.toArray⟩, .int .i64 0, .int .i64 0, .int .i64 0, .slice none 0 0] 58)
  have HB := Lib.hid (HB1.out.trans ((show Below w1.heap.size w1 (w1.alloc (.cells #[.string ⟨nm.toArray⟩, .int .i64 0, .int .i64 0, .int .i64 0, .slice none 0 0] 58)) from (Below.refl _ _).alloc (Nat.le_refl _) _).mono HB1.out.size))
  have hs1 := HB1.out.size
  obtain ⟨tb, htb⟩ : ∃ tb, tb = w1.heap.size := ⟨_, rfl⟩
  rw [← htb] at EX ⊢
  have htb2 : w.heap.size ≤ tb := by omega
  generalize w1.alloc (.cells #[.string ⟨nm.toArray⟩, .int .i64 0, .int .i64 0, .int .i64 0, .slice none 0 0] 58) = w2 at EX HB ⊢
  have HS1 := Lib.hid s1
  clear htb hs1 HB1 s1 f1 f2 f3 f3b f4
  go_loopw [6, 36] (fun sv i wr => ∃ (k : Nat) (p : Option Addr) (d : Nat) (S : List UInt8), i = .int .i64 k ∧ k ≤ ns.length ∧ sv = .string ⟨S.toArray⟩ ∧ Hid (S = wantT nm (ns.take k)) ∧ Hid (wr.heap[tb]? = some (.cells #[.string ⟨nm.toArray⟩, .int .i64 0, .int .i64 0, .int .i64 0, .slice p k d] 58 (0, 0))) ∧
    Hid (wr.ownsRow (tb + 1) 58 5 (.slice p k d) k (cellsOf ((ns.take k).map numV))) ∧ Hid (Below w.heap.size w wr)) (fun _ i _ => ns.length - (intOf i).toNat)
  case atStart => exact ⟨0, none, 0, 40 :: nm, rfl, Nat.zero_le _, rfl, Lib.hid (by simp [wantT]), EX, Lib.hid (World.ownsRow_nil _ _ _ _), HB⟩
  case round =>
    clear EX HB
    obtain ⟨k, p, d, S, rfl, hk, rfl, HS, EX, HO, HB⟩ := hrel
    have htl := ent_lt EX.out
    have hSl : S.length ≤ 700 := by
      have h1 := want_len nm (ns.take k) (fun n hn => HN.out.1 n (List.mem_of_mem_take hn))
      have := C1.out; have := C2.out
      rw [HS.out]; rw [List.length_take] at h1; omega
    by_cases hlt : k < ns.length
    · obtain ⟨n, hn1⟩ : ∃ n, ns[k]? = some n := ⟨_, List.getElem?_eq_getElem hlt⟩
      have hI := HN.out.1 n (List.mem_of_getElem? hn1)
      have HT := Lib.hid (want_take nm ns k n hn1)
      have HTK : Hid (ns.take (k + 1) = ns.take k ++ [n]) := Lib.hid (by rw [List.take_add_one, hn1]; rfl)
      rcases HN.out.2 with ⟨h0, _⟩ | ⟨b, o, c', hv, e1, e2, e3⟩
      · rw [h0] at hlt; simp at hlt
      injection hv with q1 _ q2
      subst q1; subst q2
      have hc := e3 k n hn1
      have x0 : wr.cell? ⟨b, o + k, none⟩ = some (.int .i64 n) := (HB.out.cell (World.block_lt_of_cell? w _ hc)).trans hc
      have y4 := ent_cell EX.out 4 (.slice p k d) rfl
      have k1 : (k : Int) < (ns.length : Int) := by omega
      have k2 : (ns.length : Int) ≤ (c : Int) := by omega
      have k3 := e2
      have HI := Lib.hid hI
      have HSL := Lib.hid hSl
      clear e1 e2 e3 hn1 hc hI hSl
      go_wp2_with (at_builtin; refine wpList_append_loc _ rfl (.tmp 41) (.tmp 44) 56 rfl (tb + 1) 58 i0 _ 5 64 Tryz.underlying56 I.out I0.out I1.out I2.out rfl (by decide) _ k _ rfl (HO.out.alloc _) ⟨wr.heap.size, 0, none⟩ 1 1 [.string ⟨#[]⟩, .int .i64 n, .int .i64 0, .int .i64 0, .slice none 0 0] rfl (by decide) rfl ?c1 ?c2 ?c3 ?c4 ?c5 ?_)
      case c2 => simp [Value.oneCell']
      case c3 => unfold maxLen; have := C1.out; omega
      case c4 => have := C1.out; omega
      case c5 => omega
      intro v' w' h1 h2 h3
      have hbw : Below w.heap.size w w' := (HB.out.alloc (by have := HB.out.size; omega) _).grown h2 (by have := HB.out.size; simp; omega) (fun j hj => by have := (own_ent HO.out hj).1; omega)
      have hex : w'.heap[tb]? = some (.cells #[.string ⟨nm.toArray⟩, .int .i64 0, .int .i64 0, .int .i64 0, .slice p k d] 58 (0, 0)) := by
        refine (h2.block tb (by simp; omega) (fun e => ?_)).trans (ent_alloc EX.out _)
        have := (own_ent HO.out e.symm).1
        omega
      obtain ⟨p7, d7, rfl⟩ := own_sl h1
      have hne : (Value.slice p7 (k + 1) d7).ownBlock ≠ some tb := fun e => by have := (own_ent h1 e).1; omega
      have HEX := Lib.hid (show (w'.setCell ⟨tb, 4, none⟩ (.slice p7 (k + 1) d7)).heap[tb]? = some (.cells #[.string ⟨nm.toArray⟩, .int .i64 0, .int .i64 0, .int .i64 0, .slice p7 (k + 1) d7] 58 (0, 0)) from ent_set hex 4 _)
      have HO2 : Hid ((w'.setCell ⟨tb, 4, none⟩ (.slice p7 (k + 1) d7)).ownsRow (tb + 1) 58 5 (.slice p7 (k + 1) d7) (k + 1) (cellsOf ((ns.take (k + 1)).map numV))) := Lib.hid (by
        rw [HTK.out, cells_snoc, List.map_take]
        exact h1.kept (row := some tb) ⟨rfl, rfl, rfl, by simp [World.setCell], fun j _ hj => Below.heap_setCell w' ⟨tb, 4, none⟩ (.slice p7 (k + 1) d7) j (fun e => hj (congrArg some e.symm).symm)⟩ (Or.inr hne))
      have HB2 := Lib.hid (show Below w.heap.size w (w'.setCell ⟨tb, 4, none⟩ (.slice p7 (k + 1) d7)) from hbw.setCell (p := ⟨tb, 4, none⟩) htb2 _)
      have y4b := ent_cell hex 4 (.slice p k d) rfl
      have yfb := ent_free hex 4
      clear h1 h2 h3 hbw hex hne y4 x0
      go_wp2_with fail
      clear y4b yfb
      generalize w'.setCell ⟨tb, 4, none⟩ (.slice p7 (k + 1) d7) = w3 at HEX HO2 HB2 ⊢
      refine (showTree2 1 w3 (HTB.out _ HB2.out) _ (numT n) (num_at w3 n HI.out) (Lib.itoa n) (num_run 0 n) (by have := itoa_len21 n HI.out; omega)).mono ?_
      rintro e w4 ⟨rfl, hb4⟩
      have HB4 := Lib.hid (HB2.out.trans (hb4.mono HB2.out.size))
      have HEX4 := Lib.hid (ent_below HEX.out hb4)
      have HO4 := Lib.hid (own_kept HO2.out hb4)
      have hil := itoa_len21 n HI.out
      have HTT := Lib.hid (show wantT nm (ns.take (k + 1)) = S ++ ([32] ++ Lib.itoa n) by rw [HT.out, HS.out])
      clear hb4
      obtain ⟨X, hX⟩ : ∃ X, X = Lib.itoa n := ⟨_, rfl⟩
      rw [← hX] at hil HTT ⊢
      clear hX
      have z1 := fun (w : World) => sum_text (w := w) [32] X (by simp only [List.length_cons, List.length_nil]; omega)
      have z2 := fun (w : World) => sum_text (w := w) S (32 :: X) (by have := HSL.out; simp only [List.length_append, List.length_cons, List.length_nil]; omega)
      go_wp2_with fail
      exact ⟨⟨k + 1, p7, d7, S ++ 32 :: X, by go_num, by omega, rfl, Lib.hid HTT.out.symm, HEX4, HO4, HB4⟩, by simp [intOf]; omega⟩
    · obtain rfl : k = ns.length := by omega
      have HS2 : Hid (S = wantT nm ns) := Lib.hid (by have := HS.out; rwa [List.take_length] at this)
      have HO2 : Hid (wr.ownsRow (tb + 1) 58 5 (.slice p ns.length d) ns.length (cellsOf (ns.map numV))) := Lib.hid (by have := HO.out; rwa [List.take_length] at this)
      have y0 := ent_cell EX.out 0 (.string ⟨nm.toArray⟩) rfl
      have y1 := ent_cell EX.out 1 (.int .i64 0) rfl
      have y2 := ent_cell EX.out 2 (.int .i64 0) rfl
      have y3 := ent_cell EX.out 3 (.int .i64 0) rfl
      have y4 := ent_cell EX.out 4 (.slice p ns.length d) rfl
      have hnl : ∀ u : World, Reps (TreeAt 1 u) (ns.map numV) (ns.map numT) := fun u => reps_nums u ns HN.out.1
      have hat : TreeAt 2 wr (.agg #[.string ⟨nm.toArray⟩, .int .i64 0, .int .i64 0, .int .i64 0, .slice p ns.length d]) (.mk nm 0 0 0 (ns.map numT)) :=
        ⟨_, rfl, ⟨by decide, by decide⟩, ⟨by decide, by decide⟩, ⟨by decide, by decide⟩, rowk_row HO2.out (by simp) (hnl wr) (cells_nums ns) (by decide)⟩
      have hrun : ∃ j, Run [Nd.tree 2 (.mk nm 0 0 0 (ns.map numT))] (if ns.map Lib.itoa = [] then nm else joined (nm :: ns.map Lib.itoa)) j := by
        refine run_named (l := (ns.map numT).map (Nd.tree 1)) C3.out (by simp only [step]; rw [if_neg C3.out, if_neg C4.out]) ?_
        rw [List.map_map]
        exact Texts.map _ _ ns fun n _ => num_run 0 n
      have HAT := Lib.hid hat
      have HRUN := Lib.hid hrun
      have HSL := Lib.hid hSl
      clear hat hrun hnl hSl
      by_cases h0 : ns = []
      · subst h0
        have HR0 : Hid (∃ j, Run [Nd.tree 2 (.mk nm 0 0 0 (([] : List Int).map numT))] nm j) := Lib.hid HRUN.out
        clear HRUN
        go_wp2_with fail
        refine (showTree2 2 wr (HTB.out _ HB.out) _ _ HAT.out nm HR0.out (by have := C2.out; omega)).mono ?_
        rintro e w4 ⟨rfl, hb4⟩
        go_wp2_with fail
        go_ret
        exact ⟨by simp, HB.out.trans (hb4.mono HB.out.size)⟩
      · have h0l : ((ns.length : Int) == 0) = false := by have := List.length_pos_iff.2 h0; simpa using (show ¬ (ns.length : Int) = 0 by omega)
        have h0m : ¬ (ns.length : Int) = 0 := by have := List.length_pos_iff.2 h0; omega
        have HR1 : Hid (∃ j, Run [Nd.tree 2 (.mk nm 0 0 0 (ns.map numT))] (S ++ [41]) j) := Lib.hid (by have := HRUN.out; rw [if_neg (by simpa using h0), want_joined, ← HS2.out] at this; exact this)
        clear HRUN h0
        go_wp2_with fail
        refine (showTree2 2 wr (HTB.out _ HB.out) _ _ HAT.out (S ++ [41]) HR1.out (by have := HSL.out; simp only [List.length_append, List.length_cons, List.length_nil]; omega)).mono ?_
        rintro e w4 ⟨rfl, hb4⟩
        have z2 := fun (w : World) => sum_text (w := w) S [41] (by have := HSL.out; simp only [List.length_cons, List.length_nil]; omega)
        have HB4 := Lib.hid (HB.out.trans (hb4.mono HB.out.size))
        clear hb4
        go_wp2_with fail
        go_ret
        exact ⟨by simp, HB4.out⟩
end Sw
end Go.Proofs.YtnhndamfbeiljaaGreatDoor
