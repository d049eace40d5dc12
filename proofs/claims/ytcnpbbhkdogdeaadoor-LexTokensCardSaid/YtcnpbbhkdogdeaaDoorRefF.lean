/-
  The document's answers, layer 1: Tokens, Same.
-/
import Derived.Test.YtcnpbbhkdogdeaaDoorRefE
import Derived.Deep.QuietTactic
import Derived.BigQuiet
import Derived.WalkSmall
namespace Go.Proofs.YtcnpbbhkdogdeaaDoor
open Go Go.RowKit

/-- What Tokens answers of a text. -/
def TkCase (l : List UInt8) (ts : List Lx.Tok) (p c : Int) : Prop :=
  (4096 < l.length ∧ ts = [] ∧ p = 4096 ∧ c = 2) ∨ (l.length ≤ 4096 ∧ (∃ q, (Lx.toks (l.length + 1) 0 l).2 = some q ∧ ts = [] ∧ p = q ∧ c = 2)) ∨ (l.length ≤ 4096 ∧ (Lx.toks (l.length + 1) 0 l) = (ts, none) ∧ p = -1 ∧ c = 0)

theorem refSkip_int (l : List UInt8) (i : Int) (w : World) (h : 0 ≤ i) (ha : i ≤ l.length) (hm : l.length ≤ 1000000) :
    Calls Tryd.prog 17 #[.string ⟨l.toArray⟩, .int .i64 i] w fun e w' => e = .returned (.int .i64 ((i.toNat + Lx.skipC false (l.drop i.toNat) : Nat) : Int)) ∧ w = w' := by
  obtain ⟨k, rfl⟩ := Int.eq_ofNat_of_zero_le h
  rw [Int.toNat_natCast]
  exact refSkip_any l k w (by omega) hm

def RtPost (l : List UInt8) (w : World) (e : Ending) (w' : World) : Prop :=
  ∃ (v : Value) (ts : List Lx.Tok) (p c : Int), e = .returned (.tuple #[v, .int .i64 p]) ∧ Below w.heap.size w w' ∧ w'.ownsRow w.heap.size 33 4 v ts.length (toksCells ts) ∧ TkCase l ts p c

set_option maxHeartbeats 2000000 in
set_option maxRecDepth 100000 in
theorem refTokens_any (l : List UInt8) (w : World) (hm : l.length ≤ 1000000) :
    Calls Tryd.prog 11 #[.string ⟨l.toArray⟩] w (RtPost l w) := by
  go_enter Tryd.func11, Tryd.ntmps11
  by_cases hlong : 4096 < l.length
  · have hl : (4096 : Int) < (l.length : Int) := by omega
    go_wp2_with fail
    go_ret2
    exact ⟨_, [], 4096, 2, rfl, Below.refl _ _, World.ownsRow_nil _ _ _ _, .inl ⟨hlong, rfl, rfl, rfl⟩⟩
  · have hl : ¬ (4096 : Int) < (l.length : Int) := by omega
    have HR0 := Lib.hid (tkR_start l)
    go_wp2_with fail
    refine (refSkip_int l 0 _ (by omega) (by omega) hm).mono ?_; rintro e w1 ⟨rfl, rfl⟩
    have h00 : (0 : Int).toNat = 0 := rfl
    rw [h00, Nat.zero_add]
    clear h00
    go_wp2_with fail
    go_loopw [4, 5] (fun v i wr => ∃ (E A : Nat) (done : List Lx.Tok), i = .int .i64 A ∧ Hid (E + Lx.skipC false (l.drop E) = A) ∧ Hid (TkR l done E) ∧ E ≤ l.length ∧ done.length ≤ E ∧ Below w.heap.size w wr ∧ Hid (wr.ownsRow w.heap.size 33 4 v done.length (toksCells done))) (fun _ i _ => l.length - (intOf i).toNat)
    case atStart => exact ⟨0, _, [], rfl, Lib.hid (by rw [List.drop_zero, Nat.zero_add]), HR0, by omega, by simp, Below.refl _ _, Lib.hid (World.ownsRow_nil _ _ _ _)⟩
    case round =>
      obtain ⟨E, A, done, rfl, hA, hR, hE, hd, hb, ho⟩ := hrel
      obtain ⟨hAl, hEA, hend, hbad, hmore⟩ := tk_step hR.out hE hA.out
      have HB := Lib.hid hb
      have hsz := hb.size
      have HEND := Lib.hid hend; have HBAD := Lib.hid hbad; have HMORE := Lib.hid hmore
      clear hb hend hbad hmore
      by_cases hlt : A < l.length
      · go_wp2_with fail
        refine (one_any l A _ hlt hm).mono ?_
        rintro e w2 ⟨hb2, ⟨h0, k, p, s, i, rfl⟩ | ⟨h0, t, ht, rfl⟩⟩
        · have HB2 := Lib.hid (HB.out.trans (hb2.mono hsz))
          have hs2 := HB2.out.size
          have HBD := Lib.hid (HBAD.out hlt h0)
          clear hb2 h0
          go_wp2_with fail
          go_ret2
          exact ⟨_, [], A, 2, rfl, HB2.out.alloc hs2 _, World.ownsRow_nil _ _ _ _, .inr (.inl ⟨by omega, A, HBD.out, rfl, rfl, rfl⟩)⟩
        · have hown2 := own_kept ho.out hb2
          have HB2 := Lib.hid (HB.out.trans (hb2.mono hsz))
          have hs2 := HB2.out.size
          have hmore := HMORE.out hlt h0
          have hle := Lx.tokAt_le (l.drop A)
          rw [List.length_drop] at hle
          have hlen : t.text.length = (Lx.tokAt (l.drop A)).2 := by rw [ht]; show ((l.drop A).take _).length = _; rw [List.length_take, List.length_drop]; omega
          rw [← ht, ← hlen] at hmore
          have hpos : t.pos = A := by rw [ht]; rfl
          have hlt1 : 0 < t.text.length := by omega
          have hle1 : A + t.text.length ≤ l.length := by omega
          obtain ⟨i0, hi, hz0, hz1, hz2⟩ := info_parts info33
          have HI1 := Lib.hid hz1; have HI2 := Lib.hid hz2; have HI0 := Lib.hid hz0; have HI := Lib.hid hi
          have Hown2 := Lib.hid hown2; have HM := Lib.hid hmore; have HTT := Lib.hid ht; have HP := Lib.hid hpos; have HLN := Lib.hid hlen
          have hdl : done.length ≤ 4096 := by omega
          clear hi hz0 hz1 hz2 hb2 hown2 h0 hmore hle hlen ht hpos
          go_wp2_with (at_builtin; refine wpList_append_own _ rfl (.tmp 26) (.tmp 28) 24 rfl w.heap.size 33 i0 (.agg #[.int .i64 0, .int .i64 0, .string ⟨#[]⟩, .int .i64 0]) 4 40 Tryd.underlying24 HI.out HI0.out HI1.out HI2.out rfl (by decide) _ done.length _ rfl ((Hown2.out.alloc _).alloc _) ⟨w2.heap.size + 1, 0, none⟩ 1 1 [.int .i64 t.kind, .int .i64 t.pos, .string ⟨t.text.toArray⟩, .int .i64 t.int] rfl rfl ?c1 ?c2 ?c3 ?c4 ?c5 ?_)
          case c1 =>
            intro j u h
            have h' := four_at (w2.alloc (.cells #[.int .i64 t.kind, .int .i64 t.pos, .string ⟨t.text.toArray⟩, .int .i64 t.int] 33)) _ _ _ _ 33 j u h
            rw [show (w2.alloc (.cells #[.int .i64 t.kind, .int .i64 t.pos, .string ⟨t.text.toArray⟩, .int .i64 t.int] 33)).heap.size = w2.heap.size + 1 by simp] at h'
            exact h'
          case c2 => exact four_one _ _ _ _
          case c3 => unfold maxLen; omega
          case c4 => omega
          case c5 => simp; omega
          intro v' w3 hown3 hgr _
          have c0 : ((w2.alloc (.cells #[.int .i64 t.kind, .int .i64 t.pos, .string ⟨t.text.toArray⟩, .int .i64 t.int] 33)).alloc (.cells #[.int .i64 t.kind, .int .i64 t.pos, .string ⟨t.text.toArray⟩, .int .i64 t.int] 33)).cell? ⟨w2.heap.size, 2, none⟩ = some (.string ⟨t.text.toArray⟩) := by
            rw [World.cell?_alloc_past _ _ _ (by simp), World.cell?_alloc_mark]; rfl
          have c2 := hgr.cell c0 (by intro e; have := (Hown2.out.lt w2.heap.size e.symm).2; simp at this)
          have hB3 := ((HB2.out.alloc hs2 (.cells #[.int .i64 t.kind, .int .i64 t.pos, .string ⟨t.text.toArray⟩, .int .i64 t.int] 33)).alloc (by simp; omega) (.cells #[.int .i64 t.kind, .int .i64 t.pos, .string ⟨t.text.toArray⟩, .int .i64 t.int] 33)).grown hgr (by simp; omega) (fun kk hkk => (Hown2.out.lt kk hkk).1)
          have hcs : toksCells done ++ [.int .i64 t.kind, .int .i64 t.pos, .string ⟨t.text.toArray⟩, .int .i64 t.int] = toksCells (done ++ [t]) := by simp [toksCells, tokCells]
          rw [hcs] at hown3
          have HB3 := Lib.hid hB3; have HO3 := Lib.hid hown3
          clear hgr hB3 hown3 c0 hcs
          go_wp2_with fail
          refine (refSkip_int l _ _ (by omega) (by omega) hm).mono ?_; rintro e w4 ⟨rfl, rfl⟩
          have hto : ((A : Int) + (t.text.length : Int)).toNat = A + t.text.length := by omega
          rw [hto]
          have hsl := Lx.skipC_le false (l.drop (A + t.text.length))
          rw [List.length_drop] at hsl
          generalize hA' : A + t.text.length + Lx.skipC false (l.drop (A + t.text.length)) = A'
          have hA'2 : A < A' := by omega
          have hA'3 : A' ≤ l.length := by omega
          have HA' := Lib.hid hA'
          clear hto hsl hA'
          go_wp2_with fail
          go_roundw
          case rel => exact ⟨A + t.text.length, A', done ++ [t], rfl, HA', HM, hle1, by rw [List.length_append, List.length_singleton]; omega, HB3.out, Lib.hid (by rw [List.length_append]; exact HO3.out)⟩
          case measure => simp [intOf]; omega
      · obtain rfl : A = l.length := by omega
        have HED := Lib.hid (HEND.out rfl)
        go_wp2_with fail
        go_ret2
        exact ⟨_, done, -1, 0, rfl, HB.out, ho.out, .inr (.inr ⟨by omega, HED.out, rfl, rfl⟩)⟩

set_option maxHeartbeats 2000000 in
set_option maxRecDepth 100000 in
theorem same_any (ts : List Lx.Tok) (p q : Option Addr) (cp cq b1 b2 : Nat) (w : World) (hl : ts.length ≤ 1000000)
    (hp : w.ownsRow b1 33 4 (.slice p ts.length cp) ts.length (toksCells ts)) (hq : w.ownsRow b2 33 4 (.slice q ts.length cq) ts.length (toksCells ts)) :
    Calls Tryd.prog 12 #[.slice p ts.length cp, .slice q ts.length cq] w fun e w' => e = .returned (.bool true) ∧ Below w.heap.size w w' := by
  have HP := Lib.hid (own_cells hp); have HQ := Lib.hid (own_cells hq)
  clear hp hq
  obtain ⟨n, hn⟩ : ∃ n, n = ts.length := ⟨_, rfl⟩
  rw [← hn]; rw [← hn] at hl
  have HN := Lib.hid hn; clear hn
  go_enter Tryd.func12, Tryd.ntmps12
  go_wp2_with fail
  go_loopw [5] (fun i wr => ∃ k : Nat, i = .int .i64 k ∧ k ≤ n ∧ Below w.heap.size w wr) (fun i _ => n - (intOf i).toNat)
  case atStart => exact ⟨0, rfl, by omega, Below.refl _ _⟩
  case round =>
    obtain ⟨k, rfl, hk, hb⟩ := hrel
    have HB := Lib.hid hb
    have hsz := hb.size
    clear hb
    by_cases hkn : k < n
    · obtain ⟨t, ht⟩ : ∃ t, ts[k]? = some t := ⟨_, List.getElem?_eq_getElem (by rw [← HN.out]; exact hkn)⟩
      obtain ⟨g, rfl, hg, C0, C1, C2, C3⟩ := HP.out k t ht
      obtain ⟨h, rfl, hh, D0, D1, D2, D3⟩ := HQ.out k t ht
      have c0 := (HB.out.cell (p := ⟨g, k * 4, none⟩) hg).trans C0
      have c1 := (HB.out.cell (p := ⟨g, k * 4 + 1, none⟩) hg).trans C1
      have c2 := (HB.out.cell (p := ⟨g, k * 4 + 2, none⟩) hg).trans C2
      have c3 := (HB.out.cell (p := ⟨g, k * 4 + 3, none⟩) hg).trans C3
      have d0 := (HB.out.cell (p := ⟨h, k * 4, none⟩) hh).trans D0
      have d1 := (HB.out.cell (p := ⟨h, k * 4 + 1, none⟩) hh).trans D1
      have d2 := (HB.out.cell (p := ⟨h, k * 4 + 2, none⟩) hh).trans D2
      have d3 := (HB.out.cell (p := ⟨h, k * 4 + 3, none⟩) hh).trans D3
      have hki : (k : Int) < (n : Int) := by omega
      clear C0 C1 C2 C3 D0 D1 D2 D3 ht
      go_wp2
      go_quiet (fail)
      go_wp2
      go_roundw
      case rel => exact ⟨k + 1, by go_num, by omega, below_drewN HB.out _⟩
      case measure => simp [intOf]; omega
    · obtain rfl : k = n := by omega
      go_wp2
      go_ret
      exact ⟨rfl, HB.out⟩
end Go.Proofs.YtcnpbbhkdogdeaaDoor
