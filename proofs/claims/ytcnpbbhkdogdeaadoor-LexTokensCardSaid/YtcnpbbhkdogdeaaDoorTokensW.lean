/-
  LexTokens: its walk.
-/
import Derived.Test.YtcnpbbhkdogdeaaDoorRefF
import Derived.Test.YtcnpbbhkdogdeaaDoorSrc
namespace Go.Proofs.YtcnpbbhkdogdeaaDoor
open Go Go.RowKit

theorem src_of_own {w : World} {base n : Nat} {v : Value} {l : List UInt8} (h : w.ownsRow base 5 1 v n (l.map byteV)) : SrcAt w v l := by
  have hl : l.length = n := by have := h.1; simpa using this
  rcases h.2 with ⟨rfl, rfl⟩ | ⟨g, cap, cur, rfl, hb, hh, hn, hm, hsz, htk⟩
  · exact .inl ⟨rfl, List.eq_nil_of_length_eq_zero hl⟩
  · refine .inr ⟨⟨g, 0, none⟩, cap, by rw [hl], fun j u hu => ?_⟩
    exact World.ownsRow.cells h rfl j u hu

theorem conv_src {W : World} {v : Value} {l : List UInt8} (h : SrcAt W v l) : (convert 22 9 v).run Tryd.prog W = .ok (.string ⟨l.toArray⟩) W := by
  rcases h with ⟨rfl, rfl⟩ | ⟨ad, c, rfl, h⟩
  · exact run_convert_bytes_nil (P := Tryd.prog) W 22 5 Tryd.underlying22 Tryd.underlying5 0 0 9 Tryd.underlying9
  · refine run_convert_bytes_back (P := Tryd.prog) W 22 9 5 ad c l Tryd.underlying22 Tryd.underlying5 Tryd.underlying9 (fun j hj => ?_)
    refine h j _ ?_
    rw [List.getElem?_map, List.getElem?_eq_getElem hj]; rfl

theorem case_same {l : List UInt8} {ts ts' : List Lx.Tok} {p p' c c' : Int} (h : TkCase l ts p c) (h' : TkCase l ts' p' c') :
    ts' = ts ∧ p' = p ∧ ((c = 2 ∧ 0 ≤ p ∧ p ≤ 1000000) ∨ (c = 0 ∧ p = -1)) ∧ ts.length ≤ 1000000 := by
  have hl := Lx.toks_len (l.length + 1) 0 l
  rcases h with ⟨h1, rfl, rfl, rfl⟩ | ⟨h1, q, h2, rfl, rfl, rfl⟩ | ⟨h1, h2, rfl, rfl⟩
  · rcases h' with ⟨_, rfl, rfl, rfl⟩ | ⟨h1', _⟩ | ⟨h1', _⟩
    · exact ⟨rfl, rfl, .inl ⟨rfl, by omega, by omega⟩, by simp⟩
    · omega
    · omega
  · have hq := Lx.toks_place _ _ _ _ h2
    rcases h' with ⟨h1', _⟩ | ⟨_, q', h2', rfl, rfl, rfl⟩ | ⟨_, h2', _⟩
    · omega
    · rw [h2] at h2'
      obtain rfl := Option.some.inj h2'
      exact ⟨rfl, rfl, .inl ⟨rfl, by omega, by omega⟩, by simp⟩
    · rw [h2'] at h2; simp at h2
  · rw [h2] at hl
    rcases h' with ⟨h1', _⟩ | ⟨_, q', h2', _⟩ | ⟨_, h2', rfl, rfl⟩
    · omega
    · rw [h2] at h2'; simp at h2'
    · rw [h2] at h2'
      simp only [Prod.mk.injEq, and_true] at h2'
      subst h2'
      exact ⟨rfl, rfl, .inr ⟨rfl, rfl⟩, by simp only [] at hl; omega⟩

set_option maxHeartbeats 2000000 in
set_option maxRecDepth 100000 in
theorem lexTokens_walk (w : World) (a0 : Option Addr) (len0 cap0 : Nat) (la : List UInt8)
    (hsa : SrcAt w (.slice a0 len0 cap0) la) (hla : la.length = len0) (hra : len0 ≤ 140737488351232) :
    Calls Tryd.prog 3 #[.slice a0 len0 cap0] w fun e w' => e = .returned (.bool true) ∧ Below w.heap.size w w' := by
  have HSA := Lib.hid hsa; have HLA := Lib.hid hla
  clear hsa hla
  go_enter Tryd.func3, Tryd.ntmps3
  go_wp2_with fail
  refine (lives_any _).mono ?_
  rintro e w1 ⟨rfl, hb1⟩
  have HB1 := Lib.hid hb1; clear hb1
  by_cases hlong : 6000 < len0
  · have hl2 : (6000 : Int) < (len0 : Int) := by omega
    go_wp2_with fail
    refine (lives_any _).mono ?_
    rintro e w2 ⟨rfl, hb2⟩
    have HB2 := Lib.hid (HB1.out.trans (hb2.mono HB1.out.size)); clear hb2
    go_wp2_with fail
    go_ret
    exact ⟨rfl, HB2.out⟩
  · have hl2 : ¬ (6000 : Int) < (len0 : Int) := by omega
    have ho0 := Lib.hid (own_empty w1)
    have hr1 := Lib.hid (show ([] : List UInt8).length + la.length ≤ 140737488355328 by rw [HLA.out, List.length_nil]; omega)
    have hs1 := HB1.out.size
    go_wp2_with (at_builtin; refine wpList_append_bytes rfl (.tmp 17) (.tmp 18) rfl w1.heap.size _ [] la rfl ho0.out _ rfl ((HSA.out.below HB1.out).below ((Below.refl _ _).alloc (Nat.le_refl _) _)) hr1.out (by simp) ?_)
    intro v2 w2 hown2 hg2
    have hB2 := (HB1.out.alloc hs1 (.cells #[] 5)).grown hg2 (by simp; omega) (fun k hk => by cases hk; exact hs1)
    have HB2 := Lib.hid hB2; have HO2 := Lib.hid hown2
    clear hB2 hown2 hg2 ho0
    go_wp2_with fail
    refine (tokens_any _ la _ (sliceAt_own HO2.out)).mono ?_
    rintro e w3 ⟨v3, ts, p, c, rfl, hB3, hown3, hcase⟩
    have hO23 := own_kept HO2.out hB3
    have HB3 := Lib.hid (HB2.out.trans (hB3.mono HB2.out.size))
    have HO3 := Lib.hid hown3; have HC3 : Hid (TkCase la ts p c) := Lib.hid hcase; have HO23 := Lib.hid hO23
    clear hB3 hown3 hcase hO23 HO2
    have hcv := conv_src (HSA.out.below HB3.out)
    go_wp2_with fail
    clear hcv
    refine (refTokens_any la _ (by rw [HLA.out]; omega)).mono ?_
    rintro e w4 ⟨v4, ts', p', c', rfl, hB4, hown4, hcase'⟩
    obtain ⟨rfl, rfl, hpc, htl⟩ := case_same HC3.out hcase'
    have hO24 := own_kept HO23.out hB4
    have hO34 := own_kept HO3.out hB4
    have HB4 := Lib.hid (HB3.out.trans (hB4.mono HB3.out.size))
    have HO24 := Lib.hid hO24; have HO34 := Lib.hid hO34; have HO4 := Lib.hid hown4
    clear hB4 hown4 hcase' hO24 hO34 HO3 HO23 HC3
    obtain ⟨q3, k3, rfl⟩ := own_len HO34.out
    obtain ⟨q4, k4, rfl⟩ := own_len HO4.out
    go_wp2_with fail
    refine (same_any ts' q3 q4 k3 k4 _ _ _ htl HO34.out HO4.out).mono ?_
    rintro e w5 ⟨rfl, hB5⟩
    have hO25 := own_kept HO24.out hB5
    have HB5 := Lib.hid (HB4.out.trans (hB5.mono HB4.out.size))
    have hcv1 := conv_src (src_of_own hO25)
    have hcv2 := conv_src (HSA.out.below HB5.out)
    clear hB5 hO25
    rcases hpc with ⟨rfl, hp0, hp1⟩ | ⟨rfl, rfl⟩
    · have hpn : decide (p' < 0) = false := by simp; omega
      go_wp2
      go_ret
      exact ⟨ret_bool (by simp <;> omega), HB5.out⟩
    · go_wp2
      go_ret
      exact ⟨rfl, HB5.out⟩

theorem lexTokens_row (w : World) (a0 : Option Addr) (len0 cap0 : Nat) (z0 : List Int) (w0 : IsRow .u8 w a0 len0 cap0 z0) :
    Calls Tryd.prog 3 #[.slice a0 len0 cap0] w fun e w' => e = .returned (.bool true) ∧ Below w.heap.size w w' := by
  obtain ⟨s0, _, l0, r0⟩ := row_src w0
  exact lexTokens_walk w a0 len0 cap0 _ s0 l0 r0
end Go.Proofs.YtcnpbbhkdogdeaaDoor
