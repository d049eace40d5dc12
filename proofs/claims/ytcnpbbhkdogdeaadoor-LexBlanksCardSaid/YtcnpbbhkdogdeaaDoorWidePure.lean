/-
  Tokens with blanks and notes ahead of each.
-/
import Derived.Test.YtcnpbbhkdogdeaaDoorPlacePure
namespace Go.Proofs.YtcnpbbhkdogdeaaDoor
namespace Lx

theorem cnt_sep (p : UInt8 → Bool) (c : UInt8) (hp : p c = false) (l : List UInt8) : ∀ r : List UInt8, cnt p (r ++ c :: l) = cnt p r
  | [] => by rw [List.nil_append, cnt_cons, cnt_nil, if_neg (by simp [hp])]
  | d :: r => by rw [List.cons_append, cnt_cons, cnt_cons, cnt_sep p c hp l r]
theorem at0_sep (r l : List UInt8) (c : UInt8) (k : Nat) (h : k < r.length) : at0 (r ++ c :: l) k = at0 r k := by
  unfold at0; rw [List.getD_eq_getElem?_getD, List.getD_eq_getElem?_getD, List.getElem?_append_left h]
theorem pred_sep (p : UInt8 → Bool) (c : UInt8) (h0 : p 0 = false) (hc : p c = false) (r l : List UInt8) (k : Nat) (h : k ≤ r.length) : p (at0 (r ++ c :: l) k) = p (at0 r k) := by
  rcases Nat.lt_or_ge k r.length with h' | h'
  · rw [at0_sep r l c k h']
  · obtain rfl : k = r.length := by omega
    have e : at0 (r ++ c :: l) r.length = c := by
      unfold at0; rw [List.getD_eq_getElem?_getD, List.getElem?_append_right (Nat.le_refl _)]; simp
    rw [e, at0_out r _ (Nat.le_refl _), h0, hc]

theorem tokAt_sep (c : UInt8) (hd : digitB c = false) (hw : wordB c = false) (h6 : c.toNat ≠ 62) (r l : List UInt8) (hr : 0 < r.length) : tokAt (r ++ c :: l) = tokAt r := by
  have hww : ∀ k, k ≤ r.length → wordB (at0 (r ++ c :: l) k) = wordB (at0 r k) := fun k h => pred_sep wordB c (by decide) hw r l k h
  have hd1 : digitB (at0 (r ++ c :: l) 1) = digitB (at0 r 1) := pred_sep digitB c (by decide) hd r l 1 (by omega)
  have h62 : ((at0 (r ++ c :: l) 1).toNat = 62) ↔ ((at0 r 1).toNat = 62) := by
    have := pred_sep (fun x => x.toNat == 62) c (by decide) (by simp [h6]) r l 1 (by omega)
    rw [Bool.eq_iff_iff] at this
    simpa using this
  have hc0 := at0_sep r l c 0 hr
  have hdr : (r ++ c :: l).drop 1 = r.drop 1 ++ c :: l := by rw [List.drop_append]; simp; rw [show 1 - r.length = 0 from by omega]; rfl
  have hcd := cnt_sep digitB c hd l r
  have hcd1 := cnt_sep digitB c hd l (r.drop 1)
  have hcw1 := cnt_sep wordB c hw l (r.drop 1)
  have hl1 := cnt_le digitB (r.drop 1)
  rw [List.length_drop] at hl1
  have hl0 := cnt_le digitB r
  unfold tokAt num
  simp only []
  rw [hdr, hc0, hd1, hcd, hcd1, hcw1, hww _ (by omega), hww _ (by omega)]
  by_cases h : (at0 r 1).toNat = 62
  · rw [if_pos h, if_pos (h62.2 h)]
  · rw [if_neg h, if_neg (fun h' => h (h62.1 h'))]

/-- A token whose text alone is that token. -/
def Lone (t : Tok) : Prop := tokAt t.text = (t.kind, t.text.length) ∧ skipC false t.text = 0 ∧ t.text ≠ [] ∧ t = mkTok t.pos t.kind t.text

def wide (note : List UInt8) (ts : List Tok) : List UInt8 := ts.flatMap fun t => [32, 59] ++ note ++ [10, 9] ++ t.text

theorem skip_note_line (note X : List UInt8) (h : ∀ c ∈ note, c.toNat ≠ 10) : skipC true (note ++ [10, 9] ++ X) = note.length + 2 + skipC false X := by
  induction note with
  | nil => show skipC false (9 :: X) + 1 = _; rw [show skipC false (9 :: X) = skipC false X + 1 from rfl]; simp; omega
  | cons c r ih =>
    have hc := h c (by simp)
    have := ih (fun d hd => h d (by simp [hd]))
    show skipC true (c :: (r ++ [10, 9] ++ X)) = _
    rw [skipC, if_neg hc, this, List.length_cons]; omega

theorem skip_pre (note X : List UInt8) (h : ∀ c ∈ note, c.toNat ≠ 10) : skipC false ([32, 59] ++ note ++ [10, 9] ++ X) = note.length + 4 + skipC false X := by
  have e : [32, 59] ++ note ++ [10, 9] ++ X = 32 :: 59 :: (note ++ [10, 9] ++ X) := by simp
  rw [e, show skipC false (32 :: 59 :: (note ++ [10, 9] ++ X)) = skipC true (note ++ [10, 9] ++ X) + 1 + 1 from rfl, skip_note_line note X h]; omega

theorem lone_head (t : Tok) (h : Lone t) (Y : List UInt8) : skipC false (t.text ++ Y) = 0 := by
  obtain ⟨_, h2, h3, _⟩ := h
  cases ht : t.text with
  | nil => exact absurd ht h3
  | cons c r =>
    rw [ht] at h2
    rw [List.cons_append]
    rw [skipC] at h2 ⊢
    by_cases hb : blankB c = true
    · rw [if_pos hb] at h2; omega
    · rw [if_neg hb] at h2 ⊢
      by_cases hs : c.toNat = 59
      · rw [if_pos hs] at h2; omega
      · rw [if_neg hs]

theorem lone_tok (t : Tok) (h : Lone t) (Y : List UInt8) (hY : Y = [] ∨ ∃ Z, Y = 32 :: Z) : tokAt (t.text ++ Y) = (t.kind, t.text.length) := by
  obtain ⟨h1, _, h3, _⟩ := h
  rcases hY with rfl | ⟨Z, rfl⟩
  · rw [List.append_nil]; exact h1
  · rw [tokAt_sep 32 (by decide) (by decide) (by decide) _ _ (List.length_pos_iff.2 h3)]; exact h1

theorem wide_toks (note : List UInt8) (hn : ∀ c ∈ note, c.toNat ≠ 10) : ∀ (ts : List Tok) (f p : Nat), (∀ t ∈ ts, Lone t) → (wide note ts).length < f →
    ∃ ts', toks f p (wide note ts) = (ts', none) ∧ ts'.length = ts.length ∧ ∀ (i : Nat) (t : Tok), ts[i]? = some t → ∃ q, ts'[i]? = some (mkTok q t.kind t.text) := by
  intro ts
  induction ts with
  | nil => intro f p _ _; exact ⟨[], toks_nil f p, rfl, fun i t h => by simp at h⟩
  | cons t r ih =>
    intro f p hl hf
    obtain ⟨f, rfl⟩ : ∃ g, f = g + 1 := ⟨f - 1, by omega⟩
    have ht := hl t (by simp)
    have ew : wide note (t :: r) = [32, 59] ++ note ++ [10, 9] ++ (t.text ++ wide note r) := by simp [wide]
    have hY : wide note r = [] ∨ ∃ Z, wide note r = 32 :: Z := by
      cases r with
      | nil => exact .inl rfl
      | cons u s => exact .inr ⟨59 :: (note ++ [10, 9] ++ u.text ++ wide note s), by simp [wide]⟩
    have hsk : skipC false (wide note (t :: r)) = note.length + 4 := by rw [ew, skip_pre note _ hn, lone_head t ht]
    have hpre : ([32, 59] ++ note ++ [10, 9]).length = note.length + 4 := by simp
    have hdrop : (wide note (t :: r)).drop (note.length + 4) = t.text ++ wide note r := by rw [ew, ← hpre, List.drop_left]
    have hlen : (wide note (t :: r)).length = note.length + 4 + t.text.length + (wide note r).length := by rw [ew]; simp; omega
    have htl : 0 < t.text.length := List.length_pos_iff.2 ht.2.2.1
    obtain ⟨ts', h1, h2, h3⟩ := ih f (p + (note.length + 4) + t.text.length) (fun u hu => hl u (by simp [hu])) (by omega)
    refine ⟨mkTok (p + (note.length + 4)) t.kind t.text :: ts', ?_, by simp [h2], ?_⟩
    · rw [toks_step, hsk, if_neg (by omega), hdrop, lone_tok t ht _ hY]
      simp only []
      rw [if_neg (by omega), List.take_left, List.drop_left, h1]
    · intro i u hu
      cases i with
      | zero => simp at hu; subst hu; exact ⟨_, rfl⟩
      | succ i => simp at hu; simpa using h3 i u hu

theorem chain_lone (l : List UInt8) : ∀ (ts : List Tok) (E : Nat), Chain l E ts → ∀ t ∈ ts, Lone t ∧ t.pos + t.text.length ≤ l.length ∧ t.text = (l.drop t.pos).take t.text.length := by
  intro ts
  induction ts with
  | nil => intro E _ t h; simp at h
  | cons u r ih =>
    intro E h t ht
    obtain ⟨_, n, hp, hpn, hn0, hn, hu, hr⟩ := h
    rcases List.mem_cons.1 ht with rfl | ht
    · have ha := tok_alone (l.drop t.pos) (by rw [← hn]; exact hn0)
      rw [← hn] at ha
      have htx : t.text = (l.drop t.pos).take n := by
        have := congrArg Tok.text hu; exact this
      have hk : t.kind = (tokAt (l.drop t.pos)).1 := by
        have := congrArg Tok.kind hu; exact this
      have hlen : t.text.length = n := by rw [htx]; exact ha.2.1
      refine ⟨⟨by rw [hlen, htx, hk]; exact ha.1, by rw [htx]; exact ha.2.2, ?_, ?_⟩, by omega, by rw [hlen]; exact htx⟩
      · intro e; rw [e] at hlen; simp at hlen; omega
      · rw [hk, htx]; exact hu
    · exact ih _ hr t ht
end Lx
end Go.Proofs.YtcnpbbhkdogdeaaDoor
