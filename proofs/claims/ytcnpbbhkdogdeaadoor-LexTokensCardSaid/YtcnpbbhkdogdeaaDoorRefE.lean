/-
  The document's answers, layer 1: One, whatever begins; Tokens; Same.
-/
import Derived.Test.YtcnpbbhkdogdeaaDoorRefD
import Derived.Test.YtcnpbbhkdogdeaaDoorPlacePure
namespace Go.Proofs.YtcnpbbhkdogdeaaDoor
open Go Go.RowKit

def OnePost (l : List UInt8) (a : Nat) (w : World) (e : Ending) (w' : World) : Prop :=
  Below w.heap.size w w' ∧
  (((Lx.tokAt (l.drop a)).2 = 0 ∧ ∃ (k p : Int) (s : ByteArray) (i : Int), e = .returned (.tuple #[.agg #[.int .i64 k, .int .i64 p, .string s, .int .i64 i], .bool false])) ∨
   ((Lx.tokAt (l.drop a)).2 ≠ 0 ∧ ∃ t : Lx.Tok, t = Lx.mkTok a (Lx.tokAt (l.drop a)).1 ((l.drop a).take (Lx.tokAt (l.drop a)).2) ∧
      e = .returned (.tuple #[.agg #[.int .i64 t.kind, .int .i64 t.pos, .string ⟨t.text.toArray⟩, .int .i64 t.int], .bool true])))

theorem post_bad {l : List UInt8} {a : Nat} {w : World} {f : FuncId} {args : Array Value} {k p i : Int} {s : ByteArray} (h0 : (Lx.tokAt (l.drop a)).2 = 0)
    (h : Calls Tryd.prog f args w fun e w' => e = .returned (.tuple #[.agg #[.int .i64 k, .int .i64 p, .string s, .int .i64 i], .bool false]) ∧ Below w.heap.size w w') : Calls Tryd.prog f args w (OnePost l a w) :=
  h.mono fun _ _ ⟨he, hb⟩ => ⟨hb, .inl ⟨h0, k, p, s, i, he⟩⟩

theorem post_good {l : List UInt8} {a : Nat} {w : World} {f : FuncId} {args : Array Value} (K : Int) (n : Nat) (iv : Int) (ht : Lx.tokAt (l.drop a) = (K, n)) (hn : n ≠ 0) (hi : (Lx.mkTok a K ((l.drop a).take n)).int = iv)
    (h : Calls Tryd.prog f args w fun e w' => e = .returned (.tuple #[.agg #[.int .i64 K, .int .i64 a, .string ⟨((l.drop a).take n).toArray⟩, .int .i64 iv], .bool true]) ∧ Below w.heap.size w w') : Calls Tryd.prog f args w (OnePost l a w) :=
  h.mono fun _ _ ⟨he, hb⟩ => ⟨hb, .inr ⟨by rw [ht]; exact hn, _, rfl, by rw [ht, he, ← hi]; rfl⟩⟩

theorem mk_plain (a : Nat) (K : Int) (T : List UInt8) (h : K ≠ 2) : (Lx.mkTok a K T).int = 0 := by simp [Lx.mkTok, h]

theorem num_cases (r : List UInt8) (o m : Nat) : (18 < m ∨ Lx.wordB (Lx.at0 r (o + m)) = true) ∧ Lx.num r o m = (0, 0) ∨ (¬ 18 < m ∧ Lx.wordB (Lx.at0 r (o + m)) = false) ∧ Lx.num r o m = (2, o + m) := by
  unfold Lx.num
  by_cases h : 18 < m
  · left; exact ⟨.inl h, by simp [h]⟩
  · cases hw : Lx.wordB (Lx.at0 r (o + m))
    · right; exact ⟨⟨h, rfl⟩, by simp [h]⟩
    · left; exact ⟨.inr rfl, by simp⟩

theorem one_any (l : List UInt8) (a : Nat) (w : World) (ha : a < l.length) (hm : l.length ≤ 1000000) :
    Calls Tryd.prog 18 #[.string ⟨l.toArray⟩, .int .i64 a] w (OnePost l a w) := by
  have hte := Lx.tokAt_eq l a
  by_cases h45 : (Lx.at0 l a).toNat = 45
  · rw [if_pos h45] at hte
    have hs45 : Lx.one (Lx.at0 l a) = (5, 1) := by
      rw [u8_of _ 45 h45]; rfl
    by_cases h1 : a + 1 < l.length
    · by_cases h62 : (Lx.at0 l (a + 1)).toNat = 62
      · rw [if_pos h62] at hte
        exact post_good 5 2 0 hte (by omega) (mk_plain _ _ _ (by omega)) (one_arrow l a w ha hm h1 h45 h62)
      · rw [if_neg h62] at hte
        cases hd : Lx.digitB (Lx.at0 l (a + 1))
        · rw [if_neg (by simp [hd]), hs45] at hte
          exact post_good 5 1 0 hte (by omega) (mk_plain _ _ _ (by omega)) (one_dash_in l a w ha hm h45 h1 h62 hd)
        · rw [if_pos hd] at hte
          have hat : Lx.at0 (l.drop a) (1 + Lx.cnt Lx.digitB (l.drop (a + 1))) = Lx.at0 l (a + 1 + Lx.cnt Lx.digitB (l.drop (a + 1))) := by rw [Lx.at0_drop, ← Nat.add_assoc]
          rcases num_cases (l.drop a) 1 (Lx.cnt Lx.digitB (l.drop (a + 1))) with ⟨hb, he⟩ | ⟨⟨h18, hw⟩, he⟩
          · rw [hat] at hb
            rw [he] at hte
            exact post_bad (by rw [hte]) (one_num_neg_bad l a w ha hm h1 h45 hd hb)
          · rw [hat] at hw
            rw [he] at hte
            refine post_good 2 _ _ hte (by omega) ?_ (one_num_neg_ok l a w ha hm h1 h45 hd h18 hw)
            have e : (l.drop a).take (1 + Lx.cnt Lx.digitB (l.drop (a + 1))) = Lx.at0 l a :: (l.drop (a + 1)).take (Lx.cnt Lx.digitB (l.drop (a + 1))) := by
              rw [Lx.drop_at l a ha, Nat.add_comm, List.take_succ_cons]
            rw [e]
            show (if (2 : Int) = 2 then Lx.numV _ else 0) = _
            rw [if_pos rfl, Lx.numV, if_pos (by simpa [Lx.at0] using h45)]
            rfl
    · have h0 : Lx.at0 l (a + 1) = 0 := Lx.at0_out l _ (by omega)
      rw [h0, if_neg (by decide), if_neg (by decide), hs45] at hte
      exact post_good 5 1 0 hte (by omega) (mk_plain _ _ _ (by omega)) (one_dash_end l a w ha hm h45 h1)
  · rw [if_neg h45] at hte
    cases hd : Lx.digitB (Lx.at0 l a)
    · rw [if_neg (by simp [hd])] at hte
      cases hs : Lx.smallB (Lx.at0 l a)
      · rw [if_neg (by simp [hs])] at hte
        cases hg : Lx.greatB (Lx.at0 l a)
        · rw [if_neg (by simp [hg])] at hte
          by_cases h40 : (Lx.at0 l a).toNat = 40
          · have e : Lx.one (Lx.at0 l a) = (0, 1) := by rw [u8_of _ 40 h40]; rfl
            rw [e] at hte
            exact post_good 0 1 0 hte (by omega) (mk_plain _ _ _ (by omega)) (one_open l a w ha hm h40)
          · by_cases h41 : (Lx.at0 l a).toNat = 41
            · have e : Lx.one (Lx.at0 l a) = (1, 1) := by rw [u8_of _ 41 h41]; rfl
              rw [e] at hte
              exact post_good 1 1 0 hte (by omega) (mk_plain _ _ _ (by omega)) (one_shut l a w ha hm h41)
            · cases hy : memB (Lx.at0 l a) symL
              · have hx : ¬ _ := fun h => by rw [(mem_sym (Lx.at0 l a)).2 h] at hy; exact absurd hy (by decide)
                have e : Lx.one (Lx.at0 l a) = (0, 0) := by
                  unfold Lx.one Lx.single
                  rw [if_neg h40, if_neg h41, if_neg hx]; rfl
                rw [e] at hte
                exact post_bad (by rw [hte]) (one_none l a w ha hm h40 h41 h45 hd hs hg hy)
              · have e : Lx.one (Lx.at0 l a) = (5, 1) := by
                  unfold Lx.one Lx.single
                  rw [if_neg h40, if_neg h41, if_pos ((mem_sym _).1 hy)]; rfl
                rw [e] at hte
                exact post_good 5 1 0 hte (by omega) (mk_plain _ _ _ (by omega)) (one_sym l a w ha hm hy h45)
        · rw [if_pos hg] at hte
          have hc : Lx.cnt Lx.wordB (l.drop a) = Lx.cnt Lx.wordB (l.drop (a + 1)) + 1 := (Lx.cnt_step Lx.wordB l a Lx.word0 (by unfold Lx.wordB; rw [hg]; simp)).2
          rw [← hc] at hte
          exact post_good 4 _ 0 hte (by omega) (mk_plain _ _ _ (by omega)) (one_great l a w ha hm hg)
      · rw [if_pos hs] at hte
        have hc : Lx.cnt Lx.wordB (l.drop a) = Lx.cnt Lx.wordB (l.drop (a + 1)) + 1 := (Lx.cnt_step Lx.wordB l a Lx.word0 (by unfold Lx.wordB; rw [hs]; simp)).2
        rw [← hc] at hte
        exact post_good 3 _ 0 hte (by omega) (mk_plain _ _ _ (by omega)) (one_small l a w ha hm hs)
    · rw [if_pos hd] at hte
      have hat : Lx.at0 (l.drop a) (0 + Lx.cnt Lx.digitB (l.drop a)) = Lx.at0 l (a + Lx.cnt Lx.digitB (l.drop a)) := by rw [Lx.at0_drop, Nat.zero_add]
      rcases num_cases (l.drop a) 0 (Lx.cnt Lx.digitB (l.drop a)) with ⟨hb, he⟩ | ⟨⟨h18, hw⟩, he⟩
      · rw [hat] at hb
        rw [he] at hte
        exact post_bad (by rw [hte]) (one_num_pos_bad l a w ha hm hd hb)
      · rw [hat] at hw
        rw [he, Nat.zero_add] at hte
        have hp := (Lx.cnt_step Lx.digitB l a Lx.digit0 hd).2
        refine post_good 2 _ _ hte (by omega) ?_ (one_num_pos_ok l a w ha hm hd h18 hw)
        show (if (2 : Int) = 2 then Lx.numV _ else 0) = _
        rw [if_pos rfl, Lx.numV, if_neg]
        rw [Lx.take_at0 _ _ _ (by omega), Lx.at0_drop]
        simpa using h45
end Go.Proofs.YtcnpbbhkdogdeaaDoor
