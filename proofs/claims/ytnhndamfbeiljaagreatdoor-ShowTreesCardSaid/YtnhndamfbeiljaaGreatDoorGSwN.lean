/-
  Several texts in one: WNum, WListed.
-/
import Derived.Test.YtnhndamfbeiljaaGreatDoorGSwB
import Derived.Test.YtnhndamfbeiljaaGreatDoorGSwC
namespace Go.Proofs.YtnhndamfbeiljaaGreatDoor
open Go Go.RowKit
set_option linter.unusedVariables false
set_option linter.unusedSimpArgs false
namespace Sw
set_option maxHeartbeats 1000000 in
set_option maxRecDepth 100000 in
theorem number_any {lo B : Nat} {w : World} {T : List UInt8} {vs : List Value} (h : SV lo B w T vs) (n : Int) (h0 : -9223372036854775808 ≤ n) (h1 : n ≤ 9223372036854775807) (hlen : T.length + (Lib.itoa n).length ≤ 90000000) (htab : Lib.TabIs Tryz.prog w "internal/strconv.uint64pow10" .u64 Lib.pow10Tab) :
    Calls Tryz.prog 64 #[.pointer (some ⟨B, 0, none⟩), .int .i64 n] w (Wrote lo B w (T ++ Lib.itoa n) vs) := by
  have HL := Lib.hid hlen
  have HLO := Lib.hid h.low
  have HX := Lib.hid h
  have HD := decimal_any n h0 h1 w.drew (show Lib.TabIs Tryz.prog w.drew "internal/strconv.uint64pow10" .u64 Lib.pow10Tab from htab)
  clear hlen h htab
  go_enter Tryz.func64, Tryz.ntmps64
  go_wp2_with fail
  refine wp_region_held_drew (S := fun (_ : World) => True) (by kernel_rfl) (trivial) (fun hHeld => ?_)
  refine wpAnyH_take (i := 0) (v := .pointer (some ⟨B, 0, none⟩)) rfl (by kernel_rfl) (by kernel_rfl) (by kernel_rfl) (fun _ _ _ h => h) (Or.inl ⟨by rfl, fun w' hSw => by go_simp⟩) hHeld ?_
  refine wpAnyH_take (i := 1) (v := .pointer (some ⟨B, 0, none⟩)) rfl (by kernel_rfl) (by kernel_rfl) (by kernel_rfl) (fun _ _ _ h => h) (Or.inl ⟨by rfl, fun w' hSw => by go_simp⟩) hHeld ?_
  refine wpAnyH_take (i := 2) (v := .pointer (some ⟨B, 0, none⟩)) rfl (by kernel_rfl) (by kernel_rfl) (by kernel_rfl) (fun _ _ _ h => h) (Or.inl ⟨by rfl, fun w' hSw => by go_simp⟩) hHeld ?_
  refine wpAnyH_take (i := 3) (v := .int .i64 n) rfl (by kernel_rfl) (by kernel_rfl) (by kernel_rfl) (fun _ _ _ h => h) (Or.inl ⟨by rfl, fun w' hSw => by go_simp⟩) hHeld ?_
  try simp only [Act.put, List.getElem_toArray, List.getElem_cons_succ, List.getElem_cons_zero, List.setIfInBounds_toArray, List.set_cons_zero, List.set_cons_succ]
  refine wpAnyH_ready (rs := [4]) (by kernel_rfl) (by simp) ?_
  refine AllReadyH.cons rfl (fun K hK => ?_) AllReadyH.nil
  go_simp
  refine HD.mono ?_
  rintro e w1 ⟨rfl, hb⟩
  have HB := Lib.hid (undrew hb)
  clear hb
  refine hK.out _ _ trivial (fun hHeld => ?_)
  clear hK K
  refine wpAnyH_ready (rs := [5]) (by kernel_rfl) (by simp) ?_
  refine AllReadyH.cons rfl (fun K hK => ?_) AllReadyH.nil
  go_simp
  refine (wrote_string (SV.below HX.out HB.out) (Lib.itoa n) (by have := HL.out; omega)).mono ?_
  rintro e w2 ⟨⟨v, rfl⟩, h1, hb, hk, hkk⟩
  refine hK.out _ _ trivial (fun hHeld => ?_)
  clear hK K
  refine wpAnyH_done (by kernel_rfl) ?_ _
  go_wp2_with fail
  go_end0
  have HBK := HB.out
  obtain ⟨cs, wv, g1, g2, g3⟩ := HX.out
  exact ⟨rfl, h1, (HBK.mono HLO.out).trans hb, (KeepB.below HBK).trans hk, (Keep.below HBK).trans hkk⟩
set_option maxHeartbeats 1000000 in
theorem words_any (av : Value) (l : List (List UInt8)) (w : World) (h : RowAt 1 StrIs w av l) (hn : l.length ≤ 1000000) :
    Calls Tryz.prog 56 #[av] w fun e w' => ∃ rv vs, e = .returned rv ∧ Below w.heap.size w w' ∧ w'.ownsRow w.heap.size 125 1 rv l.length vs ∧ Reps (fun v s => NodeV w w' v (.word s)) vs l := by
  obtain ⟨q, c, rfl⟩ := h.len
  go_enter Tryz.func56, Tryz.ntmps56
  go_wp2_with fail
  refine (allStr_any StrIs (fun u x hu => ⟨_, hu⟩) _ l 71 w h hn).mono ?_
  rintro e w1 ⟨rv, vs, rfl, hb, hown, hr⟩
  go_wp2_with fail
  go_ret
  exact ⟨rv, vs, rfl, hb, hown, hr⟩
end Sw
end Go.Proofs.YtnhndamfbeiljaaGreatDoor

namespace Go.Proofs.YtnhndamfbeiljaaGreatDoor
open Go Go.RowKit
set_option linter.unusedVariables false
set_option linter.unusedSimpArgs false
namespace Sw
set_option maxHeartbeats 1000000 in
theorem listedStr_any (row : World → Value → Prop) (q : Option Addr) (n c g : Nat) (w : World) (hr : ∀ w', Keep w w' → row w' (.slice q n c)) :
    Calls Tryz.prog 100 #[.slice q n c, .func (.func g) #[] #[]] w fun e w' => ∃ rv u, e = .returned rv ∧ Below w.heap.size w w' ∧ w'.ownsRow w.heap.size 125 1 rv 1 [u] ∧ CloL 133 33 173 g row w' u := by
  have HR := Lib.hid hr
  clear hr
  go_enter Tryz.func100, Tryz.ntmps100
  go_wp2_with fail
  have e0 := Lib.hid (ent_new w #[.slice q n c] 33)
  have e1 := Lib.hid (ent_new (w.alloc (.cells #[.slice q n c] 33)) #[.func (.func g) #[] #[]] 173)
  rw [World.size_alloc] at e1
  have HB := Lib.hid (((Below.refl w.heap.size w).alloc (Nat.le_refl _) (.cells #[.slice q n c] 33)).alloc (by simp) (.cells #[.func (.func g) #[] #[]] 173))
  have e0' := Lib.hid (ent_alloc e0.out (.cells #[.func (.func g) #[] #[]] 173))
  have hs : ((w.alloc (.cells #[.slice q n c] 33)).alloc (.cells #[.func (.func g) #[] #[]] 173)).heap.size = w.heap.size + 2 := by simp
  go_ret
  have hl := World.ownsRow_lit (base := w.heap.size) (e := 125) (size := 1) ((w.alloc (.cells #[.slice q n c] 33)).alloc (.cells #[.func (.func g) #[] #[]] 173)) #[.func (.func 133) #[] #[.pointer (some ⟨w.heap.size, 0, none⟩), .pointer (some ⟨w.heap.size + 1, 0, none⟩)]] 1 (by rw [hs]; omega) (by unfold maxLen; omega) rfl
  rw [hs] at hl
  generalize (w.alloc (.cells #[.slice q n c] 33)).alloc (.cells #[.func (.func g) #[] #[]] 173) = w1 at *
  have hb3 : Below w.heap.size w (w1.alloc (.cells #[.func (.func 133) #[] #[.pointer (some ⟨w.heap.size, 0, none⟩), .pointer (some ⟨w.heap.size + 1, 0, none⟩)]] 125)) := HB.out.alloc (by omega) _
  exact ⟨_, _, rfl, hb3, hl, _, _, _, _, _, rfl, ent_alloc e0'.out _, ent_alloc e1.out _, HR.out _ (Keep.below hb3)⟩
set_option maxHeartbeats 1000000 in
theorem listedBind_any (row : World → Value → Prop) (q : Option Addr) (n c g : Nat) (w : World) (hr : ∀ w', Keep w w' → row w' (.slice q n c)) :
    Calls Tryz.prog 67 #[.slice q n c, .func (.func g) #[] #[]] w fun e w' => ∃ rv u, e = .returned rv ∧ Below w.heap.size w w' ∧ w'.ownsRow w.heap.size 125 1 rv 1 [u] ∧ CloL 105 137 143 g row w' u := by
  have HR := Lib.hid hr
  clear hr
  go_enter Tryz.func67, Tryz.ntmps67
  go_wp2_with fail
  have e0 := Lib.hid (ent_new w #[.slice q n c] 137)
  have e1 := Lib.hid (ent_new (w.alloc (.cells #[.slice q n c] 137)) #[.func (.func g) #[] #[]] 143)
  rw [World.size_alloc] at e1
  have HB := Lib.hid (((Below.refl w.heap.size w).alloc (Nat.le_refl _) (.cells #[.slice q n c] 137)).alloc (by simp) (.cells #[.func (.func g) #[] #[]] 143))
  have e0' := Lib.hid (ent_alloc e0.out (.cells #[.func (.func g) #[] #[]] 143))
  have hs : ((w.alloc (.cells #[.slice q n c] 137)).alloc (.cells #[.func (.func g) #[] #[]] 143)).heap.size = w.heap.size + 2 := by simp
  go_ret
  have hl := World.ownsRow_lit (base := w.heap.size) (e := 125) (size := 1) ((w.alloc (.cells #[.slice q n c] 137)).alloc (.cells #[.func (.func g) #[] #[]] 143)) #[.func (.func 105) #[] #[.pointer (some ⟨w.heap.size, 0, none⟩), .pointer (some ⟨w.heap.size + 1, 0, none⟩)]] 1 (by rw [hs]; omega) (by unfold maxLen; omega) rfl
  rw [hs] at hl
  generalize (w.alloc (.cells #[.slice q n c] 137)).alloc (.cells #[.func (.func g) #[] #[]] 143) = w1 at *
  have hb3 : Below w.heap.size w (w1.alloc (.cells #[.func (.func 105) #[] #[.pointer (some ⟨w.heap.size, 0, none⟩), .pointer (some ⟨w.heap.size + 1, 0, none⟩)]] 125)) := HB.out.alloc (by omega) _
  exact ⟨_, _, rfl, hb3, hl, _, _, _, _, _, rfl, ent_alloc e0'.out _, ent_alloc e1.out _, HR.out _ (Keep.below hb3)⟩
set_option maxHeartbeats 1000000 in
theorem names_any (q : Option Addr) (n c : Nat) (l : List (List UInt8)) (w0 w : World) (h : RowAt 1 StrIs w0 (.slice q n c) l) :
    Calls Tryz.prog 57 #[.slice q n c] w fun e w' => ∃ rv u, e = .returned rv ∧ Below w.heap.size w w' ∧ w'.ownsRow w.heap.size 125 1 rv 1 [u] ∧ NodeV w0 w' u (.names l) := by
  go_enter Tryz.func57, Tryz.ntmps57
  go_wp2_with fail
  refine (listedStr_any (fun u v => RowAt 1 StrIs w0 v l) q n c 71 w (fun _ _ => h)).mono ?_
  rintro e w1 ⟨rv, u, rfl, hb, hown, hr⟩
  go_wp2_with fail
  go_ret
  exact ⟨rv, u, rfl, hb, hown, hr⟩
end Sw
end Go.Proofs.YtnhndamfbeiljaaGreatDoor
