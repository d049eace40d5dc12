/-
  lex.makeToken: its contract.
-/
import Derived.Test.YtcnpbbhkdogdeaaDoorRead
import Derived.Test.YtcnpbbhkdogdeaaDoorShelf
namespace Go.Proofs.YtcnpbbhkdogdeaaDoor
open Go Go.RowKit

theorem bcell {W w1 : World} (hb : Below W.heap.size W w1) : (∀ b o, b < W.heap.size → w1.cell? ⟨b, o, none⟩ = W.cell? ⟨b, o, none⟩) ∧ (∀ b o, b < W.heap.size → w1.frozen? ⟨b, o, none⟩ = W.frozen? ⟨b, o, none⟩) :=
  ⟨fun b o h => hb.cell (p := ⟨b, o, none⟩) h, fun b o h => hb.frozen (p := ⟨b, o, none⟩) h⟩

theorem parseInt_ok (s : ByteArray) (v : Int) (w : World) (hmax : s.size ≤ 9223372036854775806) (h : Lib.parseIntB 64 s.data.toList = .ok v) :
    Calls Tryd.prog 27 #[.string s, .int .i64 10, .int .i64 64] w fun e w' => e = .returned (.tuple #[.int .i64 v, .nilIface]) ∧ Below w.heap.size w w' := by
  refine (Tryd.strconv_ParseInt_10_at64_ok s hmax v h w).mono ?_
  rintro e w' ⟨rfl, rfl | ⟨t, rfl⟩⟩
  · exact ⟨rfl, Below.refl _ _⟩
  · exact ⟨rfl, Lib.bytesWorld_below _ _ _⟩

set_option maxHeartbeats 400000 in
theorem makeToken_plain (k p : Int) (s : ByteArray) (w : World) (hk : k ≠ 2) :
    Calls Tryd.prog 16 #[.int .i64 k, .int .i64 p, .string s] w fun e w' => e = .returned (.agg #[.int .i64 k, .int .i64 p, .string s, .int .i64 0]) ∧ Below w.heap.size w w' := by
  have h1 : (k == 2) = false := by simpa using hk
  clear hk
  go_enter Tryd.func16, Tryd.ntmps16
  go_wp2
  exact bodyPost_ret (v := .agg #[.int .i64 k, .int .i64 p, .string s, .int .i64 0]) (by simp [results, Tryd.results16, go_sem]) rfl ⟨rfl, ((Below.refl _ _).alloc (Nat.le_refl _) _).alloc (by simp) _⟩
set_option maxHeartbeats 400000 in
theorem makeToken_int (p v : Int) (s : ByteArray) (w : World) (hmax : s.size ≤ 9223372036854775806) (h : Lib.parseIntB 64 s.data.toList = .ok v) :
    Calls Tryd.prog 16 #[.int .i64 2, .int .i64 p, .string s] w fun e w' => e = .returned (.agg #[.int .i64 2, .int .i64 p, .string s, .int .i64 v]) ∧ Below w.heap.size w w' := by
  have H := Lib.hid h; clear h
  go_enter Tryd.func16, Tryd.ntmps16
  go_wp2_with fail
  refine (parseInt_ok s v _ hmax H.out).mono ?_
  rintro e w1 ⟨rfl, hb⟩
  obtain ⟨hc, hf⟩ := bcell hb
  go_wp2_with fail
  have hs := hb.size
  simp at hs
  have c0 : w1.cell? ⟨w.heap.size, 0, none⟩ = some (.int .i64 0) := by rw [hc _ _ (by simp; omega)]; go_simp
  have c1 : w1.cell? ⟨w.heap.size, 1, none⟩ = some (.int .i64 0) := by rw [hc _ _ (by simp; omega)]; go_simp
  have c2 : w1.cell? ⟨w.heap.size, 2, none⟩ = some (.string ⟨#[]⟩) := by rw [hc _ _ (by simp; omega)]; go_simp
  have c3 : w1.cell? ⟨w.heap.size, 3, none⟩ = some (.int .i64 0) := by rw [hc _ _ (by simp; omega)]; go_simp
  have b1 : Below w.heap.size w w1 := (((Below.refl _ _).alloc (Nat.le_refl _) _).alloc (by simp) _).trans (hb.mono (by simp; omega))
  exact bodyPost_ret (v := .agg #[.int .i64 2, .int .i64 p, .string s, .int .i64 v]) (by simp [results, Tryd.results16, go_sem, c0, c1, c2, c3]) rfl ⟨rfl, ((((b1.setCell (by simp) _).setCell (by simp) _).setCell (by simp) _).setCell (by simp) _).setCell (by simp) _⟩
end Go.Proofs.YtcnpbbhkdogdeaaDoor
