/-
  The heap's Push, Pop.
-/
import Derived.Test.YtjefnmcalmcciaaHpD
import Derived.Deep.RegionLaw
namespace Go.Proofs.Ytjefnmcalmcciaa
open Go Go.RowKit
set_option linter.unusedVariables false
set_option linter.unusedSimpArgs false

set_option maxHeartbeats 2000000 in
theorem len_any (p : Option Addr) (n c : Nat) (w : World) : Calls Try.prog 25 #[.slice p n c] w fun e w' => e = .returned (.int .i64 (n : Int)) ∧ w = w' := by
  go_enter Try.func25, Try.ntmps25
  go_wp2
  go_ret
  exact ⟨rfl, rfl⟩

theorem asInt (v : Value) (w : World) : (Instr.typeAssert (.iface 3 v) 20 3 false).run Try.prog w = .ok v w := by kernel_rfl

theorem own_drew {w : World} {base e size n : Nat} {v : Value} {xs : List Value} (h : w.ownsRow base e size v n xs) : w.drew.ownsRow base e size v n xs := h

theorem ent_grown {w w1 : World} {o O : Obj} {B : Nat} {r : Option Nat} (h : w.heap[B]? = some O) (hgr : ((w.alloc o).drew).grownBy w1 r) (hne : r ≠ some B) : w1.heap[B]? = some O :=
  (hgr.block B (by have := ent_lt (ent_alloc h o); exact this) (fun e => hne e.symm)).trans (ent_alloc h o)

theorem own_type {w : World} {base e size n : Nat} {v : Value} {xs : List Value} (h : w.ownsRow base e size v n xs) {k : Nat} (hk : v.ownBlock = some k) : ∃ cs, w.heap[k]? = some (.cells cs e (0, 0)) := by
  rcases h.2 with ⟨rfl, _⟩ | ⟨g, cap, cur, rfl, _, h2, _⟩
  · cases hk
  · injection hk with hk
    subst hk
    exact ⟨cur, h2⟩
theorem only_grown {lo B : Nat} {w0 w w1 : World} {o : Obj} {r : Option Nat} (hlo : lo ≤ w0.heap.size) (h : Only lo B w0 ((w.alloc o).drew)) (hgr : ((w.alloc o).drew).grownBy w1 r) (hr : ∀ k, r = some k → lo ≤ k) (ht : ∀ k, r = some k → ∃ cs, w.heap[k]? = some (.cells cs 3 (0, 0))) : Only lo B w0 w1 := by
  refine ⟨hgr.os.trans h.os, hgr.tape.trans h.tape, hgr.output.trans h.output, Nat.le_trans h.size hgr.size, fun b h1 h2 => ?_, fun b cs h1 h2 => ?_⟩
  · rw [hgr.block b (by have := h.size; omega) (fun e => by have := hr b e.symm; omega)]; exact h.low b h1 h2
  · have h3 := h.rows b cs h1 h2
    rw [hgr.block b (ent_lt h3) (fun e => by
      obtain ⟨cs', hc⟩ := ht b e.symm
      have h5 : ((w.alloc o).drew).heap[b]? = some (.cells cs' 3 (0, 0)) := ent_alloc hc o
      rw [h3] at h5
      injection h5 with h5
      injection h5 with _ h5 _
      exact absurd h5 (by decide))]
    exact h3

def PushPost (lo B : Nat) (x y z : Value) (w0 : World) (H : List Nat) (t : Nat) (e : Ending) (w' : World) : Prop :=
  ∃ v', e = .returned (.tuple #[]) ∧ Rdy lo B x y z w' (H ++ [t]) v' ∧ Only lo B w0 w'

set_option maxHeartbeats 2000000 in
set_option maxRecDepth 100000 in
theorem rpush_any {lo B : Nat} {x y z : Value} {w0 w : World} {H : List Nat} {v : Value} (h : Rdy lo B x y z w H v) (ho : Only lo B w0 w) (hlo : lo ≤ w0.heap.size) (t : Nat) (hb : H.length < 1000000000) :
    Calls Try.prog 54 #[.pointer (some ⟨B, 3, none⟩), .iface 3 (.int .i64 (t : Int))] w (PushPost lo B x y z w0 H t) := by
  obtain ⟨i0, hi, hz0, hz1, hz2⟩ := info_parts info3
  have I0 := Lib.hid hi; have I00 := Lib.hid hz0; have I01 := Lib.hid hz1; have I02 := Lib.hid hz2
  clear hi hz0 hz1 hz2
  obtain ⟨p, c, rfl⟩ := h.form
  have HR := Lib.hid h; have HO := Lib.hid ho
  have f3 := ent_cell h.ent 3 _ rfl
  have ff := ent_free h.ent
  have hBl := ent_lt h.ent
  clear h ho
  go_enter Try.func54, Try.ntmps54
  have ta := asInt (.int .i64 (t : Int))
  go_wp2_with fail
  have hl2 : lo ≤ w.heap.size := Nat.le_trans hlo HO.out.size
  have HB2 : Hid (lo ≤ ((w.alloc (.cells #[.int .i64 (t : Int)] 3)).drew).heap.size) := Lib.hid (by show lo ≤ (w.alloc _).heap.size; simp; omega)
  clear hl2
  go_region_law (first | (refine step_append_lies _ (by rfl) (.tmp 7) (.tmp 10) 49 (by rfl) lo 3 i0 (.int .i64 0) 1 8 Try.underlying49 I0.out I00.out I01.out I02.out rfl (by decide) _ H.length _ (by rfl) (own_drew (HR.out.own.alloc _)) ⟨w.heap.size, 0, none⟩ 1 1 [.int .i64 (t : Int)] (by rfl) (by rfl) (fun j u hh => new_one w _ _ j u hh) (by intro u hu; rw [List.mem_singleton.1 hu]; rfl) (by omega) (by unfold maxLen; omega) (by omega) HB2.out _ rfl ?_; intro g1 cap1 w1 hown hgr hat hlt1; have hE := ent_grown HR.out.ent hgr HR.out.ne; have hEc := ent_cell hE 3 _ rfl; have hEf := ent_free hE))
  all_goals
    have HE := Lib.hid hE; have HOW := Lib.hid hown; have HGR := Lib.hid hgr
    clear hE hEc hEf hown hgr hat
    go_wp2
    go_end0
    have hB : (Value.slice (some ⟨g1, 0, none⟩) (H.length + 1) cap1).ownBlock ≠ some B := fun e => by
      have := (HOW.out.lt B e).1; have := HR.out.lo; omega
    refine ⟨.slice (some ⟨g1, 0, none⟩) (H.length + 1) cap1, rfl, ⟨?_, ?_, HR.out.lo, by simp; omega⟩, ?_⟩
    · exact ent_set HE.out 3 _
    · rw [List.length_append, List.length_singleton, ivs_snoc]
      exact own_other HOW.out B 3 _ hB
    · exact (only_grown hlo ((HO.out.alloc hlo _).drew) HGR.out (fun k hk => (HR.out.own.lt k hk).1) (fun k hk => own_type HR.out.own hk)).set 3 _
end Go.Proofs.Ytjefnmcalmcciaa
