/-
  Several texts in one: WConcat, WRound, WBackw, WPush, WList.
-/
import Derived.Test.YtnhndamfbeiljaaGreatDoorT00
import Derived.Test.YtnhndamfbeiljaaGreatDoorT19
import Derived.RangeFuncNested
import Derived.RangeFuncBound
import Derived.RangeFuncCalls
import Derived.RangeFuncLeaves
import Derived.Shelf.Abstract
import Derived.OwnWalkIn
import Derived.TacticsInMore
import Derived.LoopNIn
import Derived.LoopIn
import Derived.Deep.RegionHeld3
set_option linter.unusedVariables false
set_option linter.unusedSimpArgs false
set_option maxHeartbeats 4000000
set_option maxRecDepth 100000
namespace Go.Proofs.YtnhndamfbeiljaaGreatDoor
open Go Go.RowKit
open Go.Lib (hid)
open List renaming getElem_toArray → jR, getElem_cons_succ → jR0, getElem_cons_zero → jR1, setIfInBounds_toArray → jR2, set_cons_zero → jR3, set_cons_succ → jR4
namespace Sw
theorem jF5 {l : List (List Value)} {k : Nat} {x : List Value} (h : l[k]? = some x) : (l.take (k + 1)).flatten = (l.take k).flatten ++ x := by
 rw [List.take_add_one, h]; simp
theorem jG7 (l : List (List Value)) (k : Nat) : (l.take k).flatten.length <= l.flatten.length := by
 have : l.flatten = (l.take k).flatten ++ (l.drop k).flatten := by rw [<- List.flatten_append, List.take_append_drop]
 rw [this]; simp
theorem jOH (lo : Nat) (gv : Value) (ls : List (List Value)) (w : World) (h : jAI 1 (VRow lo w) w gv ls) (hn : ls.flatten.length <= 1000000) (hm : ls.length <= 1000000) :
 Calls Tryz.prog 97 #[gv] w fun e w' => ∃ rv, e = .returned rv /\ Below w.heap.size w w' /\ w'.ownsRow w.heap.size 125 1 rv ls.flatten.length ls.flatten := by
 obtain ⟨q, c, rfl⟩ := h.len; have H := hid h; have HN := hid hn; have hc : (ls.length : Int) <= 9223372036854775807 := by omega
 clear h hn; go_enter Tryz.func97, Tryz.ntmps97; go_wp2_with fail
 go_loopw [3, 11] (fun sz i wr => wr = w /\ ∃ k A : Nat, i = .int .i64 k /\ k <= ls.length /\ sz = .int .i64 A /\ Hid (A = (ls.take k).flatten.length)) (fun _ i _ => ls.length - (intOf i).toNat)
 case atStart => exact ⟨rfl, 0, 0, rfl, Nat.zero_le _, rfl, hid (by simp)⟩
 case round =>
  obtain ⟨rfl, k, A, rfl, hk, rfl, HA⟩ := hrel; by_cases hlt : k < ls.length
  . obtain ⟨x, hx⟩ : ∃ x, ls[k]? = some x := ⟨_, List.getElem?_eq_getElem hlt⟩
    have HL : Hid (A + x.length = (ls.take (k + 1)).flatten.length) := hid (by rw [jF5 hx, List.length_append, HA.out]); have hn2 : (A : Int) + (x.length : Int) <= 1000000 := by have := jG7 ls (k + 1); have := HN.out; have := HL.out; omega
    rcases H.out with ⟨h0, _⟩ | ⟨b, of, c', hv, g1, g2, g3⟩
    . rw [h0] at hlt; simp at hlt
    injection hv with hq1 _ hq2
    subst hq1; subst hq2
    obtain ⟨u, hu, _, hcell⟩ := g3 k x hx; obtain ⟨xq, xc, rfl⟩ := hu.len; have x0 : wr.cell? ⟨b, of + k, none⟩ = some (.slice xq x.length xc) := by simpa using hcell 0 (.slice xq x.length xc) rfl
    have hk1 : (k : Int) < (ls.length : Int) := by omega
    have hk2 : (ls.length : Int) <= (c : Int) := by omega
    have hk3 := g2; have hn1 : (x.length : Int) <= 1000000 := by omega
    have hw : wrap64 ((A : Int) + (x.length : Int)) = (A : Int) + (x.length : Int) := by unfold wrap64; omega
    have hneg : ¬ ((A : Int) + (x.length : Int) < 0) := by omega
    clear g1 g2 g3 hcell hu hx; go_wp2_with fail
    go_roundw
    case rel => exact ⟨by trivial, k + 1, A + x.length, by go_num, by omega, by go_num, HL⟩
    case measure => simp [intOf]; omega
  . obtain rfl : k = ls.length := by omega
    have HA2 : Hid (A = ls.flatten.length) := hid (by have := HA.out; rwa [List.take_length] at this); have hA : A <= 1000000 := by have := HA2.out; have := HN.out; omega
    have HAA := hid hA; clear hA HA; go_wp2_with fail; refine (grow_any A HAA.out wr).mono ?_; rintro e w1 ⟨rv, rfl, hb, hown⟩; have HB := hid hb; have HO := hid hown; clear hb hown; go_wp2_with fail
    go_loopw [6, 27] (fun v i wx => ∃ (k m : Nat) (xs : List Value), i = .int .i64 k /\ k <= ls.length /\ Hid (wx.ownsRow wr.heap.size 125 1 v m xs) /\ Hid (m = (ls.take k).flatten.length /\ xs = (ls.take k).flatten) /\ Hid (Below wr.heap.size wr wx)) (fun _ i _ => ls.length - (intOf i).toNat)
    case atStart => exact ⟨0, 0, [], rfl, Nat.zero_le _, HO, hid (by simp), HB⟩
    case round =>
     clear HO HB; obtain ⟨k, m, xs, rfl, hk, HO, HX, HB⟩ := hrel
     rename World => wx
     by_cases hlt : k < ls.length
     . obtain ⟨x, hx⟩ : ∃ x, ls[k]? = some x := ⟨_, List.getElem?_eq_getElem hlt⟩
       have HL : Hid (m + x.length = (ls.take (k + 1)).flatten.length /\ xs ++ x = (ls.take (k + 1)).flatten) := hid (by rw [jF5 hx, List.length_append, HX.out.1, HX.out.2]; exact ⟨rfl, rfl⟩); have HM : Hid (m + x.length <= 1000000) := hid (by have := jG7 ls (k + 1); have := HN.out; have := HL.out.1; omega)
       rcases H.out with ⟨h0, _⟩ | ⟨b, of, c', hv, g1, g2, g3⟩
       . rw [h0] at hlt; simp at hlt
       injection hv with hq1 _ hq2
       subst hq1; subst hq2
       obtain ⟨u, hu, _, hcell⟩ := g3 k x hx; obtain ⟨xq, xc, rfl⟩ := hu.len; have hcl : wr.cell? ⟨b, of + k, none⟩ = some (.slice xq x.length xc) := by simpa using hcell 0 (.slice xq x.length xc) rfl
       have x0 : wx.cell? ⟨b, of + k, none⟩ = some (.slice xq x.length xc) := (HB.out.cell (World.block_lt_of_cell? wr _ hcl)).trans hcl; have HV := hid (VRow.below hu HB.out); have hk1 : (k : Int) < (ls.length : Int) := by omega
       have hk2 : (ls.length : Int) <= (c : Int) := by omega
       have hk3 := g2; have hsz := HB.out.size; clear g1 g2 g3 hcell hu hx hcl; go_wp2_with (at_builtin; refine jHR rfl (.tmp 31) (.tmp 32) rfl wr.heap.size lo _ m xs rfl HO.out _ rfl x HV.out (by have := HM.out; omega) (by omega) ?_); intro v' w' h1 h2 h3; have HO2 := hid h1; have HB2 := hid (HB.out.grown h2 (by omega) (fun k hk => (HO.out.lt k hk).1)); clear h1 h2 h3; go_wp2_with fail
       go_roundw
       case rel => exact ⟨k + 1, _, _, by go_num, by omega, HO2, HL, HB2⟩
       case measure => simp [intOf]; omega
     . obtain rfl : k = ls.length := by omega
       have HX2 : Hid (m = ls.flatten.length /\ xs = ls.flatten) := hid (by have := HX.out; rwa [List.take_length] at this); go_wp2_with fail; go_ret; have ho := HO.out; rw [HX2.out.1, HX2.out.2] at ho; exact ⟨_, rfl, HB.out, ho⟩
end Sw
namespace Sw
variable {P : Program}
def OnlyN (Q : Exit -> Act -> World -> Prop) : Exit -> Act -> World -> Prop
 | .normal, a, w => Q .normal a w
 | _, _, _ => False
theorem jL1 {l n : Nat} {row : String} {args : Array Value} {w : World} {R : Value -> World -> Prop} (h : Rows P row args w R) : RowsIn (Fence.wide.inRound l) n P row args w R :=
 fun c cs _ => let ⟨v, w', r, s⟩ := h c cs; ⟨v, w', r, (fenced_inRound P Fence.wide l).symm ▸ stepsIn_wide.2 s⟩
theorem jO0 {l n : Nat} {o : Oper} {a : Act} {w : World} {K : Act -> World -> Prop} {Q : Exit -> Act -> World -> Prop} (hd : ∀ c, o.op ≠ .defer c) (h : o.wp P a w K (OnlyN Q)) : o.wpIn (Fence.wide.inRound l) n P a w K Q := by
 refine ⟨fun _ _ => trivial, ?_⟩; rw [Oper.semAt_eq _ _ _ hd]; unfold Oper.wp at h; generalize (execOp a.eval o).run P w = r at h ⊢; cases r with
 | ok x w' =>
   cases x with
   | value v => exact h
   | skip => exact h
   | defer d => exact h
   | enter f args =>
     refine ⟨fun e => (by simp [Fence.inRound, Fence.wide] at e), ?_⟩; have h2 : Calls P f args w' _ := h; refine (CallsIn.inRound l (callsIn_wide.2 h2)).mono ?_; intro e w2 he; cases e with
     | returned v => exact he
     | panicked c => exact he.elim
     | outgrown => obtain ⟨_, _, he⟩ := he; exact he.elim
   | row row args =>
     refine ⟨fun e => (by simp [Fence.inRound, Fence.wide] at e), ?_⟩; exact jL1 h
   | _ => exact h.elim
 | halt x w' =>
   cases x with
   | panic v => exact h.elim
   | _ => exact h.elim
theorem jLR {l n : Nat} {ops : Array Oper} {md : Region.Mode} {Q : Exit -> Act -> World -> Prop} (hd : ∀ (i : Nat) (o : Oper), ops[i]? = some o -> ∀ c, o.op ≠ .defer c) :
 ∀ (fuel : Nat) (listed : Array Bool) (a : Act) (w : World), wpAny P md ops (OnlyN Q) fuel listed a w -> wpAnyIn (Fence.wide.inRound l) n P md ops Q fuel listed a w := by
 intro fuel
 induction fuel with
 | zero => intro listed a w h; exact h
 | succ fuel ih =>
   intro listed a w h; refine ⟨h.1, fun i hi => ?_⟩; have h2 := h.2 i hi; unfold wpOp at h2; unfold wpOpIn; cases ho : ops[i]? with
   | none => rw [ho] at h2; exact ih _ _ _ h2
   | some o =>
     rw [ho] at h2; by_cases hw : Region.wanted o (yielded ops a.tmps) = true
     . simp only [hw, if_true] at h2 ⊢
       rcases h2 with h2 | ⟨_, _, _, h2⟩
       . exact jO0 (hd i o ho) (Oper.wp_mono (fun a w => ih _ a w) h2)
       . exact h2.elim
     . simp only [hw] at h2 ⊢; exact ⟨fun _ _ => trivial, ih _ _ _ h2⟩
def jLA (ops : Array Oper) : Bool := ops.toList.all fun o => match o.op with | .defer _ => false | _ => true
theorem jL9 {ops : Array Oper} (h : jLA ops = true) (i : Nat) (o : Oper) (ho : ops[i]? = some o) (c : Call) : o.op ≠ .defer c := by
 intro e; unfold jLA at h; rw [List.all_eq_true] at h; have hm : o ∈ ops.toList := by rw [<- Array.getElem?_toList] at ho; exact List.mem_of_getElem? ho
 have := h o hm; rw [e] at this; simp at this
theorem jGR {l n id : Nat} {ops : Array Oper} {a : Act} {w : World} {Q : Exit -> Act -> World -> Prop} {S : World -> Prop} (hm : P.follows .mixedOrders = true) (hd : jLA ops = true) (hS : S w.drew)
 (h : S w.drew -> wpAnyH P .any ops (OnlyN Q) S ops.size (Array.replicate ops.size false) a w.drew) : (Code.region id ops true).wpIn (Fence.wide.inRound l) n P Q a w :=
 wpIn_region_any hm (jLR (jL9 hd) _ _ _ _ (wpAny_of_held _ _ _ _ (h hS)))
end Sw
end Go.Proofs.YtnhndamfbeiljaaGreatDoor
namespace Go.Proofs.YtnhndamfbeiljaaGreatDoor
open Go Go.RowKit Go.Shelf
open Go.Lib (hid)
open List renaming getElem_toArray → jR, getElem_cons_succ → jR0, getElem_cons_zero → jR1, setIfInBounds_toArray → jR2, set_cons_zero → jR3, set_cons_succ → jR4
attribute [local go_sem] Oper.semAt_some
namespace Sw
abbrev Fv := Nat × Array Value
def fv (x : Fv) : Value := .func (.func x.1) #[] x.2
def jDD (zs : List Fv) (k : Nat) : List (Nat × Fv) := (List.range k).map fun j => (zs.length - 1 - j, zs[zs.length - 1 - j]?.getD (0, #[]))
theorem downto_succ (zs : List Fv) (k : Nat) : jDD zs (k + 1) = jDD zs k ++ [(zs.length - 1 - k, zs[zs.length - 1 - k]?.getD (0, #[]))] := by simp [jDD, List.range_succ]
theorem jJY (zs : List Fv) (k : Nat) : (jDD zs k).length = k := by simp [jDD]
theorem jLQ (F : Fence) (n : Nat) (hF : F.fn 130) (hro : F.round = none) (hn : 1 <= n) (l Bs b cap : Nat) (cur : Array Value) (zs : List Fv) (hlen : zs.length <= 1000000) (hcap : zs.length <= cap) (Kp : World -> World -> Prop)
 (hKp : ∀ A B, Kp A B -> B.heap[Bs]? = A.heap[Bs]? /\ B.heap[b]? = A.heap[b]?) (J Jx : List (Nat × Fv) -> World -> Prop)
 (hY : ∀ pre x W, J pre W -> pre.length < zs.length -> YieldAt F (n - 1) Tryz.prog l #[.int .i64 (x.1 : Nat), fv x.2] W fun e W' =>
   (e = .returned (.bool true) /\ J (pre ++ [x]) W' /\ Kp W W') \/ (e = .returned (.bool false) /\ Jx (pre ++ [x]) W'))
 (W : World) (hBs : W.heap[Bs]? = some (.cells #[.slice (some ⟨b, 0, none⟩) zs.length cap] 120 (0, 0))) (hb : W.heap[b]? = some (.cells cur 125 (0, 0))) (hc : ∀ j, j < zs.length -> cur[j]? = some (fv (zs[j]?.getD (0, #[])))) (h0 : J [] W) :
 CallsIn F n Tryz.prog 130 #[.func (.yield l) #[] #[], .pointer (some ⟨Bs, 0, none⟩)] W fun e W' => (∃ v, e = .returned v) /\
  ((∃ ys, ys = jDD zs zs.length /\ J ys W') \/ (∃ pre, (∃ k, k <= zs.length /\ pre = jDD zs k) /\ Jx pre W')) := by
 refine callsIn_of_wp Tryz.func130 rfl hF ?_ hro; simp only [Tryz.ntmps130, List.size_toArray, List.length_cons, List.length_nil, Nat.reduceAdd, Nat.reduceSub, Array.replicate_succ, Array.replicate_zero, List.push_toArray, List.append_toArray, List.nil_append, List.cons_append]; have y0 := jA hBs 0 _ rfl; have hw0 : wrap64 ((zs.length : Int) - 1) = (zs.length : Int) - 1 := by unfold wrap64; omega
 gi_wp2
 gi_loopw [3] (fun i wr => ∃ k : Nat, k <= zs.length /\ i = .int .i64 ((zs.length : Int) - 1 - k) /\ J (jDD zs k) wr /\ wr.heap[Bs]? = some (.cells #[.slice (some ⟨b, 0, none⟩) zs.length cap] 120 (0, 0)) /\ wr.heap[b]? = some (.cells cur 125 (0, 0)))
  (fun i _ => (intOf i + 1).toNat)
 case atStart => exact ⟨0, Nat.zero_le _, by simp, h0, hBs, hb⟩
 case round =>
  obtain ⟨k, hk, rfl, hJs, e1, e2⟩ := hrel; have H1 := hid e1; have H2 := hid e2; have z0 := jA e1 0 _ rfl; by_cases hlt : k < zs.length
  . obtain ⟨m, hm⟩ : ∃ m, m = zs.length - 1 - k := ⟨_, rfl⟩
    have hml : m < zs.length := by omega
    have hmk : (zs.length : Int) - 1 - k = (m : Int) := by omega
    have hx := hc m hml; have hsu := downto_succ zs k; rw [<- hm] at hsu; obtain ⟨z, hz⟩ : ∃ z, z = zs[m]?.getD (0, #[]) := ⟨_, rfl⟩
    rw [<- hz] at hx hsu; have HSU := hid hsu; have hcx := jA e2 _ _ hx; obtain ⟨fn, tmps, assign, body, hy, hR⟩ := hY _ (m, z) wr hJs (by rw [jJY]; exact hlt)
    dsimp only at hy
    rw [hmk]; have hw1 : wrap64 ((m : Int) - 1) = (m : Int) - 1 := by unfold wrap64; omega
    have HM := hid hmk; have hcm : (zs.length : Int) <= (cap : Int) := by omega
    have hm2 : (m : Int) < (zs.length : Int) := by omega
    clear hm hx hsu hz e1 e2 y0 hmk hc hBs hb hw0; obtain ⟨z1, z2⟩ := z; simp only [fv] at hcx hy
    gi_wp2
    refine hR.mono ?_; rintro e W3 (⟨rfl, hJ3, hk3⟩ | ⟨rfl, hJx3⟩)
    . have HK := hid (hKp _ _ hk3); clear hk3
      gi_wp2
      go_roundw
      case rel =>
       refine ⟨k + 1, by omega, ?_, by rw [HSU.out]; exact hJ3, HK.out.1.trans H1.out, HK.out.2.trans H2.out⟩; have := HM.out
       congr 1; push_cast; omega
      case measure => simp [intOf]
    . gi_wp2
      refine bodyPost_ret (results_none rfl _ _ _) rfl ?_; exact ⟨⟨_, rfl⟩, .inr ⟨_, ⟨k + 1, by omega, HSU.out.symm⟩, hJx3⟩⟩
  . obtain rfl : k = zs.length := by omega
    have hmk : (zs.length : Int) - 1 - zs.length = -1 := by omega
    rw [hmk]
    gi_wp2
    go_end0
    exact ⟨⟨_, rfl⟩, .inl ⟨_, rfl, hJs⟩⟩
theorem jHC (F : Fence) (n : Nat) (hF : F.fn 130) (hro : F.round = none) (l Bs : Nat) (q : Option Addr) (c : Nat) (J : List (Nat × Fv) -> World -> Prop) (W : World) (hBs : W.heap[Bs]? = some (.cells #[.slice q 0 c] 120 (0, 0))) (h0 : J [] W) :
 CallsIn F n Tryz.prog 130 #[.func (.yield l) #[] #[], .pointer (some ⟨Bs, 0, none⟩)] W fun e W' => (∃ v, e = .returned v) /\ J [] W' := by
 refine callsIn_of_wp Tryz.func130 rfl hF ?_ hro; simp only [Tryz.ntmps130, List.size_toArray, List.length_cons, List.length_nil, Nat.reduceAdd, Nat.reduceSub, Array.replicate_succ, Array.replicate_zero, List.push_toArray, List.append_toArray, List.nil_append, List.cons_append]; have y0 := jA hBs 0 _ rfl
 gi_wp2
 gi_loopw [3] (fun i wr => i = .int .i64 (-1) /\ J [] wr) (fun _ _ => 0)
 case atStart => exact ⟨rfl, h0⟩
 case round =>
  obtain ⟨rfl, hJs⟩ := hrel
  gi_wp2
  go_end0
  exact ⟨⟨_, rfl⟩, hJs⟩
theorem jJC (F : Fence) (n : Nat) (hF : F.fn 130) (hro : F.round = none) (hn : 1 <= n) (Bs lo : Nat) (rv : Value) (zs : List Fv) (hlen : zs.length <= 1000000) (w : World) (Kp : World -> World -> Prop)
 (hKp : ∀ A B b, Kp A B -> b = Bs \/ rv.ownBlock = some b -> B.heap[b]? = A.heap[b]?)
 (hBs : w.heap[Bs]? = some (.cells #[rv] 120 (0, 0))) (hown : w.ownsRow lo 125 1 rv zs.length (zs.map fv)) :
 SeqStopsK F n Tryz.prog 130 #[.pointer (some ⟨Bs, 0, none⟩)] (fun x : Nat × Fv => #[.int .i64 (x.1 : Nat), fv x.2]) Kp (fun ys => ys = jDD zs zs.length) (fun pre => ∃ k, k <= zs.length /\ pre = jDD zs k) zs.length w := fun l J Jx W hW _ _ hY h0 => by
 have hB := jA0 hBs hW
 rcases hown.2 with ⟨rfl, h0n⟩ | ⟨g, cap, cur, rfl, a1, a2, a3, a4, a5, a6⟩
 . have hz : zs = [] := List.length_eq_zero_iff.1 h0n; subst hz; exact (jHC F n hF hro l Bs none 0 J W hB h0).mono fun e W' ⟨he, hj⟩ => ⟨he, .inl ⟨_, rfl, hj⟩⟩
 . have hg := jA0 a2 hW; refine (jLQ F n hF hro hn l Bs g cap cur zs hlen a3 Kp (fun A B h => ⟨hKp A B Bs h (.inl rfl), hKp A B g h (.inr rfl)⟩) J Jx hY W hB hg (fun j hj => ?_) h0).mono ?_
   . have hx : (zs.map fv)[j]? = some (fv (zs[j]?.getD (0, #[]))) := by rw [List.getElem?_map, List.getElem?_eq_getElem hj]; rfl
     rw [<- a6, List.getElem?_take_of_lt (by omega), Array.getElem?_toList] at hx; exact hx
   . rintro e W' ⟨he, ⟨ys, rfl, hj⟩ | ⟨pre, ⟨k, hk, rfl⟩, hj⟩⟩
     . exact ⟨he, .inl ⟨_, rfl, hj⟩⟩
     . exact ⟨he, .inr ⟨_, ⟨k, hk, rfl⟩, hj⟩⟩
theorem jNF (F : Fence) (n : Nat) (hF : F.fn 96) (hro : F.round = none) (q : Option Addr) (m c : Nat) (w : World) :
 CallsIn F n Tryz.prog 96 #[.slice q m c] w fun e w' => e = .returned (.func (.func 130) #[] #[.pointer (some ⟨w.heap.size, 0, none⟩)]) /\ w' = w.alloc (.cells #[.slice q m c] 120) := by
 refine callsIn_of_wp Tryz.func96 rfl hF ?_ hro; simp only [Tryz.ntmps96, List.size_toArray, List.length_cons, List.length_nil, Nat.reduceAdd, Nat.reduceSub, Array.replicate_succ, Array.replicate_zero, List.push_toArray, List.append_toArray, List.nil_append, List.cons_append]
 gi_wp2
 go_ret; exact ⟨rfl, rfl⟩
end Sw
end Go.Proofs.YtnhndamfbeiljaaGreatDoor
namespace Go.Proofs.YtnhndamfbeiljaaGreatDoor
open Go Go.RowKit
open Go.Lib (hid)
open List renaming getElem_toArray → jR, getElem_cons_succ → jR0, getElem_cons_zero → jR1, setIfInBounds_toArray → jR2, set_cons_zero → jR3, set_cons_succ → jR4
namespace Sw
theorem jAZ {w : World} {base e size n : Nat} {v : Value} {xs : List Value} (h : w.ownsRow base e size v n xs) : ∃ p cap, v = .slice p n cap := by
 rcases h.2 with ⟨rfl, h0⟩ | ⟨g, cap, cur, rfl, _⟩
 . exact ⟨none, 0, by rw [h0]⟩
 . exact ⟨_, _, rfl⟩
theorem jDA {w : World} {base e size n : Nat} {v : Value} {xs : List Value} (h : w.ownsRow base e size v n xs) {g : Nat} (hg : v.ownBlock = some g) : base <= g /\ ∃ cur, w.heap[g]? = some (.cells cur e (0, 0)) := by
 rcases h.2 with ⟨rfl, _⟩ | ⟨g', cap, cur, rfl, a1, a2, _⟩
 . simp [Value.ownBlock] at hg
 . simp only [Value.ownBlock, Option.some.injEq] at hg; subst hg; exact ⟨a1, cur, a2⟩
def SVx (lo B : Nat) (w : World) (T : List UInt8) (vs : List Value) (wv : Value) : Prop :=
 ∃ cs, WB 123 3 lo B w cs T /\ cs[2]? = some wv /\ w.ownsRow lo 125 1 wv vs.length vs
theorem SVx.sv {lo B : Nat} {w : World} {T : List UInt8} {vs : List Value} {wv : Value} (h : SVx lo B w T vs wv) : SV lo B w T vs := let ⟨cs, a, b, c⟩ := h; ⟨cs, wv, a, b, c⟩
theorem SV.x {lo B : Nat} {w : World} {T : List UInt8} {vs : List Value} (h : SV lo B w T vs) : ∃ wv, SVx lo B w T vs wv := let ⟨cs, wv, a, b, c⟩ := h; ⟨wv, cs, a, b, c⟩
theorem SVx.cell {lo B : Nat} {w : World} {T : List UInt8} {vs : List Value} {wv : Value} (h : SVx lo B w T vs wv) : w.cell? ⟨B, 2, none⟩ = some wv := let ⟨cs, a, b, c⟩ := h; (a.cell 2).trans b
theorem SVx.free {lo B : Nat} {w : World} {T : List UInt8} {vs : List Value} {wv : Value} (h : SVx lo B w T vs wv) : w.frozen? ⟨B, 2, none⟩ = false := let ⟨cs, a, b, c⟩ := h; a.free 2
theorem SVx.own {lo B : Nat} {w : World} {T : List UInt8} {vs : List Value} {wv : Value} (h : SVx lo B w T vs wv) : w.ownsRow lo 125 1 wv vs.length vs := let ⟨cs, a, b, c⟩ := h; c
theorem SVx.ent {lo B : Nat} {w : World} {T : List UInt8} {vs : List Value} {wv : Value} (h : SVx lo B w T vs wv) : lo <= B /\ ∃ cs, w.heap[B]? = some (.cells cs 123 (0, 0)) := let ⟨cs, a, b, c⟩ := h; ⟨a.low, cs, a.heap⟩
def jPB (B : Nat) (wv : Value) (w w' : World) : Prop := w.heap.size <= w'.heap.size /\ ∀ c o, w.heap[c]? = some o -> c ≠ B -> wv.ownBlock ≠ some c -> w'.heap[c]? = some o
theorem SVx.keep {lo B : Nat} {w w' : World} {T : List UInt8} {vs : List Value} {wv : Value} (h : SVx lo B w T vs wv) (hk : jPB B wv w w') : Keep w w' := by
 refine ⟨hk.1, fun c cs T hc h1 h2 h3 => hk.2 c _ hc (fun e => ?_) (fun e => ?_)⟩
 . obtain ⟨_, cs', hB⟩ := h.ent; subst e; rw [hc] at hB; simp only [Option.some.injEq, Obj.cells.injEq] at hB; exact h1 hB.2.1
 . obtain ⟨_, cur, hg⟩ := jDA h.own e; rw [hc] at hg; simp only [Option.some.injEq, Obj.cells.injEq] at hg; exact h3 hg.2.1
theorem jFH {w w2 : World} {r : Option Nat} (h : w.drew.grownBy w2 r) : w.grownBy w2 r := ⟨h.os, h.tape, h.output, h.size, h.block⟩
theorem jDQ {lo B : Nat} {w w2 : World} {T : List UInt8} {vs : List Value} {wv : Value} (h : SVx lo B w T vs wv) (v v' : Value) (hown : w2.ownsRow lo 125 1 v' (vs.length + 1) (vs ++ [v]))
 (hgr0 : (w.alloc (.cells #[v] 125)).drew.grownBy w2 wv.ownBlock) (hloc : v'.ownBlock = wv.ownBlock \/ ∀ g, v'.ownBlock = some g -> (w.alloc (.cells #[v] 125)).heap.size <= g) :
 SVx lo B (w2.setCell ⟨B, 2, none⟩ v') T (vs ++ [v]) v' /\ Below lo w (w2.setCell ⟨B, 2, none⟩ v') /\ jPB B wv w (w2.setCell ⟨B, 2, none⟩ v') /\ (v'.ownBlock = wv.ownBlock \/ ∀ g, v'.ownBlock = some g -> w.heap.size <= g) := by
 have hgr := jFH hgr0; obtain ⟨cs, h1, h2, h3⟩ := h; obtain ⟨bv, b1, b2⟩ := h1.own; have hlt := h1.lt; have hs : w.heap.size <= w2.heap.size := by have := hgr.size; simp at this; omega
 have hk2 : ∀ c, c < w.heap.size -> wv.ownBlock ≠ some c -> w2.heap[c]? = w.heap[c]? := fun c hc hn => (hgr.block c (by simp; omega) (fun e => hn e.symm)).trans (Below.heap_alloc w _ c hc)
 have hneB : wv.ownBlock ≠ some B := Lib.ownBlock_ne h3 h1.heap (by decide); have hB2 : w2.heap[B]? = some (.cells cs 123 (0, 0)) := (hk2 B hlt hneB).trans h1.heap; have hx : jPB B wv w (w2.setCell ⟨B, 2, none⟩ v') := ⟨by simpa [World.setCell] using hs, fun c o hc hb hn => ((Below.heap_setCell w2 ⟨B, 2, none⟩ v' c hb).trans (hk2 c (Array.getElem?_eq_some_iff.1 hc).1 hn)).trans hc⟩; refine ⟨⟨cs.setIfInBounds 2 v', ⟨heap_setCell_same w2 B 2 _ _ _ hB2, jFS h1.size _ _, h1.low, (by rw [jBK _ _ _ _ (by decide)]; exact h1.addr), bv, (jBK _ _ _ _ (by decide)).trans b1, ?_⟩, jCN _ _ _ (by have := h1.size; omega), ?_⟩, ?_, hx, ?_⟩
 . refine ⟨b2.1, ?_⟩
   rcases b2.2 with e | ⟨g, cap, cur, rfl, a1, a2, a3⟩
   . exact .inl e
   . refine .inr ⟨g, cap, cur, rfl, a1, hx.2 g _ a2 (fun e => ?_) (fun e => ?_), a3⟩
     . subst e; rw [h1.heap] at a2; simp only [Option.some.injEq, Obj.cells.injEq] at a2; exact absurd a2.2.1 (by decide)
     . obtain ⟨_, cur', hg⟩ := jDA h3 e; rw [hg] at a2; simp only [Option.some.injEq, Obj.cells.injEq] at a2; exact absurd a2.2.1 (by decide)
 . rw [show (vs ++ [v]).length = vs.length + 1 by simp]; exact jGS hown (Lib.ownBlock_ne hown hB2 (by decide))
 . have hb1 : Below lo w (w.alloc (.cells #[v] 125)) := (Below.refl lo w).alloc (by have := h1.low; omega) _; exact (hb1.grown hgr (by have := h1.low; simp; omega) (fun k hk => (jDA h3 hk).1)).setCell (p := ⟨B, 2, none⟩) h1.low _
 . rcases hloc with e | e
   . exact .inl e
   . exact .inr fun g hg => by have := e g hg; simp at this; omega
theorem jE9 {w : World} {ops : Array Oper} {o : Oper} {a : Act} {K : Act -> World -> Prop} {Q : Exit -> Act -> World -> Prop} {X : Prop} (hgd : o.guard = none) (s x : Operand)
 (ho : o.op = .call { callee := .builtin .append, args := #[s, x], argTypes := #[120, 120] }) {lo : Nat} {vs : List Value} {wv v : Value} (hs : a.eval s = wv) (hown : w.ownsRow lo 125 1 wv vs.length vs) (hlen : vs.length <= 100000000) (hlo : lo <= w.heap.size)
 (hv : v.oneCell' = true) (hx : a.eval x = .slice (some ⟨w.heap.size, 0, none⟩) 1 1)
 (h : ∀ p c w2, w2.ownsRow lo 125 1 (.slice p (vs.length + 1) c) (vs.length + 1) (vs ++ [v]) -> (w.alloc (.cells #[v] 125)).drew.grownBy w2 wv.ownBlock -> ((Value.slice p (vs.length + 1) c).ownBlock = wv.ownBlock \/ ∀ g, (Value.slice p (vs.length + 1) c).ownBlock = some g -> (w.alloc (.cells #[v] 125)).heap.size <= g) -> K (a.put o.dst (.slice p (vs.length + 1) c)) w2) :
 if Region.wanted o (yielded ops a.tmps) = true then Oper.wp Tryz.prog o a (w.alloc (.cells #[v] 125)).drew K Q else X := by
 have hw : Region.wanted o (yielded ops a.tmps) = true := by simp [Region.wanted, hgd]
 rw [if_pos hw]; obtain ⟨i0, hi, hz0, hz1, hz2⟩ := info_parts (show (Tryz.prog.info? 125).map (fun i => (i.zero, i.size, i.bytes)) = some (some .nilFunc, 1, 8) by kernel_rfl); obtain ⟨v', w', hr, h2, h3, h4⟩ := jDK (w.alloc (.cells #[v] 125)).drew lo _ o.type _ i0 .nilFunc 1 8 Tryz.underlying120 hi hz0 hz1 hz2 rfl (by decide) wv vs.length vs (hown.alloc _).drew ⟨w.heap.size, 0, none⟩ 1 1 (by decide) [v] rfl
  (fun j u hj => by
    match j, hj with
    | 0, hj => simp at hj; subst hj; rw [jP8]; exact jA (w := (w.alloc (.cells #[v] 125)).drew) (jA3 w #[v] 125) 0 _ rfl) (fun u hu => by rw [List.mem_singleton] at hu; subst hu; exact hv) (by unfold maxLen; omega) (by omega) (show lo <= (w.alloc (.cells #[v] 125)).heap.size by simp; omega)
 obtain ⟨p, c, rfl⟩ := jAZ h2; unfold Oper.wp execOp; simp only [ho, resolve, invoke, builtin, Sem.run_bind, Sem.run_pure, Result.andThen_ok, List.map_toArray, List.map_cons, List.map_nil, hs, hx, hr]; exact h p c w' h2 h3 h4
end Sw
end Go.Proofs.YtnhndamfbeiljaaGreatDoor
namespace Go.Proofs.YtnhndamfbeiljaaGreatDoor
open Go Go.RowKit Go.Shelf
open Go.Lib (hid)
open List renaming getElem_toArray → jR, getElem_cons_succ → jR0, getElem_cons_zero → jR1, setIfInBounds_toArray → jR2, set_cons_zero → jR3, set_cons_succ → jR4
attribute [local go_sem] Oper.semAt_some
namespace Sw
theorem jC2 {w : World} {a : Addr} {u : Value} (h : w.cell? a = some u) (o : Obj) : (w.alloc o).cell? a = some u := by
 rw [World.cell?_of_block (w := w)]
 . exact h
 . exact Below.heap_alloc w o _ (World.block_lt_of_cell? w _ h)
theorem jED {w w2 : World} {bx : Nat} {u v : Value} {r : Option Nat} {T : TypeId} (h : w.cell? ⟨bx, 0, none⟩ = some u) (hn : ∀ g, r = some g -> g ≠ bx) (hgr : (w.alloc (.cells #[v] T)).drew.grownBy w2 r) : w2.cell? ⟨bx, 0, none⟩ = some u := by
 have hb := World.block_lt_of_cell? w _ h; rw [World.cell?_of_block (w := w)]
 . exact h
 . exact ((jFH hgr).block bx (by simp at hb ⊢; omega) (fun e => hn bx e.symm rfl)).trans (Below.heap_alloc w _ bx hb)
theorem jG8 {w : World} {bx B j : Nat} {u v : Value} (h : w.cell? ⟨bx, 0, none⟩ = some u) (hn : bx ≠ B) : (w.setCell ⟨B, j, none⟩ v).cell? ⟨bx, 0, none⟩ = some u := by
 rw [World.cell?_of_block (w := w)]
 . exact h
 . exact Below.heap_setCell w _ _ bx hn
theorem jCS {lo B bx : Nat} {w w2 : World} {T : List UInt8} {vs : List Value} {wv v : Value} (h : SVx lo B w T vs wv) (hgr : (w.alloc (.cells #[v] 125)).drew.grownBy w2 wv.ownBlock) (hbx : ∃ u, w.heap[bx]? = some (.cells #[u] 119 (0, 0))) :
 w2.cell? ⟨B, 2, none⟩ = some wv /\ w2.frozen? ⟨B, 2, none⟩ = false /\ bx ≠ B := by
 obtain ⟨cs, h1, h2, h3⟩ := h; have hB2 : w2.heap[B]? = some (.cells cs 123 (0, 0)) := ((jFH hgr).block B (by have := h1.lt; simp; omega) (fun e => Lib.ownBlock_ne h3 h1.heap (by decide) e.symm)).trans ((Below.heap_alloc w _ B h1.lt).trans h1.heap); refine ⟨(jA hB2 2 _ h2), jA1 hB2 2, fun e => ?_⟩; obtain ⟨u, hu⟩ := hbx; subst e; rw [h1.heap] at hu; simp only [Option.some.injEq, Obj.cells.injEq] at hu; exact absurd hu.2.1 (by decide)
def endV : Value := .func (.func 95) #[] #[]
def jF2 : Value := .func (.func 98) #[] #[]
def emit (x : Nat × Fv) : List Value := if 0 < x.1 then [fv x.2, jF2] else [fv x.2]
theorem jLU {lo B : Nat} {w : World} {T : List UInt8} {vs : List Value} {wv : Value} (h : SVx lo B w T vs wv) (c : UInt8) (hlen : T.length <= 100000000) :
 Calls Tryz.prog 52 #[.pointer (some ⟨B, 0, none⟩), .int .u8 c.toNat] w fun e w' => e = .returned .nilIface /\ SVx lo B w' (T ++ [c]) vs wv /\ Below lo w w' /\ jC3 B w w' /\ Keep w w' := by
 have hlo := h.sv.low; obtain ⟨cs, h1, h2, h3⟩ := h; refine (jDW btyW h1 c hlen hlo).mono ?_; rintro e w' ⟨rfl, ⟨cs', h4, h5⟩, hb, hk⟩; exact ⟨rfl, ⟨cs', h4, (h5 2 (by omega)).trans h2, jH5 h3 h1.heap (by decide) (by decide) hk⟩, hb, hk, hk.keep h1.heap⟩
theorem SVx.below {lo B : Nat} {w w' : World} {T : List UInt8} {vs : List Value} {wv : Value} (h : SVx lo B w T vs wv) (hb : Below w.heap.size w w') : SVx lo B w' T vs wv := by
 obtain ⟨cs, h1, h2, h3⟩ := h; obtain ⟨bv, b1, b2⟩ := h1.own; exact ⟨cs, ⟨jA0 h1.heap hb, h1.size, h1.low, h1.addr, bv, b1, jA5 b2 hb⟩, h2, jA5 h3 hb⟩
theorem join_wp {P : Program} {c : Code} {a : Act} {w : World} {Q : Exit -> Act -> World -> Prop} (f : Option Addr -> Nat -> Act) (R : Option Addr -> Nat -> World -> Prop) (h1 : c.wp P (fun e a' w' => e = .normal /\ ∃ p d, a' = f p d /\ R p d w') a w) (h2 : ∀ p d w', R p d w' -> Q .normal (f p d) w') : c.wp P Q a w :=
 Code.wp_mono (fun e a w ⟨he, p, d, ha, hr⟩ => by subst he; subst ha; exact h2 p d w hr) h1
theorem jKJ {P : Program} {F : Fence} {n : Nat} {c : Code} {a : Act} {w : World} {Q : Exit -> Act -> World -> Prop} (f : Option Addr -> Nat -> Act) (R : Option Addr -> Nat -> World -> Prop) (h1 : c.wpIn F n P (fun e a' w' => e = .normal /\ ∃ p d, a' = f p d /\ R p d w') a w) (h2 : ∀ p d w', R p d w' -> Q .normal (f p d) w') : c.wpIn F n P Q a w :=
 Code.wpIn_mono (fun e a w ⟨he, p, d, ha, hr⟩ => by subst he; subst ha; exact h2 p d w hr) h1
def jLS (lo B : Nat) (w : World) (T : List UInt8) (vs : List Value) (wv v : Value) (p : Option Addr) (d : Nat) (w' : World) : Prop :=
 SVx lo B w' T (vs ++ [v]) (.slice p (vs.length + 1) d) /\ Below lo w w' /\ jPB B wv w w' /\ ((Value.slice p (vs.length + 1) d).ownBlock = wv.ownBlock \/ ∀ g, (Value.slice p (vs.length + 1) d).ownBlock = some g -> w.heap.size <= g)
theorem SVx.grown {lo B : Nat} {w w' : World} {T : List UInt8} {vs : List Value} {wv : Value} {row : Option Nat} (h : SVx lo B w T vs wv) (hg : w.grownBy w' row) (hr : ∀ r, row = some r -> ∃ o, w.heap[r]? = some o /\ o.isCells = false) : SVx lo B w' T vs wv := by
 obtain ⟨cs, h1, h2, h3⟩ := h; obtain ⟨bv, b1, b2⟩ := h1.own
 have hk : ∀ (g : Nat) (cur : Array Value) (E : TypeId), w.heap[g]? = some (.cells cur E (0, 0)) -> w'.heap[g]? = some (.cells cur E (0, 0)) := fun g cur E hc => by
  refine (hg.block g (Array.getElem?_eq_some_iff.1 hc).1 (fun e => ?_)).trans hc; obtain ⟨o, ho, hn⟩ := hr g e.symm; rw [hc] at ho; cases ho; simp [Obj.isCells] at hn
 have own : ∀ {E : TypeId} {v : Value} {n : Nat} {xs : List Value}, w.ownsRow lo E 1 v n xs -> w'.ownsRow lo E 1 v n xs := fun {E v n xs} ho => by
  refine ⟨ho.1, ?_⟩
  rcases ho.2 with e | ⟨g, cap, cur, rfl, a1, a2, a3⟩
  . exact .inl e
  . exact .inr ⟨g, cap, cur, rfl, a1, hk g cur E a2, a3⟩
 exact ⟨cs, ⟨hk B cs _ h1.heap, h1.size, h1.low, h1.addr, bv, b1, own b2⟩, h2, own h3⟩
theorem Keep.grown {w w1 w2 : World} {row : Option Nat} (h : Keep w w1) (hg : w1.grownBy w2 row) (hr : ∀ r, row = some r -> ∃ o, w1.heap[r]? = some o /\ o.isCells = false) : Keep w w2 :=
 ⟨Nat.le_trans h.1 hg.size, fun c cs T hc a1 a2 a3 => by
  have h1 := h.2 c cs T hc a1 a2 a3; refine (hg.block c (Array.getElem?_eq_some_iff.1 h1).1 (fun e => ?_)).trans h1; obtain ⟨o, ho, hn⟩ := hr c e.symm
  rw [h1] at ho; cases ho; simp [Obj.isCells] at hn⟩
def LoopI (lo B : Nat) (wS : World) (T : List UInt8) (vs : List Value) (rb : Option Nat) (pre : List (Nat × Fv)) (W : World) : Prop :=
 (∃ wv, SVx lo B W T (vs ++ pre.flatMap emit) wv /\ ∀ g, wv.ownBlock = some g -> rb ≠ some g) /\ Keep wS W /\ Below lo wS W /\ ∀ g, rb = some g -> W.heap[g]? = wS.heap[g]?
theorem jQG {lo B : Nat} {wS : World} {T : List UInt8} {vs : List Value} {rb : Option Nat} (hrb : ∀ g, rb = some g -> g < wS.heap.size) (hlo : lo <= wS.heap.size) : OwnFrom wS.heap.size (LoopI lo B wS T vs rb) := by
 rintro pre W W' row ⟨⟨wv, h1, h2⟩, h3, h4, h5⟩ hg hr; have hr2 : ∀ r, row = some r -> ∃ o, W.heap[r]? = some o /\ o.isCells = false := fun r e => (hr r e).2
 refine ⟨⟨wv, h1.grown hg hr2, h2⟩, h3.grown hg hr2, h4.grown hg (by have := h4.size; omega) (fun k e => by have := (hr k e).1; omega), fun g e => ?_⟩; refine (hg.block g (by have := h3.1; have := hrb g e; omega) (fun e2 => ?_)).trans (h5 g e); have := (hr g e2.symm).1; have := hrb g e; omega
def LoopK (Bs : Nat) (rb : Option Nat) (A B : World) : Prop := ∀ b, b = Bs \/ rb = some b -> B.heap[b]? = A.heap[b]?
theorem loopK_b {wS : World} {Bs : Nat} {rb : Option Nat} (h1 : Bs < wS.heap.size) (h2 : ∀ g, rb = some g -> g < wS.heap.size) (W : World) (l : Nat) (o o' : Obj) (hl : wS.heap.size <= l) (h : W.heap[l]? = some o) (_ : o.isCells = false) (_ : o.isWalk = false) : LoopK Bs rb W (W.putObj l o') := by
 intro b hb; have hlt := (Array.getElem?_eq_some_iff.1 h).1
 have hbl : b < l := by
  rcases hb with rfl | hb
  . omega
  . have := h2 b hb; omega
 exact (grownBy_putObj' W l o').block b (by omega) (fun e => by cases e; omega)
theorem jIY {lo B Bs : Nat} {wS W w' : World} {T : List UInt8} {VS : List Value} {rb : Option Nat} {wv v : Value} {p : Option Addr} {d : Nat} {cb : Array Value} (q1 : SVx lo B W T VS wv) (q2 : ∀ g, wv.ownBlock = some g -> rb ≠ some g) (q3 : Keep wS W) (q4 : Below lo wS W) (q5 : ∀ g, rb = some g -> W.heap[g]? = wS.heap[g]?)
 (hrb : ∀ g, rb = some g -> B < g /\ g < wS.heap.size) (hBs : wS.heap[Bs]? = some (.cells cb 120 (0, 0))) (hp : jLS lo B W T VS wv v p d w') :
 (∃ wv', SVx lo B w' T (VS ++ [v]) wv' /\ ∀ g, wv'.ownBlock = some g -> rb ≠ some g) /\ Keep wS w' /\ Below lo wS w' /\ (∀ g, rb = some g -> w'.heap[g]? = wS.heap[g]?) /\ LoopK Bs rb W w' /\ KeepsFrom wS.heap.size W w' := by
 obtain ⟨s1, s2, s3, s4⟩ := hp; have hsz := q3.1
 have hr : ∀ g, rb = some g -> w'.heap[g]? = W.heap[g]? := fun g hg => by
  have h1 := hrb g hg; obtain ⟨o, ho⟩ : ∃ o, W.heap[g]? = some o := ⟨_, Array.getElem?_eq_getElem (by omega)⟩
  rw [ho]; exact s3.2 g o ho (by omega) (fun e => q2 g e hg)
 have hb : w'.heap[Bs]? = W.heap[Bs]? := by
  have h1 := q3.2 Bs _ _ hBs (by decide) (by decide) (by decide); rw [h1]; refine s3.2 Bs _ h1 (fun e => ?_) (fun e => ?_)
  . obtain ⟨_, cs, hc⟩ := q1.ent; subst e; rw [h1] at hc; simp only [Option.some.injEq, Obj.cells.injEq] at hc; exact absurd hc.2.1 (by decide)
  . obtain ⟨_, cur, hc⟩ := jDA q1.own e; rw [h1] at hc; simp only [Option.some.injEq, Obj.cells.injEq] at hc; exact absurd hc.2.1 (by decide)
 refine ⟨⟨_, s1, fun g hg e => ?_⟩, q3.trans (q1.keep s3), q4.trans s2, fun g hg => (hr g hg).trans (q5 g hg), fun b hbb => ?_, ⟨s3.1, fun k o _ hk ho => s3.2 k o hk (fun e => ?_) (fun e => ?_)⟩⟩
 . rcases s4 with h | h
   . exact q2 g (h ▸ hg) e
   . have := h g hg; have := (hrb g e).2; omega
 . rcases hbb with rfl | hbb
   . exact hb
   . exact hr b hbb
 . obtain ⟨_, cs, hc⟩ := q1.ent; subst e; rw [hk] at hc; simp only [Option.some.injEq] at hc; subst hc; simp [Obj.isCells] at ho
 . obtain ⟨_, cur, hc⟩ := jDA q1.own e; rw [hk] at hc; simp only [Option.some.injEq] at hc; subst hc; simp [Obj.isCells] at ho
theorem emit_len (l : List (Nat × Fv)) : (l.flatMap emit).length <= 2 * l.length := by
 induction l with
 | nil => simp
 | cons x r ih =>
   have : (emit x).length <= 2 := by unfold emit; split <;> simp
   simp only [List.flatMap_cons, List.length_append, List.length_cons]; omega
theorem jKN (a : List (Nat × Fv)) (x : Nat × Fv) : (a ++ [x]).flatMap emit = a.flatMap emit ++ emit x := by simp
theorem jJ0 {lo B : Nat} {w1 w : World} {T : List UInt8} {vs : List Value} (h : SV lo B w1 T vs) (hb : Below w1.heap.size w1 w) (gq : Option Addr) (gn gc : Nat) (ls : List (List Fv)) (zs : List Fv) (hz : ls.flatten = zs) (hg : GRow w1.heap.size w (.slice gq gn gc) (ls.map fun l => l.map fv))
 (hT : T.length <= 80000000) (hn : zs.length <= 1000000) (hm : ls.length <= 1000) (hv : vs.length <= 10000000) :
 Calls Tryz.prog 55 #[.pointer (some ⟨B, 0, none⟩), .slice gq gn gc] w fun e w' => e = .returned (.tuple #[]) /\ SV lo B w' (T ++ [40]) (vs ++ [endV] ++ (jDD zs zs.length).flatMap emit) /\ Below lo w w' /\ Keep w w' := by
 have hlo := h.low; have hBlt : B < w1.heap.size := by obtain ⟨cs, wv, h1, _⟩ := h; exact h1.lt
 have hsz := hb.size; have hA : Below w.heap.size w (w.alloc (.cells #[.pointer (some ⟨B, 0, none⟩)] 119)) := (Below.refl _ _).alloc (Nat.le_refl _) _; obtain ⟨wv, hx1⟩ := h.x; have hwv1 : ∀ g, wv.ownBlock = some g -> g < w1.heap.size := fun g hg2 => by obtain ⟨_, cur, hc⟩ := jDA hx1.own hg2; exact (Array.getElem?_eq_some_iff.1 hc).1
 have HW := hid ((hx1.below hb).below hA); have HWV := hid hwv1; have HG := hid (hg.keep (w' := w.alloc (.cells #[.pointer (some ⟨B, 0, none⟩)] 119)) fun g cur E _ _ he => jA0 he hA); have HBX := hid (jA3 w #[.pointer (some ⟨B, 0, none⟩)] 119); have HA := hid hA; have HT := hid hT; have HN := hid hn; have HM := hid hm; have HV := hid hv; have HLO1 := hid hlo; have HFL : Hid ((ls.map fun l => l.map fv).flatten = zs.map fv) := hid (by rw [<- hz, List.map_flatten]); refine (callsIn_wide (n := 6)).1 ?_; refine callsIn_of_wp_marks Tryz.func55 rfl trivial ?_ rfl; simp only [Tryz.ntmps55, List.size_toArray, List.length_cons, List.length_nil, Nat.reduceAdd, Nat.reduceSub, Array.replicate_succ, Array.replicate_zero, List.push_toArray, List.append_toArray, List.nil_append, List.cons_append]; clear h hb hg hT hn hm hv hA hlo hz hx1 hwv1
 gi_wp2
 obtain ⟨bx, hbx⟩ : ∃ bx, bx = w.heap.size := ⟨_, rfl⟩
 obtain ⟨w0, hw0⟩ : ∃ w0, w0 = w.alloc (.cells #[.pointer (some ⟨B, 0, none⟩)] 119) := ⟨_, rfl⟩
 rw [<- hw0] at HW HG HBX HA ⊢; rw [<- hbx] at HBX ⊢; have hbxl : w1.heap.size <= bx := by omega
 have hbxs : bx < w0.heap.size := jA6 HBX.out; have HWS := hid (show w.heap.size <= w0.heap.size by omega); clear hbx hw0; refine ⟨trivial, (callsIn_wide.2 (jLU HW.out 40 (by have := HT.out; omega))).mono ?_⟩; rintro e wa ⟨rfl, h1, hb1, hk1, hkk1⟩; have EXa := hid (hk1.2 bx _ HBX.out (by omega) (fun cs fr e => by simp only [Obj.cells.injEq] at e; exact absurd e.2.1 (by decide))); have GA := hid (HG.out.keep (w' := wa) fun g cur E hgl hE he => hk1.2 g _ he (by omega) (fun cs fr e => by simp only [Obj.cells.injEq] at e; rcases hE with rfl | rfl <;> exact absurd e.2.1 (by decide))); have KA := hid hkk1; have BA := hid hb1; have SX := hid h1; have EB := hid (show ∃ u, wa.heap[bx]? = some (.cells #[u] 119 (0, 0)) from ⟨_, EXa.out⟩); have EX := hid (jA EXa.out 0 (.pointer (some ⟨B, 0, none⟩)) rfl); have HBQ := hid (show ∀ g, wv.ownBlock = some g -> g ≠ bx from fun g hg2 => by have := HWV.out g hg2; omega); have hla : lo <= wa.heap.size := by have := hb1.size; have := HLO1.out; omega
 have HLO := hid hla; clear h1 hb1 hk1 hkk1
 gi_wp2
 refine wpIn_wide.2 ?_; refine join_wp (fun p d => { tmps := List.toArray (.pointer (some ⟨B, 0, none⟩) :: .slice gq gn gc :: .pointer (some ⟨bx, 0, none⟩) :: undef :: undef :: undef :: .pointer (some ⟨B, 0, none⟩) :: .pointer (some ⟨B, 0, none⟩) :: .pointer (some ⟨B, 0, none⟩) :: .nilIface :: .pointer (some ⟨B, 0, none⟩) :: .pointer (some ⟨B, 0, none⟩) :: .pointer (some ⟨B, 0, none⟩) :: .pointer (some ⟨B, 2, none⟩) :: wv :: .slice (some ⟨wa.heap.size, 0, none⟩) 1 1 :: .slice p (vs.length + 1) d :: .pointer (some ⟨B, 0, none⟩) :: .pointer (some ⟨B, 2, none⟩) :: undef :: undef :: undef :: undef :: undef :: undef :: undef :: undef :: undef :: undef :: undef :: undef :: undef :: undef :: undef :: undef :: undef :: undef :: undef :: undef :: undef :: undef :: undef :: undef :: undef :: undef :: []), defers := [] }) (jLS lo B wa (T ++ [40]) vs wv (.func (.func 95) #[] #[])) ?_ ?_
 . refine wp_region_held_drew (S := fun (u : World) => u.cell? ⟨bx, 0, none⟩ = some (.pointer (some ⟨B, 0, none⟩))) (by kernel_rfl) (show wa.drew.cell? _ = _ from EX.out) (fun hHeld => ?_); refine wpAnyH_take (i := 0) (v := .pointer (some ⟨B, 0, none⟩)) rfl (by kernel_rfl) (by kernel_rfl) (by kernel_rfl) (fun _ _ _ h => by first | exact h | exact h.elim | (cases h.1)) (Or.inl ⟨by rfl, fun w' hSw => by have z0 : w'.cell? ⟨bx, 0, none⟩ = some (.pointer (some ⟨B, 0, none⟩)) := hSw; go_simp⟩) hHeld ?_; refine wpAnyH_take (i := 1) (v := .pointer (some ⟨B, 0, none⟩)) rfl (by kernel_rfl) (by kernel_rfl) (by kernel_rfl) (fun _ _ _ h => by first | exact h | exact h.elim | (cases h.1)) (Or.inl ⟨by rfl, fun w' hSw => by have z0 : w'.cell? ⟨bx, 0, none⟩ = some (.pointer (some ⟨B, 0, none⟩)) := hSw; go_simp⟩) hHeld ?_; refine wpAnyH_take (i := 2) (v := .pointer (some ⟨B, 0, none⟩)) rfl (by kernel_rfl) (by kernel_rfl) (by kernel_rfl) (fun _ _ _ h => by first | exact h | exact h.elim | (cases h.1)) (Or.inl ⟨by rfl, fun w' hSw => by go_simp⟩) hHeld ?_; refine wpAnyH_take (i := 3) (v := .pointer (some ⟨B, 2, none⟩)) rfl (by kernel_rfl) (by kernel_rfl) (by kernel_rfl) (fun _ _ _ h => by first | exact h | exact h.elim | (cases h.1)) (Or.inl ⟨by rfl, fun w' hSw => by go_simp⟩) hHeld ?_
   try simp only [Act.put, jR, jR0, jR1, jR2, jR3, jR4]
   refine wpAnyH_ready (rs := [4, 5]) (by kernel_rfl) (by simp) ?_; refine AllReadyH.cons rfl (fun K hK => ?_) (AllReadyH.cons rfl (fun K hK => ?_) AllReadyH.nil)
   . have z2 : wa.drew.cell? ⟨B, 2, none⟩ = some wv := SX.out.cell; go_simp; clear z2; refine hK.out _ _ EX.out (fun hHeld => ?_); clear hK K; refine wR 5 rfl (fun K hK => ?_); go_simp; refine hK.out _ _ (show (wa.alloc (.cells #[.func (.func 95) #[] #[]] 125)).drew.cell? _ = _ from jC2 EX.out _) (fun hHeld => ?_); clear hK K; refine wR 6 rfl (fun K hK => ?_); refine jE9 (w := wa) rfl _ _ rfl rfl SX.out.own (by have := HV.out; omega) HLO.out rfl rfl ?_; intro pc cc w2 g1 g2 g3; obtain ⟨k1, k2, k3, k4⟩ := jDQ SX.out _ _ g1 g2 g3; have hB2 := jCS SX.out g2 EB.out; have hbx2 := jED EX.out HBQ.out g2; refine hK.out _ _ hbx2 (fun hHeld => ?_); clear hK K g1 g2 g3; refine wpAnyH_take (i := 7) (v := .pointer (some ⟨B, 0, none⟩)) rfl (by kernel_rfl) (by kernel_rfl) (by kernel_rfl) (fun _ _ _ h => by first | exact h | exact h.elim | (cases h.1)) (Or.inl ⟨by rfl, fun w' hSw => by go_simp⟩) hHeld ?_
     try simp only [Act.put, jR, jR0, jR1, jR2, jR3, jR4]
     refine wpAnyH_take (i := 8) (v := .pointer (some ⟨B, 2, none⟩)) rfl (by kernel_rfl) (by kernel_rfl) (by kernel_rfl) (fun _ _ _ h => by first | exact h | exact h.elim | (cases h.1)) (Or.inl ⟨by rfl, fun w' hSw => by go_simp⟩) hHeld ?_
     try simp only [Act.put, jR, jR0, jR1, jR2, jR3, jR4]
     refine wR 9 rfl (fun K hK => ?_); obtain ⟨z2, zf, zb⟩ := hB2; go_simp; clear z2 zf; refine hK.out _ _ (jG8 hbx2 zb) (fun hHeld => ?_); clear hK K hbx2 zb; refine wpAnyH_done (by kernel_rfl) ?_ _; exact ⟨rfl, pc, cc, rfl, k1, k2, k3, k4⟩
   . go_simp; refine hK.out _ _ (show (wa.alloc (.cells #[.func (.func 95) #[] #[]] 125)).drew.cell? _ = _ from jC2 EX.out _) (fun hHeld => ?_); clear hK K; refine wR 4 rfl (fun K hK => ?_); have z2 : (wa.alloc (.cells #[.func (.func 95) #[] #[]] 125)).cell? ⟨B, 2, none⟩ = some wv := jC2 SX.out.cell _; go_simp; clear z2; refine hK.out _ _ (show (wa.alloc (.cells #[.func (.func 95) #[] #[]] 125)).drew.cell? _ = _ from jC2 EX.out _) (fun hHeld => ?_); clear hK K; refine wR 6 rfl (fun K hK => ?_); refine jE9 (w := wa) rfl _ _ rfl rfl SX.out.own (by have := HV.out; omega) HLO.out rfl rfl ?_; intro pc cc w2 g1 g2 g3; obtain ⟨k1, k2, k3, k4⟩ := jDQ SX.out _ _ g1 g2 g3; have hB2 := jCS SX.out g2 EB.out; have hbx2 := jED EX.out HBQ.out g2; refine hK.out _ _ hbx2 (fun hHeld => ?_); clear hK K g1 g2 g3; refine wpAnyH_take (i := 7) (v := .pointer (some ⟨B, 0, none⟩)) rfl (by kernel_rfl) (by kernel_rfl) (by kernel_rfl) (fun _ _ _ h => by first | exact h | exact h.elim | (cases h.1)) (Or.inl ⟨by rfl, fun w' hSw => by go_simp⟩) hHeld ?_
     try simp only [Act.put, jR, jR0, jR1, jR2, jR3, jR4]
     refine wpAnyH_take (i := 8) (v := .pointer (some ⟨B, 2, none⟩)) rfl (by kernel_rfl) (by kernel_rfl) (by kernel_rfl) (fun _ _ _ h => by first | exact h | exact h.elim | (cases h.1)) (Or.inl ⟨by rfl, fun w' hSw => by go_simp⟩) hHeld ?_
     try simp only [Act.put, jR, jR0, jR1, jR2, jR3, jR4]
     refine wR 9 rfl (fun K hK => ?_); obtain ⟨z2, zf, zb⟩ := hB2; go_simp; clear z2 zf; refine hK.out _ _ (jG8 hbx2 zb) (fun hHeld => ?_); clear hK K hbx2 zb; refine wpAnyH_done (by kernel_rfl) ?_ _; exact ⟨rfl, pc, cc, rfl, k1, k2, k3, k4⟩
 intro p0 d0 wb ⟨s1, s2, s3, s4⟩; have EXb := hid (s3.2 bx _ EXa.out (by omega) (fun e => HBQ.out bx e rfl)); have GB := hid (GA.out.keep (w' := wb) fun g cur E hgl hE he => s3.2 g _ he (by omega) (fun e => by have := HWV.out g e; omega)); have KB := hid (KA.out.trans (SX.out.keep s3)); have BB := hid (BA.out.trans s2); have hwv2 : ∀ g, (Value.slice p0 (vs.length + 1) d0).ownBlock = some g -> g < wb.heap.size := fun g hg2 => by obtain ⟨_, cur, hc⟩ := jDA s1.own hg2; exact (Array.getElem?_eq_some_iff.1 hc).1
 have HWV2 := hid hwv2; have SB := hid s1; have hsb : wa.heap.size <= wb.heap.size := s3.1; have hsa : w0.heap.size <= wa.heap.size := BA.out.size; clear s1 s2 s3 s4 hwv2 SX EX EB GA KA BA HBQ
 gi_wp2
 refine ⟨trivial, (callsIn_wide.2 (jOH w1.heap.size _ _ wb GB.out.row (by rw [HFL.out, List.length_map]; exact HN.out) (by rw [List.length_map]; have := HM.out; omega))).mono ?_⟩; rw [HFL.out, List.length_map]; rintro e wc ⟨rv, rfl, hbc, hown⟩; obtain ⟨rq, rc, rfl⟩ := jAZ hown; have HOC := hid hown; have HBC := hid hbc; clear hown hbc
 gi_wp2
 refine ⟨trivial, (jNF Fence.wide _ trivial rfl _ _ _ wc).mono ?_⟩; rintro e wS ⟨rfl, hwS⟩; have hBS : Below wc.heap.size wc wS := by rw [hwS]; exact (Below.refl _ _).alloc (Nat.le_refl _) _
 have hES : wS.heap[wc.heap.size]? = some (.cells #[.slice rq zs.length rc] 120 (0, 0)) := by rw [hwS]; exact jA3 wc _ _
 have hsS : wS.heap.size = wc.heap.size + 1 := by rw [hwS]; simp
 have HBS := hid hBS; have HES := hid hES; obtain ⟨Bs, hBs⟩ : ∃ Bs, Bs = wc.heap.size := ⟨_, rfl⟩
 rw [<- hBs] at HES ⊢; have hBsl : wb.heap.size <= Bs := by rw [hBs]; exact HBC.out.size
 have hBss : Bs < wS.heap.size := jA6 HES.out; have HOS := hid (jA5 HOC.out HBS.out); have HBbS := hid (HBC.out.trans (HBS.out.mono HBC.out.size)); have hsbs : wb.heap.size <= wS.heap.size := HBbS.out.size; clear hwS hBS hES hsS hBs HOC
 gi_wp2
 have hrb : ∀ g, (Value.slice rq zs.length rc).ownBlock = some g -> wb.heap.size <= g /\ g < wS.heap.size := fun g hg2 => by
  obtain ⟨a1, cur, hc⟩ := jDA HOS.out hg2; exact ⟨a1, (Array.getElem?_eq_some_iff.1 hc).1⟩
 have HRB := hid hrb; have hlo0 : lo <= wS.heap.size := by have := HLO1.out; omega
 have h0 : LoopI lo B wS (T ++ [40]) (vs ++ [endV]) (Value.slice rq zs.length rc).ownBlock [] wS := ⟨⟨_, by rw [List.flatMap_nil, List.append_nil]; exact SB.out.below HBbS.out, fun g hg2 e => by have := HWV2.out g hg2; have := (HRB.out g e).1; omega⟩, Keep.refl _, Below.refl _ _, fun _ _ => rfl⟩; have H0 := hid h0; have EXS := hid (jA0 EXb.out HBbS.out); clear hrb h0
 trace_state
 refine wpIn_rangeFunc_ownG (α := Nat × Fv) rfl (by decide) (gf := 130) (lb := #[.pointer (some ⟨Bs, 0, none⟩)]) rfl trivial (enters_of Tryz.func130 (by kernel_rfl) rfl)
  (jJC Fence.wide _ trivial rfl (by decide) Bs wb.heap.size _ zs HN.out wS (LoopK Bs (Value.slice rq zs.length rc).ownBlock) (fun A B b h hb => h b hb) HES.out HOS.out) (fun h k b hb => (k b hb).trans (h b hb)) (loopK_b hBss (fun g hg2 => (HRB.out g hg2).2)) (Below.refl _ _) (fun _ => rfl)
  (LoopI lo B wS (T ++ [40]) (vs ++ [endV]) (Value.slice rq zs.length rc).ownBlock) (fun _ _ _ => False) (jQG (fun g hg2 => (HRB.out g hg2).2) hlo0) (fun _ _ _ _ _ hs _ _ => hs) H0.out (fun x => { tmps := List.toArray (.pointer (some ⟨B, 0, none⟩) :: .slice gq gn gc :: .pointer (some ⟨bx, 0, none⟩) :: undef :: .int .i64 (x.1 : Nat) :: fv x.2 :: .pointer (some ⟨B, 0, none⟩) :: .pointer (some ⟨B, 0, none⟩) :: .pointer (some ⟨B, 0, none⟩) :: .nilIface :: .pointer (some ⟨B, 0, none⟩) :: .pointer (some ⟨B, 0, none⟩) :: .pointer (some ⟨B, 0, none⟩) :: .pointer (some ⟨B, 2, none⟩) :: wv :: .slice (some ⟨wa.heap.size, 0, none⟩) 1 1 :: .slice p0 (vs.length + 1) d0 :: .pointer (some ⟨B, 0, none⟩) :: .pointer (some ⟨B, 2, none⟩) :: .slice gq gn gc :: .slice rq zs.length rc :: .func (.func 130) #[] #[.pointer (some ⟨Bs, 0, none⟩)] :: .int .i64 (x.1 : Nat) :: fv x.2 :: undef :: undef :: undef :: undef :: undef :: undef :: undef :: undef :: undef :: undef :: undef :: undef :: undef :: undef :: undef :: undef :: undef :: undef :: undef :: undef :: undef :: []), defers := [] }) ?assign ?body ?done ?stop
 case assign =>
  intro l x W K hK
  gi_wp2
  exact hK
 case body =>
  rintro l pre ⟨xi, z1, z2⟩ W ⟨⟨wvr, q1, q2⟩, q3, q4, q5⟩ hpl; have q6 := q3.2 bx _ _ EXS.out (by decide) (by decide) (by decide); have SX := hid q1; have Q2 := hid q2; have Q3 := hid q3; have Q4 := hid q4; have Q5 := hid q5; have EB := hid (show ∃ u, W.heap[bx]? = some (.cells #[u] 119 (0, 0)) from ⟨_, q6⟩); have EX := hid (jA q6 0 (.pointer (some ⟨B, 0, none⟩)) rfl); have HBQ := hid (show ∀ g, wvr.ownBlock = some g -> g ≠ bx from fun g hg2 e => by obtain ⟨_, cur, hc⟩ := jDA q1.own hg2; subst e; rw [q6] at hc; simp only [Option.some.injEq, Obj.cells.injEq] at hc; exact absurd hc.2.1 (by decide)); have HLO := hid (show lo <= W.heap.size by have := q3.1; omega); have HLE := hid (show (vs ++ [endV] ++ pre.flatMap emit).length <= 90000000 by have := emit_len pre; have := HV.out; have := HN.out; simp only [List.length_append, List.length_cons, List.length_nil]; omega); clear q1 q2 q3 q4 q5 q6 hpl SB H0; obtain ⟨VS, hVS⟩ : ∃ VS, VS = vs ++ [endV] ++ pre.flatMap emit := ⟨_, rfl⟩
  rw [<- hVS] at SX HLE; have HVS := hid hVS; clear hVS; simp only [fv]
  gi_wp2
  refine jKJ (fun p d => { tmps := List.toArray (.pointer (some ⟨B, 0, none⟩) :: .slice gq gn gc :: .pointer (some ⟨bx, 0, none⟩) :: undef :: .int .i64 (xi : Nat) :: .func (.func z1) #[] z2 :: .pointer (some ⟨B, 0, none⟩) :: .pointer (some ⟨B, 0, none⟩) :: .pointer (some ⟨B, 0, none⟩) :: .nilIface :: .pointer (some ⟨B, 0, none⟩) :: .pointer (some ⟨B, 0, none⟩) :: .pointer (some ⟨B, 0, none⟩) :: .pointer (some ⟨B, 2, none⟩) :: wv :: .slice (some ⟨wa.heap.size, 0, none⟩) 1 1 :: .slice p0 (vs.length + 1) d0 :: .pointer (some ⟨B, 0, none⟩) :: .pointer (some ⟨B, 2, none⟩) :: .slice gq gn gc :: .slice rq zs.length rc :: .func (.func 130) #[] #[.pointer (some ⟨Bs, 0, none⟩)] :: .int .i64 (xi : Nat) :: .func (.func z1) #[] z2 :: .pointer (some ⟨B, 0, none⟩) :: .pointer (some ⟨B, 0, none⟩) :: .pointer (some ⟨B, 0, none⟩) :: .pointer (some ⟨B, 2, none⟩) :: wvr :: .func (.func z1) #[] z2 :: .slice (some ⟨W.heap.size, 0, none⟩) 1 1 :: .slice p (VS.length + 1) d :: .pointer (some ⟨B, 0, none⟩) :: .pointer (some ⟨B, 2, none⟩) :: undef :: undef :: undef :: undef :: undef :: undef :: undef :: undef :: undef :: undef :: undef :: []), defers := [] }) (jLS lo B W (T ++ [40]) VS wvr (.func (.func z1) #[] z2)) ?_ ?_
  . refine jGR (S := fun (u : World) => u.cell? ⟨bx, 0, none⟩ = some (.pointer (some ⟨B, 0, none⟩))) (by kernel_rfl) (by kernel_rfl) (show W.drew.cell? _ = _ from EX.out) (fun hHeld => ?_); refine wpAnyH_take (i := 0) (v := .pointer (some ⟨B, 0, none⟩)) rfl (by kernel_rfl) (by kernel_rfl) (by kernel_rfl) (fun _ _ _ h => by first | exact h | exact h.elim | (cases h.1)) (Or.inl ⟨by rfl, fun w' hSw => by have z0 : w'.cell? ⟨bx, 0, none⟩ = some (.pointer (some ⟨B, 0, none⟩)) := hSw; go_simp⟩) hHeld ?_; refine wpAnyH_take (i := 1) (v := .pointer (some ⟨B, 0, none⟩)) rfl (by kernel_rfl) (by kernel_rfl) (by kernel_rfl) (fun _ _ _ h => by first | exact h | exact h.elim | (cases h.1)) (Or.inl ⟨by rfl, fun w' hSw => by have z0 : w'.cell? ⟨bx, 0, none⟩ = some (.pointer (some ⟨B, 0, none⟩)) := hSw; go_simp⟩) hHeld ?_; refine wpAnyH_take (i := 2) (v := .pointer (some ⟨B, 0, none⟩)) rfl (by kernel_rfl) (by kernel_rfl) (by kernel_rfl) (fun _ _ _ h => by first | exact h | exact h.elim | (cases h.1)) (Or.inl ⟨by rfl, fun w' hSw => by go_simp⟩) hHeld ?_; refine wpAnyH_take (i := 3) (v := .pointer (some ⟨B, 2, none⟩)) rfl (by kernel_rfl) (by kernel_rfl) (by kernel_rfl) (fun _ _ _ h => by first | exact h | exact h.elim | (cases h.1)) (Or.inl ⟨by rfl, fun w' hSw => by go_simp⟩) hHeld ?_; refine wpAnyH_take (i := 5) (v := .func (.func z1) #[] z2) rfl (by kernel_rfl) (by kernel_rfl) (by kernel_rfl) (fun _ _ _ h => by first | exact h | exact h.elim | (cases h.1)) (Or.inl ⟨by rfl, fun w' hSw => by go_simp⟩) hHeld ?_
    try simp only [Act.put, jR, jR0, jR1, jR2, jR3, jR4]
    refine wpAnyH_ready (rs := [4, 6]) (by kernel_rfl) (by simp) ?_; refine AllReadyH.cons rfl (fun K hK => ?_) (AllReadyH.cons rfl (fun K hK => ?_) AllReadyH.nil)
    . have z2 : W.drew.cell? ⟨B, 2, none⟩ = some wvr := SX.out.cell; go_simp; clear z2; refine hK.out _ _ EX.out (fun hHeld => ?_); clear hK K; refine wR 6 rfl (fun K hK => ?_); go_simp; refine hK.out _ _ (show (W.alloc (.cells #[.func (.func z1) #[] z2] 125)).drew.cell? _ = _ from jC2 EX.out _) (fun hHeld => ?_); clear hK K; refine wR 7 rfl (fun K hK => ?_); refine jE9 (w := W) rfl _ _ rfl rfl SX.out.own (by have := HLE.out; omega) HLO.out rfl rfl ?_; intro pc cc w2 g1 g2 g3; obtain ⟨k1, k2, k3, k4⟩ := jDQ SX.out _ _ g1 g2 g3; have hB2 := jCS SX.out g2 EB.out; have hbx2 := jED EX.out HBQ.out g2; refine hK.out _ _ hbx2 (fun hHeld => ?_); clear hK K g1 g2 g3; refine wpAnyH_take (i := 8) (v := .pointer (some ⟨B, 0, none⟩)) rfl (by kernel_rfl) (by kernel_rfl) (by kernel_rfl) (fun _ _ _ h => by first | exact h | exact h.elim | (cases h.1)) (Or.inl ⟨by rfl, fun w' hSw => by go_simp⟩) hHeld ?_
      try simp only [Act.put, jR, jR0, jR1, jR2, jR3, jR4]
      refine wpAnyH_take (i := 9) (v := .pointer (some ⟨B, 2, none⟩)) rfl (by kernel_rfl) (by kernel_rfl) (by kernel_rfl) (fun _ _ _ h => by first | exact h | exact h.elim | (cases h.1)) (Or.inl ⟨by rfl, fun w' hSw => by go_simp⟩) hHeld ?_
      try simp only [Act.put, jR, jR0, jR1, jR2, jR3, jR4]
      refine wR 10 rfl (fun K hK => ?_); obtain ⟨z2, zf, zb⟩ := hB2; go_simp; clear z2 zf; refine hK.out _ _ (jG8 hbx2 zb) (fun hHeld => ?_); clear hK K hbx2 zb; refine wpAnyH_done (by kernel_rfl) ?_ _; exact ⟨rfl, pc, cc, rfl, k1, k2, k3, k4⟩
    . go_simp; refine hK.out _ _ (show (W.alloc (.cells #[.func (.func z1) #[] z2] 125)).drew.cell? _ = _ from jC2 EX.out _) (fun hHeld => ?_); clear hK K; refine wR 4 rfl (fun K hK => ?_); have z2 : (W.alloc (.cells #[.func (.func z1) #[] z2] 125)).cell? ⟨B, 2, none⟩ = some wvr := jC2 SX.out.cell _; go_simp; clear z2; refine hK.out _ _ (show (W.alloc (.cells #[.func (.func z1) #[] z2] 125)).drew.cell? _ = _ from jC2 EX.out _) (fun hHeld => ?_); clear hK K; refine wR 7 rfl (fun K hK => ?_); refine jE9 (w := W) rfl _ _ rfl rfl SX.out.own (by have := HLE.out; omega) HLO.out rfl rfl ?_; intro pc cc w2 g1 g2 g3; obtain ⟨k1, k2, k3, k4⟩ := jDQ SX.out _ _ g1 g2 g3; have hB2 := jCS SX.out g2 EB.out; have hbx2 := jED EX.out HBQ.out g2; refine hK.out _ _ hbx2 (fun hHeld => ?_); clear hK K g1 g2 g3; refine wpAnyH_take (i := 8) (v := .pointer (some ⟨B, 0, none⟩)) rfl (by kernel_rfl) (by kernel_rfl) (by kernel_rfl) (fun _ _ _ h => by first | exact h | exact h.elim | (cases h.1)) (Or.inl ⟨by rfl, fun w' hSw => by go_simp⟩) hHeld ?_
      try simp only [Act.put, jR, jR0, jR1, jR2, jR3, jR4]
      refine wpAnyH_take (i := 9) (v := .pointer (some ⟨B, 2, none⟩)) rfl (by kernel_rfl) (by kernel_rfl) (by kernel_rfl) (fun _ _ _ h => by first | exact h | exact h.elim | (cases h.1)) (Or.inl ⟨by rfl, fun w' hSw => by go_simp⟩) hHeld ?_
      try simp only [Act.put, jR, jR0, jR1, jR2, jR3, jR4]
      refine wR 10 rfl (fun K hK => ?_); obtain ⟨z2, zf, zb⟩ := hB2; go_simp; clear z2 zf; refine hK.out _ _ (jG8 hbx2 zb) (fun hHeld => ?_); clear hK K hbx2 zb; refine wpAnyH_done (by kernel_rfl) ?_ _; exact ⟨rfl, pc, cc, rfl, k1, k2, k3, k4⟩
  intro p2 d2 wx hp; obtain ⟨⟨wv3, q1, q2⟩, q3, q4, q5, kk, kf⟩ := jIY SX.out Q2.out Q3.out Q4.out Q5.out (fun g hg2 => ⟨by have := (HRB.out g hg2).1; omega, (HRB.out g hg2).2⟩) HES.out hp; clear hp; have KK := hid kk; have KF := hid kf; clear kk kf SX Q2 Q3 Q4 Q5 EB EX HBQ HLO; by_cases hxi : 0 < xi
  . have hxi2 : (0 : Int) < (xi : Int) := by omega
    obtain ⟨VS2, hVS2⟩ : ∃ VS2, VS2 = VS ++ [Value.func (.func z1) #[] z2] := ⟨_, rfl⟩
    rw [<- hVS2] at q1; have HLE2 := hid (show VS2.length <= 100000000 by have := HLE.out; rw [hVS2, List.length_append]; simp; omega); have HVS2 := hid hVS2; clear hVS2; have q6 := q3.2 bx _ _ EXS.out (by decide) (by decide) (by decide); have SX := hid q1; have Q2 := hid q2; have Q3 := hid q3; have Q4 := hid q4; have Q5 := hid q5; have EB := hid (show ∃ u, wx.heap[bx]? = some (.cells #[u] 119 (0, 0)) from ⟨_, q6⟩); have EX := hid (jA q6 0 (.pointer (some ⟨B, 0, none⟩)) rfl); have HBQ := hid (show ∀ g, wv3.ownBlock = some g -> g ≠ bx from fun g hg2 e => by obtain ⟨_, cur, hc⟩ := jDA q1.own hg2; subst e; rw [q6] at hc; simp only [Option.some.injEq, Obj.cells.injEq] at hc; exact absurd hc.2.1 (by decide)); have HLO := hid (show lo <= wx.heap.size by have := q3.1; omega); clear q1 q2 q3 q4 q5 q6
    gi_wp2
    refine jKJ (fun p d => { tmps := List.toArray (.pointer (some ⟨B, 0, none⟩) :: .slice gq gn gc :: .pointer (some ⟨bx, 0, none⟩) :: undef :: .int .i64 (xi : Nat) :: .func (.func z1) #[] z2 :: .pointer (some ⟨B, 0, none⟩) :: .pointer (some ⟨B, 0, none⟩) :: .pointer (some ⟨B, 0, none⟩) :: .nilIface :: .pointer (some ⟨B, 0, none⟩) :: .pointer (some ⟨B, 0, none⟩) :: .pointer (some ⟨B, 0, none⟩) :: .pointer (some ⟨B, 2, none⟩) :: wv :: .slice (some ⟨wa.heap.size, 0, none⟩) 1 1 :: .slice p0 (vs.length + 1) d0 :: .pointer (some ⟨B, 0, none⟩) :: .pointer (some ⟨B, 2, none⟩) :: .slice gq gn gc :: .slice rq zs.length rc :: .func (.func 130) #[] #[.pointer (some ⟨Bs, 0, none⟩)] :: .int .i64 (xi : Nat) :: .func (.func z1) #[] z2 :: .pointer (some ⟨B, 0, none⟩) :: .pointer (some ⟨B, 0, none⟩) :: .pointer (some ⟨B, 0, none⟩) :: .pointer (some ⟨B, 2, none⟩) :: wvr :: .func (.func z1) #[] z2 :: .slice (some ⟨W.heap.size, 0, none⟩) 1 1 :: .slice p2 (VS.length + 1) d2 :: .pointer (some ⟨B, 0, none⟩) :: .pointer (some ⟨B, 2, none⟩) :: .int .i64 (xi : Nat) :: .bool true :: .pointer (some ⟨B, 0, none⟩) :: .pointer (some ⟨B, 0, none⟩) :: .pointer (some ⟨B, 0, none⟩) :: .pointer (some ⟨B, 2, none⟩) :: wv3 :: .slice (some ⟨wx.heap.size, 0, none⟩) 1 1 :: .slice p (VS2.length + 1) d :: .pointer (some ⟨B, 0, none⟩) :: .pointer (some ⟨B, 2, none⟩) :: []), defers := [] }) (jLS lo B wx (T ++ [40]) VS2 wv3 (.func (.func 98) #[] #[])) ?_ ?_
    . refine jGR (S := fun (u : World) => u.cell? ⟨bx, 0, none⟩ = some (.pointer (some ⟨B, 0, none⟩))) (by kernel_rfl) (by kernel_rfl) (show wx.drew.cell? _ = _ from EX.out) (fun hHeld => ?_); refine wpAnyH_take (i := 0) (v := .pointer (some ⟨B, 0, none⟩)) rfl (by kernel_rfl) (by kernel_rfl) (by kernel_rfl) (fun _ _ _ h => by first | exact h | exact h.elim | (cases h.1)) (Or.inl ⟨by rfl, fun w' hSw => by have z0 : w'.cell? ⟨bx, 0, none⟩ = some (.pointer (some ⟨B, 0, none⟩)) := hSw; go_simp⟩) hHeld ?_; refine wpAnyH_take (i := 1) (v := .pointer (some ⟨B, 0, none⟩)) rfl (by kernel_rfl) (by kernel_rfl) (by kernel_rfl) (fun _ _ _ h => by first | exact h | exact h.elim | (cases h.1)) (Or.inl ⟨by rfl, fun w' hSw => by have z0 : w'.cell? ⟨bx, 0, none⟩ = some (.pointer (some ⟨B, 0, none⟩)) := hSw; go_simp⟩) hHeld ?_; refine wpAnyH_take (i := 2) (v := .pointer (some ⟨B, 0, none⟩)) rfl (by kernel_rfl) (by kernel_rfl) (by kernel_rfl) (fun _ _ _ h => by first | exact h | exact h.elim | (cases h.1)) (Or.inl ⟨by rfl, fun w' hSw => by go_simp⟩) hHeld ?_; refine wpAnyH_take (i := 3) (v := .pointer (some ⟨B, 2, none⟩)) rfl (by kernel_rfl) (by kernel_rfl) (by kernel_rfl) (fun _ _ _ h => by first | exact h | exact h.elim | (cases h.1)) (Or.inl ⟨by rfl, fun w' hSw => by go_simp⟩) hHeld ?_
      try simp only [Act.put, jR, jR0, jR1, jR2, jR3, jR4]
      refine wpAnyH_ready (rs := [4, 5]) (by kernel_rfl) (by simp) ?_; refine AllReadyH.cons rfl (fun K hK => ?_) (AllReadyH.cons rfl (fun K hK => ?_) AllReadyH.nil)
      . have z2 : wx.drew.cell? ⟨B, 2, none⟩ = some wv3 := SX.out.cell; go_simp; clear z2; refine hK.out _ _ EX.out (fun hHeld => ?_); clear hK K; refine wR 5 rfl (fun K hK => ?_); go_simp; refine hK.out _ _ (show (wx.alloc (.cells #[.func (.func 98) #[] #[]] 125)).drew.cell? _ = _ from jC2 EX.out _) (fun hHeld => ?_); clear hK K; refine wR 6 rfl (fun K hK => ?_); refine jE9 (w := wx) rfl _ _ rfl rfl SX.out.own HLE2.out HLO.out rfl rfl ?_; intro pc cc w2 g1 g2 g3; obtain ⟨k1, k2, k3, k4⟩ := jDQ SX.out _ _ g1 g2 g3; have hB2 := jCS SX.out g2 EB.out; have hbx2 := jED EX.out HBQ.out g2; refine hK.out _ _ hbx2 (fun hHeld => ?_); clear hK K g1 g2 g3; refine wpAnyH_take (i := 7) (v := .pointer (some ⟨B, 0, none⟩)) rfl (by kernel_rfl) (by kernel_rfl) (by kernel_rfl) (fun _ _ _ h => by first | exact h | exact h.elim | (cases h.1)) (Or.inl ⟨by rfl, fun w' hSw => by go_simp⟩) hHeld ?_
        try simp only [Act.put, jR, jR0, jR1, jR2, jR3, jR4]
        refine wpAnyH_take (i := 8) (v := .pointer (some ⟨B, 2, none⟩)) rfl (by kernel_rfl) (by kernel_rfl) (by kernel_rfl) (fun _ _ _ h => by first | exact h | exact h.elim | (cases h.1)) (Or.inl ⟨by rfl, fun w' hSw => by go_simp⟩) hHeld ?_
        try simp only [Act.put, jR, jR0, jR1, jR2, jR3, jR4]
        refine wR 9 rfl (fun K hK => ?_); obtain ⟨z2, zf, zb⟩ := hB2; go_simp; clear z2 zf; refine hK.out _ _ (jG8 hbx2 zb) (fun hHeld => ?_); clear hK K hbx2 zb; refine wpAnyH_done (by kernel_rfl) ?_ _; exact ⟨rfl, pc, cc, rfl, k1, k2, k3, k4⟩
      . go_simp; refine hK.out _ _ (show (wx.alloc (.cells #[.func (.func 98) #[] #[]] 125)).drew.cell? _ = _ from jC2 EX.out _) (fun hHeld => ?_); clear hK K; refine wR 4 rfl (fun K hK => ?_); have z2 : (wx.alloc (.cells #[.func (.func 98) #[] #[]] 125)).cell? ⟨B, 2, none⟩ = some wv3 := jC2 SX.out.cell _; go_simp; clear z2; refine hK.out _ _ (show (wx.alloc (.cells #[.func (.func 98) #[] #[]] 125)).drew.cell? _ = _ from jC2 EX.out _) (fun hHeld => ?_); clear hK K; refine wR 6 rfl (fun K hK => ?_); refine jE9 (w := wx) rfl _ _ rfl rfl SX.out.own HLE2.out HLO.out rfl rfl ?_; intro pc cc w2 g1 g2 g3; obtain ⟨k1, k2, k3, k4⟩ := jDQ SX.out _ _ g1 g2 g3; have hB2 := jCS SX.out g2 EB.out; have hbx2 := jED EX.out HBQ.out g2; refine hK.out _ _ hbx2 (fun hHeld => ?_); clear hK K g1 g2 g3; refine wpAnyH_take (i := 7) (v := .pointer (some ⟨B, 0, none⟩)) rfl (by kernel_rfl) (by kernel_rfl) (by kernel_rfl) (fun _ _ _ h => by first | exact h | exact h.elim | (cases h.1)) (Or.inl ⟨by rfl, fun w' hSw => by go_simp⟩) hHeld ?_
        try simp only [Act.put, jR, jR0, jR1, jR2, jR3, jR4]
        refine wpAnyH_take (i := 8) (v := .pointer (some ⟨B, 2, none⟩)) rfl (by kernel_rfl) (by kernel_rfl) (by kernel_rfl) (fun _ _ _ h => by first | exact h | exact h.elim | (cases h.1)) (Or.inl ⟨by rfl, fun w' hSw => by go_simp⟩) hHeld ?_
        try simp only [Act.put, jR, jR0, jR1, jR2, jR3, jR4]
        refine wR 9 rfl (fun K hK => ?_); obtain ⟨z2, zf, zb⟩ := hB2; go_simp; clear z2 zf; refine hK.out _ _ (jG8 hbx2 zb) (fun hHeld => ?_); clear hK K hbx2 zb; refine wpAnyH_done (by kernel_rfl) ?_ _; exact ⟨rfl, pc, cc, rfl, k1, k2, k3, k4⟩
    intro p3 d3 wy hp; obtain ⟨⟨wv4, q1, q2⟩, q3, q4, q5, kk, kf⟩ := jIY SX.out Q2.out Q3.out Q4.out Q5.out (fun g hg2 => ⟨by have := (HRB.out g hg2).1; omega, (HRB.out g hg2).2⟩) HES.out hp; clear hp
    gi_wp2
    refine ⟨KF.out.trans kf, fun b hb2 => (kk b hb2).trans (KK.out b hb2), ⟨wv4, ?_, q2⟩, q3, q4, q5⟩; have he : emit (xi, z1, z2) = [fv (z1, z2), jF2] := by unfold emit; rw [if_pos hxi]
    rw [jKN, he, <- List.append_assoc, <- HVS.out, show [fv (z1, z2), jF2] = [Value.func (.func z1) #[] z2] ++ [jF2] from rfl, <- List.append_assoc, <- HVS2.out]; exact q1
  . have hxi2 : ¬ (0 : Int) < (xi : Int) := by omega
    gi_wp2
    refine ⟨KF.out, KK.out, ⟨wv3, ?_, q2⟩, q3, q4, q5⟩; have he : emit (xi, z1, z2) = [fv (z1, z2)] := by unfold emit; rw [if_neg hxi]
    rw [jKN, he, <- List.append_assoc, <- HVS.out]; exact q1
 case done =>
  rintro D ys W hD rfl ⟨⟨wvr, q1, q2⟩, q3, q4, q5⟩ hK; have SX := hid q1; have Q3 := hid q3; have Q4 := hid q4; clear q1 q2 q3 q4 q5 H0 SB
  gi_wp2
  refine ⟨by simp, .inl ⟨_, _, rfl, run_takeDeferred hK, ?_⟩⟩; have hgr := fun o' => grownBy_putObj' W D o'
  have hr : ∀ r, some D = some r -> ∃ o, W.heap[r]? = some o /\ o.isCells = false := fun r e => by cases e; exact ⟨_, hK, rfl⟩
  have hlw : lo <= w.heap.size := by have := HLO1.out; omega
  have hDW : D < W.heap.size := (Array.getElem?_eq_some_iff.1 hK).1; refine ⟨_, results_none rfl _ _ _, rfl, (SX.out.grown (hgr _) hr).sv, ?_, ?_⟩
  . exact ((((HA.out.mono hlw).trans BB.out).trans (HBbS.out.mono (by omega))).trans Q4.out).grown (hgr _) (by omega) (fun k e => by cases e; omega)
  . exact ((((Keep.below HA.out).trans KB.out).trans (Keep.below HBbS.out)).trans Q3.out).grown (hgr _) hr
 case stop =>
  rintro D c pre W hD _ h _; exact h.elim
end Sw
end Go.Proofs.YtnhndamfbeiljaaGreatDoor
