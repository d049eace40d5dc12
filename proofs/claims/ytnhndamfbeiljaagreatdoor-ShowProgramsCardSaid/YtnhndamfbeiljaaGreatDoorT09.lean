/-
  Several texts in one: PEachCon, PCon, PEachStr, PNames, PEachAlt, PAlt.
-/
import Derived.Test.YtnhndamfbeiljaaGreatDoorT00
import Derived.Test.YtnhndamfbeiljaaGreatDoorT04
import Derived.Test.YtnhndamfbeiljaaGreatDoorT08
import Derived.Test.YtnhndamfbeiljaaGreatDoorT05
import Derived.Test.YtnhndamfbeiljaaGreatDoorT06
import Derived.Test.YtnhndamfbeiljaaGreatDoorT07
set_option linter.unusedVariables false
set_option linter.unusedSimpArgs false
set_option maxHeartbeats 4000000
set_option maxRecDepth 100000
namespace Go.Proofs.YtnhndamfbeiljaaGreatDoor
open Go Go.RowKit
open Go.Lib (hid)
open List renaming getElem_toArray → jR, getElem_cons_succ → jR0, getElem_cons_zero → jR1, setIfInBounds_toArray → jR2, set_cons_zero → jR3, set_cons_succ → jR4
theorem infoCon : (Tryz.prog.info? 40).map (fun i => (i.zero, i.size, i.bytes)) = some (some (.agg #[.int .i64 0, .string ⟨#[]⟩, .slice none 0 0]), 3, 48) := by kernel_rfl
def jEO (v : Value) : Prop := ∃ a0 a1 a2 : Value, v = .agg #[a0, a1, a2] /\ ∀ u ∈ ([a0, a1, a2] : List Value), u.oneCell' = true
theorem jEO.size {v : Value} (h : jEO v) : v.cells.size = 3 := by
 obtain ⟨a0, a1, a2, rfl, hone⟩ := h; rfl
theorem newCon (w : World) (a0 a1 a2 : Value) (T : TypeId) (j : Nat) (u : Value) (h : ([a0, a1, a2] : List Value)[j]? = some u) :
 (w.alloc (.cells #[a0, a1, a2] T)).cell? ((⟨w.heap.size, 0, none⟩ : Addr).add j) = some u := by
 have e : (⟨w.heap.size, 0, none⟩ : Addr).add j = ⟨w.heap.size, j, none⟩ := by unfold Addr.add; split <;> simp_all
 rw [e, World.cell?_alloc_mark]
 simpa using h
theorem cellsCon (vs : List Value) (a0 a1 a2 : Value) : cellsOf (vs ++ [.agg #[a0, a1, a2]]) = cellsOf vs ++ [a0, a1, a2] := by
 simp [cellsOf, Value.cells]
theorem jN6 {α : Type} (F : FuncId) (hF : ∀ (args : Array Value) (w : World), (callFunc F args).run Tryz.prog w = .ok (.enter F args) w) (f : Px.Node -> Px.R α) (rep : World -> Value -> α -> Prop) (shape : ∀ w v x, rep w v x -> jEO v)
 (k : Nat) (lv : Value) (l : List Px.Node) (w : World) (hk : jAC w k lv l) (hl : l.length <= 1000)
 (part : ∀ n ∈ l, ∀ j kv w1, k = j + 1 -> Below w.heap.size w w1 -> jAC w1 j kv n.list -> Calls Tryz.prog F #[jA7 n kv] w1 (jB3 w1 rep (f n))) :
 Calls Tryz.prog 90 #[lv, .func (.func F) #[] #[]] w (jB3 w (fun u => jAI 3 (rep u) u) (Px.each f l)) := by
 obtain ⟨p0, cp0, rfl⟩ := hk.len; obtain ⟨i0, hi, hz0, hz1, hz2⟩ := info_parts infoCon; have HI1 := hid hz1; have HI2 := hid hz2; have HI0 := hid hz0; have HI := hid hi
 have HK := hid hk; have HP := hid part; have HS := hid shape; clear hi hz0 hz1 hz2 hk part shape; go_enter Tryz.func90, Tryz.ntmps90; go_wp2_with fail
 go_loopw [5, 10] (fun v i wr => ∃ (q : Nat) (vs : List Value) (xs : List α), i = .int .i64 q /\ q <= l.length /\ Hid (Px.each f (l.take q) = .ok xs) /\ vs.length = q /\ Hid (Reps (Kept rep w.heap.size wr v.ownBlock) vs xs /\ ∀ u ∈ vs, jEO u) /\ Hid (wr.ownsRow w.heap.size 40 3 v vs.length (cellsOf vs)) /\ Below w.heap.size w wr) (fun _ i _ => l.length - (intOf i).toNat)
 case atStart => exact ⟨0, [], [], rfl, Nat.zero_le _, hid (by simp [Px.each]), rfl, hid ⟨trivial, fun _ h => by cases h⟩, hid (World.ownsRow_nil _ _ _ _), Below.refl _ _⟩
 case round =>
  obtain ⟨q, vs, xs, rfl, hq, He, hvs, Hr, Ho, hb⟩ := hrel; have HB := hid hb; clear hb
  by_cases hlt : q < l.length
  . have hne : l ≠ [] := by intro e; rw [e] at hlt; simp at hlt
    obtain ⟨j, g, o, c, hkj, hsl, h3, h4, h5⟩ := HK.out.some hne
    injection hsl with hp0 _ hcp
    subst hp0; subst hcp
    obtain ⟨kv, hn, hkm⟩ := h5 q _ (List.getElem?_eq_getElem hlt); have hnq : l[q]? = some l[q] := List.getElem?_eq_getElem hlt; have hmem : l[q] ∈ l := List.getElem_mem hlt; generalize l[q] = m at *; have hn2 := hn.below HB.out; obtain ⟨pk, ck, rfl⟩ := hkm.len; obtain ⟨c0, c1, c2, c3, c4, c5⟩ := hn2; have hstep := Px.jC9 hnq He.out; have Hstep := hid hstep; have HKM := hid (hkm.below HB.out); have HMEM := hid hmem; have HKJ := hid hkj; have HVS := hid hvs; clear hstep h5 hn hkm hmem hkj hnq hne hvs; have NB := hid (jCX wr m (.slice pk m.list.length ck) 105); cases hfm : f m with
    | error p =>
      have Hbad := hid (Hstep.out.2 p hfm); have Hfm := hid hfm; clear hfm
      go_wp2_with fail; have hc := HP.out m HMEM.out j (.slice pk m.list.length ck) _ HKJ.out (HB.out.alloc HB.out.size (.cells #[.int .i64 m.tok.kind, .int .i64 m.tok.pos, .string ⟨m.tok.text.toArray⟩, .int .i64 m.tok.int, .slice pk m.list.length ck, .int .i64 m.takes] 105)) (HKM.out.below ((Below.refl _ _).alloc (Nat.le_refl _) _)); rw [Hfm.out] at hc; refine hc.mono ?_; rintro e w2 ⟨hb2, he⟩; obtain rfl : e = jAW p := he; refine ⟨rfl, (HB.out.alloc HB.out.size _).trans (hb2.mono (by have := HB.out.size; simp; omega)), ?_⟩; rw [Hbad.out]; rfl
    | ok x =>
      have Hgood := hid (Hstep.out.1 x hfm); have Hfm := hid hfm; clear hfm
      go_wp2_with fail; have hc := HP.out m HMEM.out j (.slice pk m.list.length ck) _ HKJ.out (HB.out.alloc HB.out.size (.cells #[.int .i64 m.tok.kind, .int .i64 m.tok.pos, .string ⟨m.tok.text.toArray⟩, .int .i64 m.tok.int, .slice pk m.list.length ck, .int .i64 m.takes] 105)) (HKM.out.below ((Below.refl _ _).alloc (Nat.le_refl _) _)); rw [Hfm.out] at hc; refine hc.mono ?_; clear hc; rintro e w2 ⟨hb2, v, rfl, hrep⟩; have hsh := HS.out _ _ _ hrep.now; have hkept := hrep.kept (base := w.heap.size) (ob := u5.ownBlock) (by have := HB.out.size; simp; omega) (fun g hg => by have := (Ho.out.lt g hg).2; simp; omega); have HR := hid hkept; clear hrep hkept
      have hB2 := (HB.out.alloc HB.out.size (.cells #[.int .i64 m.tok.kind, .int .i64 m.tok.pos, .string ⟨m.tok.text.toArray⟩, .int .i64 m.tok.int, .slice pk m.list.length ck, .int .i64 m.takes] 105)).trans (hb2.mono (by have := HB.out.size; simp; omega)); have hw2 : Below wr.heap.size wr w2 := jAR hb2; have hown2 := jA5 Ho.out hw2; have hBs := HB.out.size; have hs2 := hw2.size; have hlen2 : (cellsOf vs).length = vs.length * 3 := Ho.out.1; obtain ⟨a0, a1, a2, rfl, hone⟩ := hsh; have HONE := hid hone; clear hone
      have HL := hid hlen2; clear hlen2
      have HB2 := hid hB2; have HW2 := hid hw2; have Hown2 := hid hown2
      have hvq : vs.length <= 1000 := by have := HVS.out; omega
      clear hB2 hw2 hown2 hb2; have HSH := hid (show jEO (.agg #[a0, a1, a2]) from ⟨a0, a1, a2, rfl, HONE.out⟩); have hss : ∀ u ∈ vs ++ [.agg #[a0, a1, a2]], jEO u := fun u hu => (List.mem_append.1 hu).elim (fun h => Hr.out.2 u h) (fun h => by rw [List.mem_singleton.1 h]; exact HSH.out)
      have HSS := hid hss; clear hss
      go_wp2_with (at_builtin; refine jAN _ rfl (.tmp 14) (.tmp 18) 34 rfl w.heap.size 40 i0 (.agg #[.int .i64 0, .string ⟨#[]⟩, .slice none 0 0]) 3 48 Tryz.underlying34 HI.out HI0.out HI1.out HI2.out rfl (by decide) _ vs.length _ rfl (Hown2.out.alloc _) ⟨w2.heap.size, 0, none⟩ 1 1 [a0, a1, a2] rfl (by decide) rfl ?c1 ?c2 ?c3 ?c4 ?c5 ?_)
      case c1 => exact fun j u h => newCon w2 a0 a1 a2 _ j u h
      case c2 => exact HONE.out
      case c3 => unfold maxLen; omega
      case c4 => omega
      case c5 => simp; omega
      intro v' w3 hown3 hgr hloc; have hB3 := (HB2.out.alloc (by omega) (.cells #[a0, a1, a2] 40)).grown hgr (by simp; omega) (fun kk hkk => (Hown2.out.lt kk hkk).1); have hstep : ∀ z x, Kept rep w.heap.size w2 u5.ownBlock z x -> Kept rep w.heap.size w3 v'.ownBlock z x := fun z x hk => (hk.below ((Below.refl _ _).alloc (Nat.le_refl _) (.cells #[a0, a1, a2] 40))).step hgr.size (fun b hb1 hb2 => hgr.block b hb1 (fun e => hb2 e.symm)) (by simpa using hloc)
      have hreps : Reps (Kept rep w.heap.size w3 v'.ownBlock) (vs ++ [.agg #[a0, a1, a2]]) (xs ++ [x]) := Reps.snoc (hstep _ _ HR.out) (Hr.out.1.mono fun z y hk => hstep _ _ (hk.below HW2.out)); rw [<- cellsCon] at hown3; have H1 := hid hB3; have H2 := hid hown3; have H3 := hid hreps
      clear hgr hB3 hown3 hreps hstep hloc; go_wp2
      go_roundw
      case rel => exact ⟨q + 1, vs ++ [.agg #[a0, a1, a2]], xs ++ [x], by go_num, by omega, Hgood, by have := HVS.out; simp [this], hid ⟨H3.out, HSS.out⟩, hid (by rw [List.length_append]; exact H2.out), H1.out⟩
      case measure => simp [intOf]; omega
  . obtain rfl : q = l.length := by omega
    have he := He.out; rw [List.take_length] at he; have hx := Px.jCG he; have He2 := hid he; have Hx := hid hx; have Hv := hid hvs
    clear he hx hvs; go_wp2; go_ret; exact ⟨HB.out, by rw [He2.out]; exact ⟨_, rfl, New.row Ho.out (by rw [Hv.out, Hx.out]) Hr.out.1 (fun u hu => (Hr.out.2 u hu).size)⟩⟩
theorem NodeAt.other {w : World} {g o : Nat} {n : Px.Node} {lv : Value} (h : NodeAt w g o n lv) (b j : Nat) (v : Value) (hne : g ≠ b) : NodeAt (w.setCell ⟨b, j, none⟩ v) g o n lv := by
 have e : ∀ i, (w.setCell ⟨b, j, none⟩ v).cell? ⟨g, i, none⟩ = w.cell? ⟨g, i, none⟩ := fun i => World.cell?_of_block (w := w) (a := ⟨g, i, none⟩) (Below.heap_setCell w ⟨b, j, none⟩ v g hne)
 exact ⟨by rw [e]; exact h.c0, by rw [e]; exact h.c1, by rw [e]; exact h.c2, by rw [e]; exact h.c3, by rw [e]; exact h.c4, by rw [e]; exact h.c5, h.small⟩
def jG4 (f : Nat) (u : World) (v : Value) (x : Px.Con) : Prop := ∃ av, v = .agg #[.int .i64 x.pos, .string ⟨x.name.toArray⟩, av] /\ jAI 3 (jCM f u) u av x.fields
theorem jNC (f : Nat) (w : World) (v : Value) (x : Px.Con) (h : jG4 f w v x) : jEO v := by
 obtain ⟨av, rfl, hr⟩ := h; obtain ⟨q, c, rfl⟩ := hr.len; exact ⟨_, _, _, rfl, by simp [Value.oneCell']⟩
theorem con_bad (k : Nat) (n : Px.Node) (lv : Value) (w : World) (hk : jAC w k lv n.list) (p : Nat) (hp : Px.nodes n 1 9 = .error p) :
 Calls Tryz.prog 91 #[jA7 n lv] w (fun e w' => e = jAW p /\ Below w.heap.size w w') := by
 have HK := hid hk; clear hk; go_enter Tryz.func91, Tryz.ntmps91; unfold jA7; go_wp2_with fail; have EN := hid (jA2 (jA3 w #[.int .i64 n.tok.kind, .int .i64 n.tok.pos, .string ⟨n.tok.text.toArray⟩, .int .i64 n.tok.int, lv, .int .i64 n.takes] 105) (.cells #[.int .i64 0, .string ⟨#[]⟩, .slice none 0 0] 40)); have ER0 := jA3 (w.alloc (.cells #[.int .i64 n.tok.kind, .int .i64 n.tok.pos, .string ⟨n.tok.text.toArray⟩, .int .i64 n.tok.int, lv, .int .i64 n.takes] 105)) #[.int .i64 0, .string ⟨#[]⟩, .slice none 0 0] 40; rw [World.size_alloc] at ER0; have ER := hid ER0; have HB := hid (((Below.refl w.heap.size w).alloc (Nat.le_refl _) (.cells #[.int .i64 n.tok.kind, .int .i64 n.tok.pos, .string ⟨n.tok.text.toArray⟩, .int .i64 n.tok.int, lv, .int .i64 n.takes] 105)).alloc (by simp) (.cells #[.int .i64 0, .string ⟨#[]⟩, .slice none 0 0] 40)); clear ER0; refine (jBU k n lv 1 9 1 9 _ rfl rfl (HK.out.below HB.out) (by omega) (by omega) p hp).mono ?_; rintro e w1 ⟨rfl, hb⟩; replace HB := bT HB hb; clear hb; exact ⟨rfl, rfl, HB.out⟩
theorem con_ok (k : Nat) (n : Px.Node) (lv : Value) (w : World) (hk : jAC w k lv n.list) (l : List Px.Node) (hp : Px.nodes n 1 9 = .ok l) (m0 : Px.Node) (hm0 : n.list[0]? = some m0) (f : Nat) (hkf : k <= f) (out : Px.R Px.Con) (hout : Px.con f n = out) :
 Calls Tryz.prog 91 #[jA7 n lv] w (jB3 w (jG4 f) out) := by
 obtain ⟨hle, h2, h9, _⟩ := jA9 hp; have hle0 := hle; rw [hle] at h2 h9; obtain ⟨j, g, o, c, rfl, rfl, h3, h4, h5⟩ := hk.some (by intro e; rw [e] at h2; simp at h2); obtain ⟨kv0, hat0, hkm0⟩ := h5 0 m0 hm0; rw [Nat.zero_mul, Nat.add_zero] at hat0; have HAT0 := hid hat0; have HKM0 := hid hkm0; have HM0 := hid hm0
 clear hat0 hkm0 hm0; have hne : ¬ n.list = [] := by intro e; rw [e] at h2; simp at h2
 have hbi1 : ¬ ((n.list.length : Int) < 1) := by omega
 have hbj0 : (0 : Int) < (n.list.length : Int) := by omega
 have HK := hid hk; have HP := hid hp
 clear h5 hk hp hle; have HOUT := hid hout; clear hout
 have hgw : g < w.heap.size := World.block_lt_of_cell? w _ HAT0.out.c0; have hgne : g ≠ w.heap.size + 1 := by omega
 have HLE := hid hle0; have HH0 := hid (show l.headD n = m0 by rw [hle0, List.headD_eq_head?_getD, List.head?_eq_getElem?, HM0.out]; rfl); clear hle0; go_enter Tryz.func91, Tryz.ntmps91; unfold jA7; go_wp2_with fail; have EN := hid (jA2 (jA3 w #[.int .i64 n.tok.kind, .int .i64 n.tok.pos, .string ⟨n.tok.text.toArray⟩, .int .i64 n.tok.int, (.slice (some ⟨g, o, none⟩) n.list.length c), .int .i64 n.takes] 105) (.cells #[.int .i64 0, .string ⟨#[]⟩, .slice none 0 0] 40)); have ER0 := jA3 (w.alloc (.cells #[.int .i64 n.tok.kind, .int .i64 n.tok.pos, .string ⟨n.tok.text.toArray⟩, .int .i64 n.tok.int, (.slice (some ⟨g, o, none⟩) n.list.length c), .int .i64 n.takes] 105)) #[.int .i64 0, .string ⟨#[]⟩, .slice none 0 0] 40; rw [World.size_alloc] at ER0; have ER := hid ER0; have HB := hid (((Below.refl w.heap.size w).alloc (Nat.le_refl _) (.cells #[.int .i64 n.tok.kind, .int .i64 n.tok.pos, .string ⟨n.tok.text.toArray⟩, .int .i64 n.tok.int, (.slice (some ⟨g, o, none⟩) n.list.length c), .int .i64 n.takes] 105)).alloc (by simp) (.cells #[.int .i64 0, .string ⟨#[]⟩, .slice none 0 0] 40)); clear ER0; refine (jBA (j + 1) n (.slice (some ⟨g, o, none⟩) n.list.length c) 1 9 1 9 _ rfl rfl (HK.out.below HB.out) (by omega) (by omega) l HP.out).mono ?_; rintro e w1 ⟨rfl, hb⟩; replace EN := hid (jA0 EN.out hb); replace ER := hid (jA0 ER.out hb); replace HB := bT HB hb; clear hb; go_wp2_with fail; refine wp_region_held_drew (S := (fun w' => w'.heap[w.heap.size]? = some (.cells #[.int .i64 n.tok.kind, .int .i64 n.tok.pos, .string ⟨n.tok.text.toArray⟩, .int .i64 n.tok.int, (.slice (some ⟨g, o, none⟩) n.list.length c), .int .i64 n.takes] 105 (0, 0)) /\ NodeAt w' g (o) m0 kv0)) (by kernel_rfl) (⟨EN.out, HAT0.out.below (HB.out.drew)⟩) (fun hHeld => ?_); refine wT 0 (.agg #[.int .i64 n.tok.kind, .int .i64 n.tok.pos, .string ⟨n.tok.text.toArray⟩, .int .i64 n.tok.int, (.slice (some ⟨g, o, none⟩) n.list.length c), .int .i64 n.takes]) rfl (Or.inl ⟨by rfl, fun w' hSw => by have h1 := hSw.1; have q0 := jA h1 0 _ rfl; have q1 := jA h1 1 _ rfl; have q2 := jA h1 2 _ rfl; have q3 := jA h1 3 _ rfl; have q4 := jA h1 4 _ rfl; have q5 := jA h1 5 _ rfl; go_simp⟩) hHeld ?_; refine wT 2 ((.slice (some ⟨g, o, none⟩) n.list.length c)) rfl (Or.inl ⟨by rfl, fun w' hSw => by go_simp⟩) hHeld ?_; refine wT 3 (.pointer (some ⟨g, o, none⟩)) rfl (Or.inl ⟨by rfl, fun w' hSw => by go_simp⟩) hHeld ?_; refine wT 4 (.agg #[.int .i64 m0.tok.kind, .int .i64 m0.tok.pos, .string ⟨m0.tok.text.toArray⟩, .int .i64 m0.tok.int, kv0, .int .i64 m0.takes]) rfl (Or.inl ⟨by rfl, fun w' hSw => by obtain ⟨m0, m1, m2, m3, m4, m5⟩ := hSw.2; go_simp⟩) hHeld ?_; refine wT 6 ((.slice (some ⟨g, o, none⟩) n.list.length c)) rfl (Or.inl ⟨by rfl, fun w' hSw => by go_simp⟩) hHeld ?_; refine wT 7 (.slice (if c = 1 then some ⟨g, o, none⟩ else some ⟨g, o + 6, none⟩) (n.list.length - 1) (c - 1)) rfl (Or.inl ⟨by rfl, fun w' hSw => by go_simp⟩) hHeld ?_; simp only [Act.put, jR2, jR3, jR4]; refine wR 1 rfl (fun K hK => ?_); go_simp; refine (jAL n (.slice (some ⟨g, o, none⟩) n.list.length c) _).mono ?_; rintro e w2 ⟨rfl, hb⟩; have hbd := hb; replace hb := jBF hb
 replace ER := hid (jA0 ER.out hb); replace HB := bT HB hb; refine hK.out _ _ (⟨jA0 hHeld.1 hbd, (hHeld.2).below hbd⟩) (fun hHeld => ?_); clear hK K; clear hb hbd; refine wR 5 rfl (fun K hK => ?_); go_simp; cases hh : Px.jAJ m0 with
 | error p =>
   refine (jG0 m0 kv0 _ p hh).mono ?_; rintro e w3 ⟨rfl, hb⟩; have ho : out = .error p := by rw [<- HOUT.out, Px.con, HP.out]; dsimp only; rw [HH0.out, hh]
   subst ho; exact ⟨rfl, HB.out.trans (hb.mono HB.out.size), rfl⟩
 | ok nm =>
   refine (jGM m0 kv0 _ nm hh).mono ?_; rintro e w3 ⟨rfl, hb⟩; have HNM := hid hh; clear hh
   replace ER := hid (jA0 ER.out hb); replace HB := bT HB hb; refine hK.out _ _ (⟨jA0 hHeld.1 hb, (hHeld.2).below hb⟩) (fun hHeld => ?_); clear hK K; clear hb; refine wR 8 rfl (fun K hK => ?_); go_simp; refine (jF1 127 (fun _ _ => by kernel_rfl) (Px.typeE f) (jCM f) (jF9 f) (j + 1) _ (n.list.drop 1) _ (jMT (HK.out.below HB.out) 1 (o + 6) (by omega) (by omega) rfl) (by rw [List.length_drop]; omega) (fun m _ j' kv' w1 hj _ hk' => jPH f m kv' j' w1 hk' (by omega))).mono ?_; intro e w4 ht; cases hr : Px.each (Px.typeE f) (n.list.drop 1) with
   | error p =>
     obtain ⟨rfl, hb⟩ := jAQ ht hr; have ho : out = .error p := by rw [<- HOUT.out, Px.con, HP.out]; dsimp only; rw [HH0.out, HNM.out]; dsimp only; rw [HLE.out, <- List.drop_one, hr]
     subst ho; exact ⟨rfl, HB.out.trans (hb.mono HB.out.size), rfl⟩
   | ok xs =>
     obtain ⟨av, rfl, hnew, hb⟩ := jAP ht hr; obtain ⟨pv, cv, rfl⟩ := hnew.now.len; have ho : out = .ok ⟨n.pos, nm, xs⟩ := by rw [<- HOUT.out, Px.con, HP.out]; dsimp only; rw [HH0.out, HNM.out]; dsimp only; rw [HLE.out, <- List.drop_one, hr]
     subst ho; have hws := jA6 ER.out; have Hnew := hid hnew; replace ER := hid (jA0 ER.out hb); replace HB := bT HB hb; refine hK.out _ _ (⟨jA0 hHeld.1 hb, (hHeld.2).below hb⟩) (fun hHeld => ?_); clear hK K; clear hb hr ht hnew; refine wR 9 rfl (fun K hK => ?_); go_simp; refine hK.out _ _ (hHeld) (fun hHeld => ?_); clear hK K; have rf := jA1 ER.out; have r0 := jA ER.out 0 _ rfl; have r1 := jA ER.out 1 _ rfl; have r2 := jA ER.out 2 _ rfl; refine wR 10 rfl (fun K hK => ?_); go_simp; refine hK.out _ _ (⟨jA4 (jA4 (jA4 hHeld.1 _ 0 _ (by omega)) _ 1 _ (by omega)) _ 2 _ (by omega), (hHeld.2.other _ 0 _ hgne).other _ 1 _ hgne |>.other _ 2 _ hgne⟩) (fun hHeld => ?_); clear hK K; refine wpAnyH_done (by kernel_rfl) ?_ _; go_wp2_with fail
     all_goals
      refine bodyPost_ret (v := .agg #[.int .i64 n.pos, .string ⟨nm.toArray⟩, .slice pv xs.length cv]) (by simp [results, Tryz.results91, go_sem, Px.Node.text, r0, r1, r2]) rfl ?_; refine ⟨?_, _, rfl, fun u hu => ⟨_, rfl, ?_⟩⟩
      . repeat (first | with_reducible exact HB.out | with_reducible refine Below.drew ?_ | with_reducible refine Below.setCell ?_ (by dsimp only; omega) _)
      . refine New.stay (w := w) Hnew.out (by omega) ?_ u hu
        repeat (first | with_reducible exact Stay.refl _ _ | with_reducible refine Stay.set ?_ _ _ _ (by omega))
theorem con_any (f k : Nat) (n : Px.Node) (lv : Value) (w : World) (hk : jAC w k lv n.list) (hkf : k <= f) : Calls Tryz.prog 91 #[jA7 n lv] w (jB3 w (jG4 f) (Px.con f n)) := by
 cases hnd : Px.nodes n 1 9 with
 | error p =>
   have : Px.con f n = .error p := by rw [Px.con, hnd]
   rw [this]; exact (con_bad k n lv w hk p hnd).mono fun e w' ⟨h1, h2⟩ => ⟨h2, h1⟩
 | ok l =>
   obtain ⟨hle, h2, _, _⟩ := jA9 hnd; exact con_ok k n lv w hk l hnd (n.list[0]'(by rw [<- hle]; omega)) (List.getElem?_eq_getElem _) f hkf _ rfl
theorem jG6 : (Tryz.prog.info? 9).map (fun i => (i.zero, i.size, i.bytes)) = some (some (.string ⟨#[]⟩), 1, 16) := by kernel_rfl
def jEM (v : Value) : Prop := ∃ a0 : ByteArray, v = .string a0 /\ ∀ u ∈ ([.string a0] : List Value), u.oneCell' = true
theorem jEM.size {v : Value} (h : jEM v) : v.cells.size = 1 := by
 obtain ⟨a0, rfl, hone⟩ := h; rfl
theorem jH7 (w : World) (a0 : ByteArray) (T : TypeId) (j : Nat) (u : Value) (h : ([.string a0] : List Value)[j]? = some u) :
 (w.alloc (.cells #[.string a0] T)).cell? ((⟨w.heap.size, 0, none⟩ : Addr).add j) = some u := by
 have e : (⟨w.heap.size, 0, none⟩ : Addr).add j = ⟨w.heap.size, j, none⟩ := by unfold Addr.add; split <;> simp_all
 rw [e, World.cell?_alloc_mark]
 simpa using h
theorem cellsStr (vs : List Value) (a0 : ByteArray) : cellsOf (vs ++ [.string a0]) = cellsOf vs ++ [.string a0] := by
 simp [cellsOf, Value.cells]
theorem jN4 {α : Type} (F : FuncId) (hF : ∀ (args : Array Value) (w : World), (callFunc F args).run Tryz.prog w = .ok (.enter F args) w) (f : Px.Node -> Px.R α) (rep : World -> Value -> α -> Prop) (shape : ∀ w v x, rep w v x -> jEM v)
 (k : Nat) (lv : Value) (l : List Px.Node) (w : World) (hk : jAC w k lv l) (hl : l.length <= 1000)
 (part : ∀ n ∈ l, ∀ j kv w1, k = j + 1 -> Below w.heap.size w w1 -> jAC w1 j kv n.list -> Calls Tryz.prog F #[jA7 n kv] w1 (jB3 w1 rep (f n))) :
 Calls Tryz.prog 125 #[lv, .func (.func F) #[] #[]] w (jB3 w (fun u => jAI 1 (rep u) u) (Px.each f l)) := by
 obtain ⟨p0, cp0, rfl⟩ := hk.len; obtain ⟨i0, hi, hz0, hz1, hz2⟩ := info_parts jG6; have HI1 := hid hz1; have HI2 := hid hz2; have HI0 := hid hz0; have HI := hid hi
 have HK := hid hk; have HP := hid part; have HS := hid shape; clear hi hz0 hz1 hz2 hk part shape; go_enter Tryz.func125, Tryz.ntmps125; go_wp2_with fail
 go_loopw [5, 10] (fun v i wr => ∃ (q : Nat) (vs : List Value) (xs : List α), i = .int .i64 q /\ q <= l.length /\ Hid (Px.each f (l.take q) = .ok xs) /\ vs.length = q /\ Hid (Reps (Kept rep w.heap.size wr v.ownBlock) vs xs /\ ∀ u ∈ vs, jEM u) /\ Hid (wr.ownsRow w.heap.size 9 1 v vs.length (cellsOf vs)) /\ Below w.heap.size w wr) (fun _ i _ => l.length - (intOf i).toNat)
 case atStart => exact ⟨0, [], [], rfl, Nat.zero_le _, hid (by simp [Px.each]), rfl, hid ⟨trivial, fun _ h => by cases h⟩, hid (World.ownsRow_nil _ _ _ _), Below.refl _ _⟩
 case round =>
  obtain ⟨q, vs, xs, rfl, hq, He, hvs, Hr, Ho, hb⟩ := hrel; have HB := hid hb; clear hb
  by_cases hlt : q < l.length
  . have hne : l ≠ [] := by intro e; rw [e] at hlt; simp at hlt
    obtain ⟨j, g, o, c, hkj, hsl, h3, h4, h5⟩ := HK.out.some hne
    injection hsl with hp0 _ hcp
    subst hp0; subst hcp
    obtain ⟨kv, hn, hkm⟩ := h5 q _ (List.getElem?_eq_getElem hlt); have hnq : l[q]? = some l[q] := List.getElem?_eq_getElem hlt; have hmem : l[q] ∈ l := List.getElem_mem hlt; generalize l[q] = m at *; have hn2 := hn.below HB.out; obtain ⟨pk, ck, rfl⟩ := hkm.len; obtain ⟨c0, c1, c2, c3, c4, c5⟩ := hn2; have hstep := Px.jC9 hnq He.out; have Hstep := hid hstep; have HKM := hid (hkm.below HB.out); have HMEM := hid hmem; have HKJ := hid hkj; have HVS := hid hvs; clear hstep h5 hn hkm hmem hkj hnq hne hvs; have NB := hid (jCX wr m (.slice pk m.list.length ck) 105); cases hfm : f m with
    | error p =>
      have Hbad := hid (Hstep.out.2 p hfm); have Hfm := hid hfm; clear hfm
      go_wp2_with fail; have hc := HP.out m HMEM.out j (.slice pk m.list.length ck) _ HKJ.out (HB.out.alloc HB.out.size (.cells #[.int .i64 m.tok.kind, .int .i64 m.tok.pos, .string ⟨m.tok.text.toArray⟩, .int .i64 m.tok.int, .slice pk m.list.length ck, .int .i64 m.takes] 105)) (HKM.out.below ((Below.refl _ _).alloc (Nat.le_refl _) _)); rw [Hfm.out] at hc; refine hc.mono ?_; rintro e w2 ⟨hb2, he⟩; obtain rfl : e = jAW p := he; refine ⟨rfl, (HB.out.alloc HB.out.size _).trans (hb2.mono (by have := HB.out.size; simp; omega)), ?_⟩; rw [Hbad.out]; rfl
    | ok x =>
      have Hgood := hid (Hstep.out.1 x hfm); have Hfm := hid hfm; clear hfm
      go_wp2_with fail; have hc := HP.out m HMEM.out j (.slice pk m.list.length ck) _ HKJ.out (HB.out.alloc HB.out.size (.cells #[.int .i64 m.tok.kind, .int .i64 m.tok.pos, .string ⟨m.tok.text.toArray⟩, .int .i64 m.tok.int, .slice pk m.list.length ck, .int .i64 m.takes] 105)) (HKM.out.below ((Below.refl _ _).alloc (Nat.le_refl _) _)); rw [Hfm.out] at hc; refine hc.mono ?_; clear hc; rintro e w2 ⟨hb2, v, rfl, hrep⟩; have hsh := HS.out _ _ _ hrep.now; have hkept := hrep.kept (base := w.heap.size) (ob := u5.ownBlock) (by have := HB.out.size; simp; omega) (fun g hg => by have := (Ho.out.lt g hg).2; simp; omega); have HR := hid hkept; clear hrep hkept
      have hB2 := (HB.out.alloc HB.out.size (.cells #[.int .i64 m.tok.kind, .int .i64 m.tok.pos, .string ⟨m.tok.text.toArray⟩, .int .i64 m.tok.int, .slice pk m.list.length ck, .int .i64 m.takes] 105)).trans (hb2.mono (by have := HB.out.size; simp; omega)); have hw2 : Below wr.heap.size wr w2 := jAR hb2; have hown2 := jA5 Ho.out hw2; have hBs := HB.out.size; have hs2 := hw2.size; have hlen2 : (cellsOf vs).length = vs.length * 1 := Ho.out.1; obtain ⟨a0, rfl, hone⟩ := hsh; have HONE := hid hone; clear hone
      have HL := hid hlen2; clear hlen2
      have HB2 := hid hB2; have HW2 := hid hw2; have Hown2 := hid hown2
      have hvq : vs.length <= 1000 := by have := HVS.out; omega
      clear hB2 hw2 hown2 hb2; have HSH := hid (show jEM (.string a0) from ⟨a0, rfl, HONE.out⟩); have hss : ∀ u ∈ vs ++ [.string a0], jEM u := fun u hu => (List.mem_append.1 hu).elim (fun h => Hr.out.2 u h) (fun h => by rw [List.mem_singleton.1 h]; exact HSH.out)
      have HSS := hid hss; clear hss
      go_wp2_with (at_builtin; refine jAN _ rfl (.tmp 14) (.tmp 18) 33 rfl w.heap.size 9 i0 (.string ⟨#[]⟩) 1 16 Tryz.underlying33 HI.out HI0.out HI1.out HI2.out rfl (by decide) _ vs.length _ rfl (Hown2.out.alloc _) ⟨w2.heap.size, 0, none⟩ 1 1 [.string a0] rfl (by decide) rfl ?c1 ?c2 ?c3 ?c4 ?c5 ?_)
      case c1 => exact fun j u h => jH7 w2 a0 _ j u h
      case c2 => exact HONE.out
      case c3 => unfold maxLen; omega
      case c4 => omega
      case c5 => simp; omega
      intro v' w3 hown3 hgr hloc; have hB3 := (HB2.out.alloc (by omega) (.cells #[.string a0] 9)).grown hgr (by simp; omega) (fun kk hkk => (Hown2.out.lt kk hkk).1); have hstep : ∀ z x, Kept rep w.heap.size w2 u5.ownBlock z x -> Kept rep w.heap.size w3 v'.ownBlock z x := fun z x hk => (hk.below ((Below.refl _ _).alloc (Nat.le_refl _) (.cells #[.string a0] 9))).step hgr.size (fun b hb1 hb2 => hgr.block b hb1 (fun e => hb2 e.symm)) (by simpa using hloc)
      have hreps : Reps (Kept rep w.heap.size w3 v'.ownBlock) (vs ++ [.string a0]) (xs ++ [x]) := Reps.snoc (hstep _ _ HR.out) (Hr.out.1.mono fun z y hk => hstep _ _ (hk.below HW2.out)); rw [<- cellsStr] at hown3; have H1 := hid hB3; have H2 := hid hown3; have H3 := hid hreps
      clear hgr hB3 hown3 hreps hstep hloc; go_wp2
      go_roundw
      case rel => exact ⟨q + 1, vs ++ [.string a0], xs ++ [x], by go_num, by omega, Hgood, by have := HVS.out; simp [this], hid ⟨H3.out, HSS.out⟩, hid (by rw [List.length_append]; exact H2.out), H1.out⟩
      case measure => simp [intOf]; omega
  . obtain rfl : q = l.length := by omega
    have he := He.out; rw [List.take_length] at he; have hx := Px.jCG he; have He2 := hid he; have Hx := hid hx; have Hv := hid hvs
    clear he hx hvs; go_wp2; go_ret; exact ⟨HB.out, by rw [He2.out]; exact ⟨_, rfl, New.row Ho.out (by rw [Hv.out, Hx.out]) Hr.out.1 (fun u hu => (Hr.out.2 u hu).size)⟩⟩
theorem jM9 (w : World) (v : Value) (x : List UInt8) (h : jEL w v x) : jEM v := ⟨_, h, by simp [Value.oneCell']⟩
theorem jKE (n : Px.Node) (lv : Value) (w : World) : Calls Tryz.prog 92 #[jA7 n lv] w (jB3 w jEL (Px.name n)) := by
 refine (jIX n lv w).mono fun e w' ⟨h1, h2⟩ => ⟨h1, ?_⟩
 revert h2
 cases Px.name n with
 | error p => exact fun h => h
 | ok s => exact fun ⟨v, h, hv⟩ => ⟨v, h, fun _ _ => hv⟩
theorem jO5 {w : World} {k : Nat} {lv : Value} {l : List Px.Node} (hk : jAC w k lv l) (hl : l.length <= 1000) :
 Calls Tryz.prog 125 #[lv, .func (.func 92) #[] #[]] w (jB3 w (fun u => jAI 1 (jEL u) u) (Px.each Px.name l)) :=
 jN4 92 (fun _ _ => by kernel_rfl) Px.name jEL jM9 k lv l w hk hl (fun m _ _ kv' w1 _ _ _ => jKE m kv' w1)
theorem jDS (k : Nat) (n : Px.Node) (lv : Value) (A : Int) (a : Nat) (w : World) (hA : A = (a : Int)) (ha : a <= 8) (hk : jAC w k lv n.list) :
 Calls Tryz.prog 89 #[jA7 n lv, .int .i64 A] w (jB3 w (fun u => jAI 1 (jEL u) u) (Px.names n a)) := by
 have HK := hid hk; clear hk
 generalize hout : Px.names n a = out; have HOUT := hid hout; clear hout
 subst hA; go_enter Tryz.func89, Tryz.ntmps89; unfold jA7; go_wp2_with fail; have hal : Below w.heap.size w (w.alloc (.cells #[.int .i64 n.tok.kind, .int .i64 n.tok.pos, .string ⟨n.tok.text.toArray⟩, .int .i64 n.tok.int, lv, .int .i64 n.takes] 105)) := (Below.refl _ _).alloc (Nat.le_refl _) _; cases hp : Px.nodes n a 8 with
 | error p =>
   refine (jBU k n lv a 8 a 8 _ rfl rfl (HK.out.below hal) (by omega) (by omega) p hp).mono ?_; rintro e w1 ⟨rfl, hb⟩; have ho : out = .error p := by rw [<- HOUT.out, Px.names, hp]
   subst ho; exact ⟨rfl, jAR hb, rfl⟩
 | ok l =>
   obtain ⟨hle, _, h8, _⟩ := jA9 hp; have hll : n.list.length <= 1000 := by rw [<- hle]; omega
   have HP := hid hp; have HLE := hid hle
   clear hp hle; refine (jBA k n lv a 8 a 8 _ rfl rfl (HK.out.below hal) (by omega) (by omega) l HP.out).mono ?_; rintro e w1 ⟨rfl, hb⟩; have HB := hid (jAR hb); clear hb hal; go_wp2_with fail; refine (jO5 (HK.out.below HB.out) hll).mono ?_; intro e w2 ht; cases hr : Px.each Px.name n.list with
   | error p =>
     obtain ⟨rfl, hb⟩ := jAQ ht hr; have ho : out = .error p := by rw [<- HOUT.out, Px.names, HP.out]; dsimp only; rw [HLE.out, hr]
     subst ho; exact ⟨rfl, HB.out.trans (hb.mono HB.out.size), rfl⟩
   | ok xs =>
     obtain ⟨av, rfl, hnew, hb⟩ := jAP ht hr; have ho : out = .ok xs := by rw [<- HOUT.out, Px.names, HP.out]; dsimp only; rw [HLE.out, hr]
     subst ho; have Hnew := hid hnew; have HB2 := bT HB hb; have hs := HB.out.size; clear hnew ht hb hr; go_wp2; go_ret; exact ⟨HB2.out, _, rfl, Hnew.out.stay hs (Stay.refl _ _)⟩
theorem infoAlt : (Tryz.prog.info? 86).map (fun i => (i.zero, i.size, i.bytes)) = some (some (.agg #[.int .i64 0, .int .i64 0, .string ⟨#[]⟩, .int .i64 0, .slice none 0 0, .int .i64 0, .int .i64 0, .string ⟨#[]⟩, .int .i64 0, .slice none 0 0, .slice none 0 0, .slice none 0 0]), 12, 176) := by kernel_rfl
def jEP (v : Value) : Prop := ∃ a0 a1 a2 a3 a4 a5 a6 a7 a8 a9 a10 a11 : Value, v = .agg #[a0, a1, a2, a3, a4, a5, a6, a7, a8, a9, a10, a11] /\ ∀ u ∈ ([a0, a1, a2, a3, a4, a5, a6, a7, a8, a9, a10, a11] : List Value), u.oneCell' = true
theorem jEP.size {v : Value} (h : jEP v) : v.cells.size = 12 := by
 obtain ⟨a0, a1, a2, a3, a4, a5, a6, a7, a8, a9, a10, a11, rfl, hone⟩ := h; rfl
theorem newAlt (w : World) (a0 a1 a2 a3 a4 a5 a6 a7 a8 a9 a10 a11 : Value) (T : TypeId) (j : Nat) (u : Value) (h : ([a0, a1, a2, a3, a4, a5, a6, a7, a8, a9, a10, a11] : List Value)[j]? = some u) :
 (w.alloc (.cells #[a0, a1, a2, a3, a4, a5, a6, a7, a8, a9, a10, a11] T)).cell? ((⟨w.heap.size, 0, none⟩ : Addr).add j) = some u := by
 have e : (⟨w.heap.size, 0, none⟩ : Addr).add j = ⟨w.heap.size, j, none⟩ := by unfold Addr.add; split <;> simp_all
 rw [e, World.cell?_alloc_mark]
 simpa using h
theorem cellsAlt (vs : List Value) (a0 a1 a2 a3 a4 a5 a6 a7 a8 a9 a10 a11 : Value) : cellsOf (vs ++ [.agg #[a0, a1, a2, a3, a4, a5, a6, a7, a8, a9, a10, a11]]) = cellsOf vs ++ [a0, a1, a2, a3, a4, a5, a6, a7, a8, a9, a10, a11] := by
 simp [cellsOf, Value.cells]
theorem jHK {α : Type} (F : FuncId) (hF : ∀ (args : Array Value) (w : World), (callFunc F args).run Tryz.prog w = .ok (.enter F args) w) (f : Px.Node -> Px.R α) (rep : World -> Value -> α -> Prop) (shape : ∀ w v x, rep w v x -> jEP v)
 (k : Nat) (lv : Value) (l : List Px.Node) (w : World) (hk : jAC w k lv l) (hl : l.length <= 1000)
 (part : ∀ n ∈ l, ∀ j kv w1, k = j + 1 -> Below w.heap.size w w1 -> jAC w1 j kv n.list -> Calls Tryz.prog F #[jA7 n kv] w1 (jB3 w1 rep (f n))) :
 Calls Tryz.prog 155 #[lv, .func (.func F) #[] #[]] w (jB3 w (fun u => jAI 12 (rep u) u) (Px.each f l)) := by
 obtain ⟨p0, cp0, rfl⟩ := hk.len; obtain ⟨i0, hi, hz0, hz1, hz2⟩ := info_parts infoAlt; have HI1 := hid hz1; have HI2 := hid hz2; have HI0 := hid hz0; have HI := hid hi
 have HK := hid hk; have HP := hid part; have HS := hid shape; clear hi hz0 hz1 hz2 hk part shape; go_enter Tryz.func155, Tryz.ntmps155; go_wp2_with fail
 go_loopw [5, 10] (fun v i wr => ∃ (q : Nat) (vs : List Value) (xs : List α), i = .int .i64 q /\ q <= l.length /\ Hid (Px.each f (l.take q) = .ok xs) /\ vs.length = q /\ Hid (Reps (Kept rep w.heap.size wr v.ownBlock) vs xs /\ ∀ u ∈ vs, jEP u) /\ Hid (wr.ownsRow w.heap.size 86 12 v vs.length (cellsOf vs)) /\ Below w.heap.size w wr) (fun _ i _ => l.length - (intOf i).toNat)
 case atStart => exact ⟨0, [], [], rfl, Nat.zero_le _, hid (by simp [Px.each]), rfl, hid ⟨trivial, fun _ h => by cases h⟩, hid (World.ownsRow_nil _ _ _ _), Below.refl _ _⟩
 case round =>
  obtain ⟨q, vs, xs, rfl, hq, He, hvs, Hr, Ho, hb⟩ := hrel; have HB := hid hb; clear hb
  by_cases hlt : q < l.length
  . have hne : l ≠ [] := by intro e; rw [e] at hlt; simp at hlt
    obtain ⟨j, g, o, c, hkj, hsl, h3, h4, h5⟩ := HK.out.some hne
    injection hsl with hp0 _ hcp
    subst hp0; subst hcp
    obtain ⟨kv, hn, hkm⟩ := h5 q _ (List.getElem?_eq_getElem hlt); have hnq : l[q]? = some l[q] := List.getElem?_eq_getElem hlt; have hmem : l[q] ∈ l := List.getElem_mem hlt; generalize l[q] = m at *; have hn2 := hn.below HB.out; obtain ⟨pk, ck, rfl⟩ := hkm.len; obtain ⟨c0, c1, c2, c3, c4, c5⟩ := hn2; have hstep := Px.jC9 hnq He.out; have Hstep := hid hstep; have HKM := hid (hkm.below HB.out); have HMEM := hid hmem; have HKJ := hid hkj; have HVS := hid hvs; clear hstep h5 hn hkm hmem hkj hnq hne hvs; have NB := hid (jCX wr m (.slice pk m.list.length ck) 105); cases hfm : f m with
    | error p =>
      have Hbad := hid (Hstep.out.2 p hfm); have Hfm := hid hfm; clear hfm
      go_wp2_with fail; have hc := HP.out m HMEM.out j (.slice pk m.list.length ck) _ HKJ.out (HB.out.alloc HB.out.size (.cells #[.int .i64 m.tok.kind, .int .i64 m.tok.pos, .string ⟨m.tok.text.toArray⟩, .int .i64 m.tok.int, .slice pk m.list.length ck, .int .i64 m.takes] 105)) (HKM.out.below ((Below.refl _ _).alloc (Nat.le_refl _) _)); rw [Hfm.out] at hc; refine hc.mono ?_; rintro e w2 ⟨hb2, he⟩; obtain rfl : e = jAW p := he; refine ⟨rfl, (HB.out.alloc HB.out.size _).trans (hb2.mono (by have := HB.out.size; simp; omega)), ?_⟩; rw [Hbad.out]; rfl
    | ok x =>
      have Hgood := hid (Hstep.out.1 x hfm); have Hfm := hid hfm; clear hfm
      go_wp2_with fail; have hc := HP.out m HMEM.out j (.slice pk m.list.length ck) _ HKJ.out (HB.out.alloc HB.out.size (.cells #[.int .i64 m.tok.kind, .int .i64 m.tok.pos, .string ⟨m.tok.text.toArray⟩, .int .i64 m.tok.int, .slice pk m.list.length ck, .int .i64 m.takes] 105)) (HKM.out.below ((Below.refl _ _).alloc (Nat.le_refl _) _)); rw [Hfm.out] at hc; refine hc.mono ?_; clear hc; rintro e w2 ⟨hb2, v, rfl, hrep⟩; have hsh := HS.out _ _ _ hrep.now; have hkept := hrep.kept (base := w.heap.size) (ob := u5.ownBlock) (by have := HB.out.size; simp; omega) (fun g hg => by have := (Ho.out.lt g hg).2; simp; omega); have HR := hid hkept; clear hrep hkept
      have hB2 := (HB.out.alloc HB.out.size (.cells #[.int .i64 m.tok.kind, .int .i64 m.tok.pos, .string ⟨m.tok.text.toArray⟩, .int .i64 m.tok.int, .slice pk m.list.length ck, .int .i64 m.takes] 105)).trans (hb2.mono (by have := HB.out.size; simp; omega)); have hw2 : Below wr.heap.size wr w2 := jAR hb2; have hown2 := jA5 Ho.out hw2; have hBs := HB.out.size; have hs2 := hw2.size; have hlen2 : (cellsOf vs).length = vs.length * 12 := Ho.out.1; obtain ⟨a0, a1, a2, a3, a4, a5, a6, a7, a8, a9, a10, a11, rfl, hone⟩ := hsh; have HONE := hid hone; clear hone
      have HL := hid hlen2; clear hlen2
      have HB2 := hid hB2; have HW2 := hid hw2; have Hown2 := hid hown2
      have hvq : vs.length <= 1000 := by have := HVS.out; omega
      clear hB2 hw2 hown2 hb2; have HSH := hid (show jEP (.agg #[a0, a1, a2, a3, a4, a5, a6, a7, a8, a9, a10, a11]) from ⟨a0, a1, a2, a3, a4, a5, a6, a7, a8, a9, a10, a11, rfl, HONE.out⟩); have hss : ∀ u ∈ vs ++ [.agg #[a0, a1, a2, a3, a4, a5, a6, a7, a8, a9, a10, a11]], jEP u := fun u hu => (List.mem_append.1 hu).elim (fun h => Hr.out.2 u h) (fun h => by rw [List.mem_singleton.1 h]; exact HSH.out)
      have HSS := hid hss; clear hss
      go_wp2_with (at_builtin; refine jAN _ rfl (.tmp 14) (.tmp 18) 45 rfl w.heap.size 86 i0 (.agg #[.int .i64 0, .int .i64 0, .string ⟨#[]⟩, .int .i64 0, .slice none 0 0, .int .i64 0, .int .i64 0, .string ⟨#[]⟩, .int .i64 0, .slice none 0 0, .slice none 0 0, .slice none 0 0]) 12 176 Tryz.underlying45 HI.out HI0.out HI1.out HI2.out rfl (by decide) _ vs.length _ rfl (Hown2.out.alloc _) ⟨w2.heap.size, 0, none⟩ 1 1 [a0, a1, a2, a3, a4, a5, a6, a7, a8, a9, a10, a11] rfl (by decide) rfl ?c1 ?c2 ?c3 ?c4 ?c5 ?_)
      case c1 => exact fun j u h => newAlt w2 a0 a1 a2 a3 a4 a5 a6 a7 a8 a9 a10 a11 _ j u h
      case c2 => exact HONE.out
      case c3 => unfold maxLen; omega
      case c4 => omega
      case c5 => simp; omega
      intro v' w3 hown3 hgr hloc; have hB3 := (HB2.out.alloc (by omega) (.cells #[a0, a1, a2, a3, a4, a5, a6, a7, a8, a9, a10, a11] 86)).grown hgr (by simp; omega) (fun kk hkk => (Hown2.out.lt kk hkk).1); have hstep : ∀ z x, Kept rep w.heap.size w2 u5.ownBlock z x -> Kept rep w.heap.size w3 v'.ownBlock z x := fun z x hk => (hk.below ((Below.refl _ _).alloc (Nat.le_refl _) (.cells #[a0, a1, a2, a3, a4, a5, a6, a7, a8, a9, a10, a11] 86))).step hgr.size (fun b hb1 hb2 => hgr.block b hb1 (fun e => hb2 e.symm)) (by simpa using hloc)
      have hreps : Reps (Kept rep w.heap.size w3 v'.ownBlock) (vs ++ [.agg #[a0, a1, a2, a3, a4, a5, a6, a7, a8, a9, a10, a11]]) (xs ++ [x]) := Reps.snoc (hstep _ _ HR.out) (Hr.out.1.mono fun z y hk => hstep _ _ (hk.below HW2.out)); rw [<- cellsAlt] at hown3; have H1 := hid hB3; have H2 := hid hown3; have H3 := hid hreps
      clear hgr hB3 hown3 hreps hstep hloc; go_wp2
      go_roundw
      case rel => exact ⟨q + 1, vs ++ [.agg #[a0, a1, a2, a3, a4, a5, a6, a7, a8, a9, a10, a11]], xs ++ [x], by go_num, by omega, Hgood, by have := HVS.out; simp [this], hid ⟨H3.out, HSS.out⟩, hid (by rw [List.length_append]; exact H2.out), H1.out⟩
      case measure => simp [intOf]; omega
  . obtain rfl : q = l.length := by omega
    have he := He.out; rw [List.take_length] at he; have hx := Px.jCG he; have He2 := hid he; have Hx := hid hx; have Hv := hid hvs
    clear he hx hvs; go_wp2; go_ret; exact ⟨HB.out, by rw [He2.out]; exact ⟨_, rfl, New.row Ho.out (by rw [Hv.out, Hx.out]) Hr.out.1 (fun u hu => (Hr.out.2 u hu).size)⟩⟩
theorem jFB (f : Nat) (w : World) (v : Value) (x : Px.Pat) (h : jE f w v x) : ∃ (k p i : Int) (s : ByteArray) (q1 : Option Addr) (n1 c1 : Nat),
 v = .agg #[.int .i64 k, .int .i64 p, .string s, .int .i64 i, .slice q1 n1 c1] := by
 cases f with
 | zero => exact h.elim
 | succ f =>
   obtain ⟨k, p, nm, i, args⟩ := x; obtain ⟨av, rfl, h1⟩ := h; obtain ⟨q1, c1, rfl⟩ := h1.len; exact ⟨_, _, _, _, _, _, _, rfl⟩
def jNN (f : Nat) (u : World) : Value -> Px.Pat × Px.Expr -> Prop := AltOf (jE f u) (jB f u)
theorem jHN (f : Nat) (w : World) (v : Value) (x : Px.Pat × Px.Expr) (h : jNN f w v x) : jEP v := by
 obtain ⟨a0, a1, a2, a3, a4, b0, b1, b2, b3, b4, b5, b6, rfl, h1, h2⟩ := h; obtain ⟨k, p, i, s, q1, n1, c1, e1⟩ := jFB f w _ _ h1; obtain ⟨k', p', i', s', q1', n1', c1', q2, n2, c2, q3, n3, c3, e2⟩ := jAU f w _ _ h2; simp only [Value.agg.injEq, Array.mk.injEq, List.cons.injEq, and_true] at e1 e2; obtain ⟨rfl, rfl, rfl, rfl, rfl⟩ := e1; obtain ⟨rfl, rfl, rfl, rfl, rfl, rfl, rfl⟩ := e2; exact ⟨_, _, _, _, _, _, _, _, _, _, _, _, rfl, by simp [Value.oneCell']⟩
def jE0 (f k : Nat) : Prop := ∀ (n : Px.Node) (lv : Value) (j : Nat) (w : World), jAC w j lv n.list -> j < k -> Calls Tryz.prog 81 #[jA7 n lv] w (jB3 w (jB f) (Px.expr f n))
theorem alt_bad (k : Nat) (n : Px.Node) (lv : Value) (w : World) (hk : jAC w k lv n.list) (p : Nat) (hp : Px.nodes n 2 2 = .error p) :
 Calls Tryz.prog 156 #[jA7 n lv] w (fun e w' => e = jAW p /\ Below w.heap.size w w') := by
 have HK := hid hk; clear hk; go_enter Tryz.func156, Tryz.ntmps156; unfold jA7; go_wp2_with fail; have EN := hid (jA2 (jA3 w #[.int .i64 n.tok.kind, .int .i64 n.tok.pos, .string ⟨n.tok.text.toArray⟩, .int .i64 n.tok.int, lv, .int .i64 n.takes] 105) (.cells #[.int .i64 0, .int .i64 0, .string ⟨#[]⟩, .int .i64 0, .slice none 0 0, .int .i64 0, .int .i64 0, .string ⟨#[]⟩, .int .i64 0, .slice none 0 0, .slice none 0 0, .slice none 0 0] 86)); have ER0 := jA3 (w.alloc (.cells #[.int .i64 n.tok.kind, .int .i64 n.tok.pos, .string ⟨n.tok.text.toArray⟩, .int .i64 n.tok.int, lv, .int .i64 n.takes] 105)) #[.int .i64 0, .int .i64 0, .string ⟨#[]⟩, .int .i64 0, .slice none 0 0, .int .i64 0, .int .i64 0, .string ⟨#[]⟩, .int .i64 0, .slice none 0 0, .slice none 0 0, .slice none 0 0] 86; rw [World.size_alloc] at ER0; have ER := hid ER0; have HB := hid (((Below.refl w.heap.size w).alloc (Nat.le_refl _) (.cells #[.int .i64 n.tok.kind, .int .i64 n.tok.pos, .string ⟨n.tok.text.toArray⟩, .int .i64 n.tok.int, lv, .int .i64 n.takes] 105)).alloc (by simp) (.cells #[.int .i64 0, .int .i64 0, .string ⟨#[]⟩, .int .i64 0, .slice none 0 0, .int .i64 0, .int .i64 0, .string ⟨#[]⟩, .int .i64 0, .slice none 0 0, .slice none 0 0, .slice none 0 0] 86)); clear ER0; refine (jBU k n lv 2 2 2 2 _ rfl rfl (HK.out.below HB.out) (by omega) (by omega) p hp).mono ?_; rintro e w1 ⟨rfl, hb⟩; replace HB := bT HB hb; clear hb; exact ⟨rfl, rfl, HB.out⟩
theorem alt_ok (k : Nat) (n : Px.Node) (lv : Value) (w : World) (hk : jAC w k lv n.list) (l : List Px.Node) (hp : Px.nodes n 2 2 = .ok l) (m0 : Px.Node) (hm0 : n.list[0]? = some m0) (m1 : Px.Node) (hm1 : n.list[1]? = some m1) (f : Nat) (hkf : k <= f) (hex : jE0 f k) (out : Px.R (Px.Pat × Px.Expr)) (hout : Px.alt f (Px.expr f) n = out) :
 Calls Tryz.prog 156 #[jA7 n lv] w (jB3 w (jNN f) out) := by
 obtain ⟨hle, h2, h9, _⟩ := jA9 hp; have hle0 := hle; rw [hle] at h2 h9; obtain ⟨j, g, o, c, rfl, rfl, h3, h4, h5⟩ := hk.some (by intro e; rw [e] at h2; simp at h2); obtain ⟨kv0, hat0, hkm0⟩ := h5 0 m0 hm0; rw [Nat.zero_mul, Nat.add_zero] at hat0; have HAT0 := hid hat0; have HKM0 := hid hkm0; have HM0 := hid hm0
 clear hat0 hkm0 hm0; obtain ⟨kv1, hat1, hkm1⟩ := h5 1 m1 hm1; simp only [Nat.reduceMul] at hat1; have HAT1 := hid hat1; have HKM1 := hid hkm1; have HM1 := hid hm1
 clear hat1 hkm1 hm1; have hne : ¬ n.list = [] := by intro e; rw [e] at h2; simp at h2
 have hbi1 : ¬ ((n.list.length : Int) < 1) := by omega
 have hbi2 : ¬ ((n.list.length : Int) < 2) := by omega
 have hbj0 : (0 : Int) < (n.list.length : Int) := by omega
 have hbj1 : (1 : Int) < (n.list.length : Int) := by omega
 have HK := hid hk; have HP := hid hp
 clear h5 hk hp hle; have HOUT := hid hout; clear hout
 have hgw : g < w.heap.size := World.block_lt_of_cell? w _ HAT0.out.c0; have hgne : g ≠ w.heap.size + 1 := by omega
 have HLE := hid hle0; have HH0 := hid (show l.headD n = m0 by rw [hle0, List.headD_eq_head?_getD, List.head?_eq_getElem?, HM0.out]; rfl); have HH1 := hid (show l.getD 1 n = m1 by rw [hle0, List.getD_eq_getElem?_getD, HM1.out]; rfl); have HEX := hid hex; clear hle0 hex
 go_enter Tryz.func156, Tryz.ntmps156; unfold jA7; go_wp2_with fail; have EN := hid (jA2 (jA3 w #[.int .i64 n.tok.kind, .int .i64 n.tok.pos, .string ⟨n.tok.text.toArray⟩, .int .i64 n.tok.int, (.slice (some ⟨g, o, none⟩) n.list.length c), .int .i64 n.takes] 105) (.cells #[.int .i64 0, .int .i64 0, .string ⟨#[]⟩, .int .i64 0, .slice none 0 0, .int .i64 0, .int .i64 0, .string ⟨#[]⟩, .int .i64 0, .slice none 0 0, .slice none 0 0, .slice none 0 0] 86)); have ER0 := jA3 (w.alloc (.cells #[.int .i64 n.tok.kind, .int .i64 n.tok.pos, .string ⟨n.tok.text.toArray⟩, .int .i64 n.tok.int, (.slice (some ⟨g, o, none⟩) n.list.length c), .int .i64 n.takes] 105)) #[.int .i64 0, .int .i64 0, .string ⟨#[]⟩, .int .i64 0, .slice none 0 0, .int .i64 0, .int .i64 0, .string ⟨#[]⟩, .int .i64 0, .slice none 0 0, .slice none 0 0, .slice none 0 0] 86; rw [World.size_alloc] at ER0; have ER := hid ER0; have HB := hid (((Below.refl w.heap.size w).alloc (Nat.le_refl _) (.cells #[.int .i64 n.tok.kind, .int .i64 n.tok.pos, .string ⟨n.tok.text.toArray⟩, .int .i64 n.tok.int, (.slice (some ⟨g, o, none⟩) n.list.length c), .int .i64 n.takes] 105)).alloc (by simp) (.cells #[.int .i64 0, .int .i64 0, .string ⟨#[]⟩, .int .i64 0, .slice none 0 0, .int .i64 0, .int .i64 0, .string ⟨#[]⟩, .int .i64 0, .slice none 0 0, .slice none 0 0, .slice none 0 0] 86)); clear ER0; refine (jBA (j + 1) n (.slice (some ⟨g, o, none⟩) n.list.length c) 2 2 2 2 _ rfl rfl (HK.out.below HB.out) (by omega) (by omega) l HP.out).mono ?_; rintro e w1 ⟨rfl, hb⟩; replace EN := hid (jA0 EN.out hb); replace ER := hid (jA0 ER.out hb); replace HB := bT HB hb; clear hb; go_wp2_with fail; refine wp_region_held_drew (S := (fun w' => w'.heap[w.heap.size]? = some (.cells #[.int .i64 n.tok.kind, .int .i64 n.tok.pos, .string ⟨n.tok.text.toArray⟩, .int .i64 n.tok.int, (.slice (some ⟨g, o, none⟩) n.list.length c), .int .i64 n.takes] 105 (0, 0)) /\ NodeAt w' g (o) m0 kv0 /\ NodeAt w' g (o + 6) m1 kv1)) (by kernel_rfl) (⟨EN.out, HAT0.out.below (HB.out.drew), HAT1.out.below (HB.out.drew)⟩) (fun hHeld => ?_); refine wT 0 ((.slice (some ⟨g, o, none⟩) n.list.length c)) rfl (Or.inl ⟨by rfl, fun w' hSw => by go_simp⟩) hHeld ?_; refine wT 1 (.pointer (some ⟨g, o, none⟩)) rfl (Or.inl ⟨by rfl, fun w' hSw => by go_simp⟩) hHeld ?_; refine wT 2 (.agg #[.int .i64 m0.tok.kind, .int .i64 m0.tok.pos, .string ⟨m0.tok.text.toArray⟩, .int .i64 m0.tok.int, kv0, .int .i64 m0.takes]) rfl (Or.inl ⟨by rfl, fun w' hSw => by obtain ⟨m0, m1, m2, m3, m4, m5⟩ := hSw.2.1; go_simp⟩) hHeld ?_; refine wT 4 ((.slice (some ⟨g, o, none⟩) n.list.length c)) rfl (Or.inl ⟨by rfl, fun w' hSw => by go_simp⟩) hHeld ?_; refine wT 5 (.pointer (some ⟨g, o + 6, none⟩)) rfl (Or.inl ⟨by rfl, fun w' hSw => by go_simp⟩) hHeld ?_; refine wT 6 (.agg #[.int .i64 m1.tok.kind, .int .i64 m1.tok.pos, .string ⟨m1.tok.text.toArray⟩, .int .i64 m1.tok.int, kv1, .int .i64 m1.takes]) rfl (Or.inl ⟨by rfl, fun w' hSw => by obtain ⟨m0, m1, m2, m3, m4, m5⟩ := hSw.2.2; go_simp⟩) hHeld ?_; simp only [Act.put, jR2, jR3, jR4]; refine wR 3 rfl (fun K hK => ?_); go_simp; refine (pat_any f m0 kv0 j _ (HKM0.out.below HB.out.drew) (by omega)).mono ?_; intro e w3 ht; cases hh : Px.pat f m0 with
 | error p =>
   obtain ⟨rfl, hb⟩ := jAQ ht hh; have ho : out = .error p := by rw [<- HOUT.out, Px.alt, HP.out]; dsimp only; rw [HH0.out, hh]
   subst ho; exact ⟨rfl, HB.out.trans ((jBF hb).mono HB.out.size), rfl⟩
 | ok px =>
   obtain ⟨pv, rfl, hnew, hb⟩ := jAP ht hh; obtain ⟨pk, pp, pi, ps, pq, pn, pc, rfl⟩ := jFB f _ _ _ hnew.now; have HPX := hid hh; clear hh
   have Hp1 := hid hnew; clear hnew ht
   have hs1 := HB.out.size; have hw1 := jA6 ER.out
   have hbd := hb; replace hb := jBF hb
   replace ER := hid (jA0 ER.out hb); replace HB := bT HB hb; refine hK.out _ _ (⟨jA0 hHeld.1 hbd, (hHeld.2.1).below hbd, (hHeld.2.2).below hbd⟩) (fun hHeld => ?_); clear hK K; clear hb hbd; refine wR 7 rfl (fun K hK => ?_); go_simp; refine (HEX.out m1 kv1 j _ (HKM1.out.below HB.out) (by omega)).mono ?_; intro e w4 ht; cases hr : Px.expr f m1 with
   | error p =>
     obtain ⟨rfl, hb⟩ := jAQ ht hr; have ho : out = .error p := by rw [<- HOUT.out, Px.alt, HP.out]; dsimp only; rw [HH0.out, HPX.out]; dsimp only; rw [HH1.out, hr]
     subst ho; exact ⟨rfl, HB.out.trans (hb.mono HB.out.size), rfl⟩
   | ok x =>
     obtain ⟨av, rfl, hnew, hb⟩ := jAP ht hr; obtain ⟨xk, xp, xi, xs, q1, n1, c1, q2, n2, c2, q3, n3, c3, rfl⟩ := jAU f _ _ _ hnew.now; have ho : out = .ok (px, x) := by rw [<- HOUT.out, Px.alt, HP.out]; dsimp only; rw [HH0.out, HPX.out]; dsimp only; rw [HH1.out, hr]
     subst ho; have hws := jA6 ER.out; have Hnew := hid hnew; have Hst := hid ((Stay.refl w1.heap.size w3).below hb); replace ER := hid (jA0 ER.out hb); replace HB := bT HB hb; refine hK.out _ _ (⟨jA0 hHeld.1 hb, (hHeld.2.1).below hb, (hHeld.2.2).below hb⟩) (fun hHeld => ?_); clear hK K; clear hb hr ht hnew; refine wR 8 rfl (fun K hK => ?_); go_simp; refine hK.out _ _ (hHeld) (fun hHeld => ?_); clear hK K; have rf := jA1 ER.out; have r0 := jA ER.out 0 _ rfl; have r1 := jA ER.out 1 _ rfl; have r2 := jA ER.out 2 _ rfl; have r3 := jA ER.out 3 _ rfl; have r4 := jA ER.out 4 _ rfl; have r5 := jA ER.out 5 _ rfl; have r6 := jA ER.out 6 _ rfl; have r7 := jA ER.out 7 _ rfl; have r8 := jA ER.out 8 _ rfl; have r9 := jA ER.out 9 _ rfl; have r10 := jA ER.out 10 _ rfl; have r11 := jA ER.out 11 _ rfl; refine wR 9 rfl (fun K hK => ?_); go_simp; refine hK.out _ _ (⟨jA4 (jA4 (jA4 (jA4 (jA4 (jA4 (jA4 (jA4 (jA4 (jA4 (jA4 (jA4 (hHeld.1) (w.heap.size + 1) 0 _ (by omega)) (w.heap.size + 1) 1 _ (by omega)) (w.heap.size + 1) 2 _ (by omega)) (w.heap.size + 1) 3 _ (by omega)) (w.heap.size + 1) 4 _ (by omega)) (w.heap.size + 1) 5 _ (by omega)) (w.heap.size + 1) 6 _ (by omega)) (w.heap.size + 1) 7 _ (by omega)) (w.heap.size + 1) 8 _ (by omega)) (w.heap.size + 1) 9 _ (by omega)) (w.heap.size + 1) 10 _ (by omega)) (w.heap.size + 1) 11 _ (by omega), (NodeAt.other (NodeAt.other (NodeAt.other (NodeAt.other (NodeAt.other (NodeAt.other (NodeAt.other (NodeAt.other (NodeAt.other (NodeAt.other (NodeAt.other (NodeAt.other (hHeld.2.1) (w.heap.size + 1) 0 _ hgne) (w.heap.size + 1) 1 _ hgne) (w.heap.size + 1) 2 _ hgne) (w.heap.size + 1) 3 _ hgne) (w.heap.size + 1) 4 _ hgne) (w.heap.size + 1) 5 _ hgne) (w.heap.size + 1) 6 _ hgne) (w.heap.size + 1) 7 _ hgne) (w.heap.size + 1) 8 _ hgne) (w.heap.size + 1) 9 _ hgne) (w.heap.size + 1) 10 _ hgne) (w.heap.size + 1) 11 _ hgne), (NodeAt.other (NodeAt.other (NodeAt.other (NodeAt.other (NodeAt.other (NodeAt.other (NodeAt.other (NodeAt.other (NodeAt.other (NodeAt.other (NodeAt.other (NodeAt.other (hHeld.2.2) (w.heap.size + 1) 0 _ hgne) (w.heap.size + 1) 1 _ hgne) (w.heap.size + 1) 2 _ hgne) (w.heap.size + 1) 3 _ hgne) (w.heap.size + 1) 4 _ hgne) (w.heap.size + 1) 5 _ hgne) (w.heap.size + 1) 6 _ hgne) (w.heap.size + 1) 7 _ hgne) (w.heap.size + 1) 8 _ hgne) (w.heap.size + 1) 9 _ hgne) (w.heap.size + 1) 10 _ hgne) (w.heap.size + 1) 11 _ hgne)⟩) (fun hHeld => ?_); clear hK K; refine wpAnyH_done (by kernel_rfl) ?_ _; go_wp2_with fail; refine bodyPost_ret (v := .agg #[.int .i64 pk, .int .i64 pp, .string ps, .int .i64 pi, .slice pq pn pc, .int .i64 xk, .int .i64 xp, .string xs, .int .i64 xi, .slice q1 n1 c1, .slice q2 n2 c2, .slice q3 n3 c3]) (by simp [results, Tryz.results156, go_sem, Px.Node.text, r0, r1, r2, r3, r4, r5, r6, r7, r8, r9, r10, r11]) rfl ?_; refine ⟨?_, _, rfl, fun u hu => ⟨_, _, _, _, _, _, _, _, _, _, _, _, rfl, ?_, ?_⟩⟩
     . repeat (first | with_reducible exact HB.out | with_reducible refine Below.drew ?_ | with_reducible refine Below.setCell ?_ (by dsimp only; omega) _)
     . refine New.stay (w := w) (w1 := w1) (w2 := w3) Hp1.out hs1 ?_ u hu
       repeat (first | with_reducible exact Hst.out | with_reducible refine Stay.set ?_ _ _ _ (by omega))
     . refine New.stay (w := w) Hnew.out (by omega) ?_ u hu
       repeat (first | with_reducible exact Stay.refl _ _ | with_reducible refine Stay.set ?_ _ _ _ (by omega))
theorem jP7 (f k : Nat) (n : Px.Node) (lv : Value) (w : World) (hk : jAC w k lv n.list) (hkf : k <= f) (hex : jE0 f k) : Calls Tryz.prog 156 #[jA7 n lv] w (jB3 w (jNN f) (Px.alt f (Px.expr f) n)) := by
 cases hnd : Px.nodes n 2 2 with
 | error p =>
   have : Px.alt f (Px.expr f) n = .error p := by rw [Px.alt, hnd]
   rw [this]; exact (alt_bad k n lv w hk p hnd).mono fun e w' ⟨h1, h2⟩ => ⟨h2, h1⟩
 | ok l =>
   obtain ⟨hle, h2, _, _⟩ := jA9 hnd; exact alt_ok k n lv w hk l hnd (n.list[0]'(by rw [<- hle]; omega)) (List.getElem?_eq_getElem _) (n.list[1]'(by rw [<- hle]; omega)) (List.getElem?_eq_getElem _) f hkf hex _ rfl
theorem jLO (n : Px.Node) (lv : Value) (w : World) : Calls Tryz.prog 88 #[jA7 n lv] w (jB3 w jEL (Px.jAJ n)) := by
 refine (jG1 n lv w).mono fun e w' ⟨h1, h2⟩ => ⟨h1, ?_⟩
 revert h2
 cases Px.jAJ n with
 | error p => exact fun h => h
 | ok s => exact fun ⟨v, h, hv⟩ => ⟨v, h, fun _ _ => hv⟩
theorem row_one {α : Type} {sz : Nat} {rep : Value -> α -> Prop} {u : World} {g : Nat} {cs : Array Value} {T : TypeId} {fr : Nat × Nat} {x : α} (hu : u.heap[g]? = some (.cells cs T fr)) (hs : cs.size = sz) (hr : rep (.agg cs) x) :
 jAI sz rep u (.slice (some ⟨g, 0, none⟩) 1 1) [x] := by
 refine .inr ⟨g, 0, 1, rfl, by simp, by omega, fun i y hy => ?_⟩; cases i with
 | zero =>
   simp only [List.getElem?_cons_zero, Option.some.injEq] at hy; subst hy; exact ⟨_, hr, hs, fun j z hz => jA hu _ _ (by rw [show 0 + 0 * sz + j = j by omega]; exact hz)⟩
 | succ i => simp at hy
end Go.Proofs.YtnhndamfbeiljaaGreatDoor
