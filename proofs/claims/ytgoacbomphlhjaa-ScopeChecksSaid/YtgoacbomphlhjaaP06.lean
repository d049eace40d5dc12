/-
  The document's answers, layer 2: lists of names, of expressions.
-/
import Derived.Test.YtgoacbomphlhjaaP00
import Derived.Test.YtgoacbomphlhjaaP05
set_option linter.unusedVariables false
set_option linter.unusedSimpArgs false
namespace Go.Proofs.Ytgoacbomphlhjaa
open Go.Lib (hid)
open List renaming getElem_toArray → jX, getElem_cons_succ → jY, getElem_cons_zero → jZ, setIfInBounds_toArray → JA, set_cons_zero → JB, set_cons_succ → JC
open Go Go.RowKit
theorem infoStr : (Try.prog.info? 9).map (fun i => (i.zero, i.size, i.bytes)) = some (some (.string ⟨#[]⟩), 1, 16) := by kernel_rfl
theorem ent_drew {w : World} {g : Nat} {o : Option Obj} (h : Hid (w.heap[g]? = o)) : Hid (w.drew.heap[g]? = o) := h
def ShSlice (v : Value) : Prop := ∃ p n c, v = .slice p n c
theorem newStr (w : World) (x : ByteArray) (T : TypeId) (j : Nat) (u : Value) (h : ([Value.string x] : List Value)[j]? = some u) :
 (w.alloc (.cells #[.string x] T)).cell? ((⟨w.heap.size, 0, none⟩ : Addr).add j) = some u := by
 have e : (⟨w.heap.size, 0, none⟩ : Addr).add j = ⟨w.heap.size, j, none⟩ := by unfold Addr.add; split <;> simp_all
 rw [e, World.cell?_alloc_mark]
 simpa using h
/-- An element's cells, of a row of nodes. -/
theorem jR {k g o : Nat} {w : World} {u : Value} {m : Px.Node} {i : Nat} (hu : NdAt k w u m) (hc : ∀ j z, u.cells[j]? = some z → w.cell? ⟨g, o + i * 6 + j, none⟩ = some z) :
 ∃ k' kv, k = k' + 1 ∧ u = nV m kv ∧ RowAt 6 (NdAt k' w) w kv m.list ∧ w.cell? ⟨g, o + i * 6, none⟩ = some (.int .i64 m.tok.kind) ∧ w.cell? ⟨g, o + i * 6 + 1, none⟩ = some (.int .i64 m.tok.pos) ∧ w.cell? ⟨g, o + i * 6 + 2, none⟩ = some (.string ⟨m.tok.text.toArray⟩) ∧
  w.cell? ⟨g, o + i * 6 + 3, none⟩ = some (.int .i64 m.tok.int) ∧ w.cell? ⟨g, o + i * 6 + 4, none⟩ = some (.bool (Px.jS m)) ∧ w.cell? ⟨g, o + i * 6 + 5, none⟩ = some kv := by
 cases k with
 | zero => exact hu.elim
 | succ k =>
   obtain ⟨kv, rfl, hr⟩ := hu
   exact ⟨k, kv, rfl, rfl, hr, hc 0 (.int .i64 m.tok.kind) rfl, hc 1 (.int .i64 m.tok.pos) rfl, hc 2 (.string ⟨m.tok.text.toArray⟩) rfl, hc 3 (.int .i64 m.tok.int) rfl, hc 4 (.bool (Px.jS m)) rfl, hc 5 kv rfl⟩
theorem jE {w W : World} (h : Below w.heap.size w W) {a : Addr} {z : Value} (hz : w.cell? a = some z) : W.cell? a = some z := (h.cell (World.block_lt_of_cell? w _ hz)).trans hz
/-- The call's own list of texts. -/
def strVs (l : List (List UInt8)) : List Value := l.map fun s => .string ⟨s.toArray⟩
theorem strVs_snoc (l : List (List UInt8)) (s : List UInt8) : strVs (l ++ [s]) = strVs l ++ [.string ⟨s.toArray⟩] := by simp [strVs]
theorem row_of_own {w : World} {base : Nat} {v : Value} {l : List (List UInt8)} {n : Nat} (h : w.ownsRow base 9 1 v n (strVs l)) : RowAt 1 (StrAt w) w v l := by
 have hl : l.length = n := by have := h.1; simpa [strVs] using this
 subst hl
 rcases h.2 with ⟨rfl, hn⟩ | ⟨g, cap, cur, rfl, hb, hh, hn, hm, hsz, htk⟩
 · exact .inl ⟨List.eq_nil_of_length_eq_zero hn, none, 0, rfl⟩
 · refine .inr ⟨g, 0, cap, rfl, by omega, by unfold maxLen at hm; omega, fun i x hx => ⟨_, rfl, rfl, fun j z hz => ?_⟩⟩
   have hj : j = 0 := by
    have := (Array.getElem?_eq_some_iff.1 hz).1
    simp [Value.cells] at this; exact this
   subst hj
   have hz' : z = .string ⟨x.toArray⟩ := by simpa [Value.cells] using hz.symm
   subst hz'
   have := World.ownsRow.cells h rfl i (.string ⟨x.toArray⟩) (by unfold strVs; rw [List.getElem?_map, hx]; rfl)
   have e : (⟨g, 0, none⟩ : Addr).add i = ⟨g, 0 + i * 1 + 0, none⟩ := by unfold Addr.add; split <;> simp_all
   rw [e] at this; exact this
/-- What nodes hands on: the list, of so many nodes. -/
theorem jW {n : Px.Node} {a b : Nat} {l : List Px.Node} (h : Px.nodes n a b = .ok l) : l = n.list ∧ a ≤ l.length ∧ l.length ≤ b ∧ Px.jS n = true := by
 unfold Px.nodes Px.hold at h
 by_cases h1 : Px.jS n = true
 · rw [if_pos h1] at h
   by_cases h2 : n.list.length < a
   · rw [if_pos h2] at h; cases h
   · rw [if_neg h2] at h
     cases h3 : n.list[b]? with
     | some m => rw [h3] at h; cases h
     | none =>
       rw [h3] at h
       obtain rfl : n.list = l := by simpa using h
       exact ⟨rfl, by omega, by simpa using h3, h1⟩
 · rw [if_neg h1] at h; cases h
theorem strs_new {w W : World} {base n : Nat} {v : Value} {l : List (List UInt8)} (h : W.ownsRow base 9 1 v n (strVs l)) (hb : w.heap.size ≤ base) : New (fun u => RowAt 1 (StrAt u) u) w W v l :=
 fun u hu => row_of_own (own_same h fun k hk => hu k (by have := (h.lt k hk).1; omega) (h.lt k hk).2)
theorem own_slice3 {w : World} {base e size n : Nat} {v : Value} {xs : List Value} (h : w.ownsRow base e size v n xs) : ShSlice v := by
 obtain ⟨p, c, rfl⟩ := jF h
 exact ⟨p, _, c, rfl⟩
set_option maxHeartbeats 2000000 in
set_option maxRecDepth 100000 in
theorem names_any (k : Nat) (n : Px.Node) (v : Value) (w : World) (hn : NdAt k w v n) (hg : Px.NodeGood n) : Calls Try.prog 41 #[v] w (RTold w (fun u => RowAt 1 (StrAt u) u) ShSlice (Px.names n 0)) := by
 cases k with
 | zero => exact hn.elim
 | succ k =>
 have HN0 := hid hn
 obtain ⟨lv, rfl, hr⟩ := hn
 obtain ⟨q, c, rfl⟩ := hr.len
 have HR := hid hr
 have HG := hid (fun m hm => hg.kid (m := m) hm)
 obtain ⟨i0, hi, hq0, hq1, hq2⟩ := info_parts infoStr
 have I0 := hid hi; have I00 := hid hq0; have I01 := hid hq1; have I02 := hid hq2
 clear hi hq0 hq1 hq2 hr
 go_enter Try.func41, Try.ntmps41
 unfold nV
 have EN := hid (jI w #[.int .i64 n.tok.kind, .int .i64 n.tok.pos, .string ⟨n.tok.text.toArray⟩, .int .i64 n.tok.int, .bool (Px.jS n), (.slice q n.list.length c)] 73)
 have HB := hid ((Below.refl w.heap.size w).alloc (Nat.le_refl _) (.cells #[.int .i64 n.tok.kind, .int .i64 n.tok.pos, .string ⟨n.tok.text.toArray⟩, .int .i64 n.tok.int, .bool (Px.jS n), (.slice q n.list.length c)] 73))
 go_wp2_with fail
 refine (size_any (k + 1) n _ 0 8 _ (HN0.out.below HB.out) (by omega) (by omega)).mono ?_
 rintro e w1 ⟨rfl, hb⟩
 replace EN := hid (jC EN.out hb)
 replace HB := hid (HB.out.trans (hb.mono HB.out.size))
 clear hb
 unfold sizeP
 cases hnd : Px.nodes n 0 8 with
 | error p =>
   dsimp only
   have hge : (p : Int) ≥ 0 := by omega
   go_wp2_with fail
   go_ret2
   exact jL (by unfold Px.names; rw [hnd]) HB.out ⟨_, _, _, rfl⟩
 | ok l =>
   dsimp only
   have hni := jW hnd
   have hll := hni.1
   have hlen := hni.2.2.1
   clear hni
   subst hll
   have hnm : Px.names n 0 = Px.each Px.name n.list := by unfold Px.names; rw [hnd]
   have HNM := hid hnm
   clear hnd hnm
   go_wp2_with fail
   go_loopw [2, 3, 5, 6, 7, 8] (fun _ _ v i _ _ wr => ∃ (j : Nat) (xs : List (List UInt8)), i = .int .i64 j ∧ j ≤ n.list.length ∧ Hid (Px.each Px.name (n.list.take j) = .ok xs) ∧ xs.length = j ∧ Hid (wr.ownsRow (w.heap.size + 1) 9 1 v xs.length (strVs xs)) ∧ Hid (wr.heap[w.heap.size]? = some (.cells #[.int .i64 n.tok.kind, .int .i64 n.tok.pos, .string ⟨n.tok.text.toArray⟩, .int .i64 n.tok.int, .bool (Px.jS n), (.slice q n.list.length c)] 73)) ∧ Hid (Below w.heap.size w wr)) (fun _ _ _ i _ _ _ => n.list.length - (intOf i).toNat)
   case atStart => exact ⟨0, [], rfl, Nat.zero_le _, hid (by simp [Px.each]), rfl, hid (World.ownsRow_nil _ _ _ _), EN, HB⟩
   case round =>
    clear EN HB
    obtain ⟨j, xs, rfl, hj, HE, hxl, HO, EN, HB⟩ := hrel
    have hs1 := jK EN.out
    have e5 := jA EN.out 5 _ rfl
    by_cases hlt : j < n.list.length
    · have hstep := Px.each_take (f := Px.name) (List.getElem?_eq_getElem hlt) HE.out
      have hgg : n.list[j]? = some n.list[j] := List.getElem?_eq_getElem hlt
      obtain ⟨m, hm⟩ : ∃ m, n.list[j]? = some m := ⟨_, List.getElem?_eq_getElem hlt⟩
      have hgm : Px.NodeGood m := HG.out m (List.mem_of_getElem? hm)
      rcases HR.out with ⟨h0, _⟩ | ⟨g, of, c', hv, g1, g2, g3⟩
      · rw [h0] at hlt; simp at hlt
      injection hv with hq1 _ hq2
      subst hq1; subst hq2
      obtain ⟨u, hu, _, hcell⟩ := g3 j m hm
      obtain ⟨k1, kv, hk1, rfl, hkr, m0, m1, m2, m3, m4, m5⟩ := jR hu hcell
      have HU := hid hu; have HM := hid hm; have HGM := hid hgm
      have hlc : (n.list.length : Int) ≤ 9223372036854775807 := by omega
      clear hu hm hgm hcell g3 hkr
      replace m0 := jE HB.out m0
      replace m1 := jE HB.out m1
      replace m2 := jE HB.out m2
      replace m3 := jE HB.out m3
      replace m4 := jE HB.out m4
      replace m5 := jE HB.out m5
      have hmm : n.list[j] = m := by have := HM.out; rw [hgg] at this; exact Option.some.inj this
      rw [hmm] at hstep
      have HST := hid hstep
      clear hstep hgg hmm
      go_wp2_with fail
      refine (name_any m kv _ HGM.out).mono ?_
      intro e w2 ht
      cases hnm : Px.name m with
      | error p =>
        obtain ⟨z, rfl, ⟨s, rfl⟩, hb⟩ := jN ht hnm
        have hge : (p : Int) ≥ 0 := by omega
        have hbd := HST.out.2 p hnm
        clear ht HST
        go_wp2_with fail
        go_ret2
        exact jL (by rw [HNM.out]; exact hbd) (HB.out.trans (hb.mono HB.out.size)) ⟨_, _, _, rfl⟩
      | ok s =>
        obtain ⟨z, rfl, _, hnew, hb⟩ := rtold_ok ht hnm
        obtain rfl := hnew.now
        have hgd := HST.out.1 s hnm
        have HGD := hid hgd; have HO2 := hid (jJ HO.out hb)
        have EN2 := hid (jC EN.out hb)
        have HB2 := hid (HB.out.trans (hb.mono HB.out.size))
        have hs2 := hb.size
        clear ht HST hnew hnm hgd hb
        go_wp2_with (at_builtin; refine wpList_append_loc _ rfl (.tmp 33) (.tmp 35) 41 rfl (w.heap.size + 1) 9 i0 (.string ⟨#[]⟩) 1 16 Try.underlying41 I0.out I00.out I01.out I02.out rfl (by decide) _ xs.length _ rfl (HO2.out.alloc _) ⟨w2.heap.size, 0, none⟩ 1 1 [.string ⟨s.toArray⟩] rfl (by decide) rfl ?c1 ?c2 ?c3 ?c4 ?c5 ?_)
        case c1 => exact fun j u h => newStr w2 ⟨s.toArray⟩ _ j u h
        case c2 => intro u hu; rw [List.mem_singleton.1 hu]; rfl
        case c3 => unfold maxLen; omega
        case c4 => omega
        case c5 => simp; omega
        intro v' w3 hown hgr hloc
        have hob : ∀ kk, u5.ownBlock = some kk → w.heap.size + 1 ≤ kk := fun kk hkk => (HO2.out.lt kk hkk).1
        have HB3 := hid ((HB2.out.alloc HB2.out.size (.cells #[.string ⟨s.toArray⟩] 9)).grown hgr (by have := HB2.out.size; simp; omega) (fun kk hkk => by have := hob kk hkk; omega))
        have EN3 := hid ((hgr.block w.heap.size (by have := jK EN2.out; simp; omega) (fun e => by have := hob _ e.symm; omega)).trans (jH EN2.out (.cells #[.string ⟨s.toArray⟩] 9)))
        have H2 := hid (show w3.ownsRow (w.heap.size + 1) 9 1 v' (xs ++ [s]).length (strVs (xs ++ [s])) by rw [strVs_snoc, List.length_append, hxl]; exact hown)
        clear hgr hown hloc hob
        go_wp2
        go_roundw
        case rel => exact ⟨j + 1, xs ++ [s], by go_num, by omega, HGD, by simp [hxl], H2, EN3, HB3⟩
        case measure => simp [intOf]; omega
    · have hje : j = n.list.length := by omega
      subst hje
      have he := HE.out
      rw [List.take_length] at he
      have HEE := hid he
      clear he
      go_wp2
      go_ret2
      refine jO (by rw [HNM.out]; exact HEE.out) HB.out (own_slice3 HO.out) ?_
      exact strs_new HO.out (by omega)
end Go.Proofs.Ytgoacbomphlhjaa
