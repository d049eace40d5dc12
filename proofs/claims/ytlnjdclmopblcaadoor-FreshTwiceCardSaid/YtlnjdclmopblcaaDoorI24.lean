import Derived.Test.YtlnjdclmopblcaaDoorI23
import Derived.ProofKit
import Derived.OpenShut
import Derived.ShutString
import Derived.HandedShaped
import Derived.SizedLaws
import Derived.Carry
import Derived.Deep.RegionWith
set_option linter.unusedVariables false
set_option linter.unusedSimpArgs false
set_option maxHeartbeats 40000000
set_option maxRecDepth 100000
namespace Go.Proofs.YtlnjdclmopblcaaDoor
open Go Go.RowKit
open Go.Lib (hid)
theorem L8 {α : Type} {Js : World -> Value -> α -> Prop} {w w' : World} {v : Value} {x : α} (h : New Js w w' v x) (o : Obj) : Js (w'.alloc o) v x := h _ (fun b _ hb => QC w' o b hb)
def CP : List UInt8 := [40, 100, 101, 102, 32, 109, 97, 105, 110, 32, 40, 41, 32, 40, 102, 110, 32, 40, 120, 41, 32, 40, 102, 110, 32, 40, 120, 41, 32, 120, 41, 41, 41]
def KV : Px.Prog := ⟨[], [⟨0, [109, 97, 105, 110], [], .mk 3 13 [] 0 [[120]] [.mk 3 21 [] 0 [[120]] [.mk 1 29 [120] 0 [] [] []] []] []⟩]⟩
theorem WL : Px.program CP = .done KV := by kernel_rfl
theorem Eh : Zv KV = [] := by kernel_rfl
theorem L9 : (Fr.prog 50 KV).defs.map (fun d => (Fr.QF 50 d.body).length) = [2] := by kernel_rfl
theorem Ei : Fr.vM KV := Fr.Bf _ _ WL Eh
theorem pz {w wr : World} {v : Value} {x : List Px.Def} {f : Nat} (h : JO 10 (ZC f w) w v x) (hb : Below w.heap.size w wr) {m : Nat} {d : Px.Def} (hd : x[m]? = some d) : ∃ (g of c : Nat) (k p : Int) (s : ByteArray) (i : Int) (q1 : Option Addr) (n1 c1 : Nat) (q2 : Option Addr) (n2 c2 : Nat) (q3 : Option Addr) (n3 c3 : Nat), v = .slice (some ⟨g, of, none⟩) x.length c /\ x.length <= c /\ (c : Int) <= 9223372036854775807 /\
 wr.cell? ⟨g, of + m * 10 + 3, none⟩ = some (.int .i64 k) /\ wr.cell? ⟨g, of + m * 10 + 4, none⟩ = some (.int .i64 p) /\ wr.cell? ⟨g, of + m * 10 + 5, none⟩ = some (.string s) /\ wr.cell? ⟨g, of + m * 10 + 6, none⟩ = some (.int .i64 i) /\
 wr.cell? ⟨g, of + m * 10 + 7, none⟩ = some (.slice q1 n1 c1) /\ wr.cell? ⟨g, of + m * 10 + 8, none⟩ = some (.slice q2 n2 c2) /\ wr.cell? ⟨g, of + m * 10 + 9, none⟩ = some (.slice q3 n3 c3) /\
 JB f wr (.agg #[.int .i64 k, .int .i64 p, .string s, .int .i64 i, .slice q1 n1 c1, .slice q2 n2 c2, .slice q3 n3 c3]) d.body := by
 rcases h with ⟨h0, _⟩ | ⟨g, of, c, hv, g1, g2, g3⟩
 . rw [h0] at hd; simp at hd
 . obtain ⟨u, hu, _, hcell⟩ := g3 m d hd; obtain ⟨r0, s0, k, p, s, i, q1, n1, c1, q2, n2, c2, q3, n3, c3, rfl, _, hbody⟩ := zm hu; exact ⟨g, of, c, k, p, s, i, q1, n1, c1, q2, n2, c2, q3, n3, c3, hv, g1, g2, jC hb (hcell 3 _ rfl), jC hb (hcell 4 _ rfl), jC hb (hcell 5 _ rfl), jC hb (hcell 6 _ rfl), jC hb (hcell 7 _ rfl), jC hb (hcell 8 _ rfl), jC hb (hcell 9 _ rfl), JY hbody hb⟩
theorem Vu {f : Nat} {w : World} {q1 q2 : Option Addr} {n1 c1 n2 c2 : Nat} {x : Px.Prog} (h : Fr.zt f w (.agg #[.slice q1 n1 c1, .slice q2 n2 c2]) x) : JO 10 (ZC f w) w (.slice q2 n2 c2) x.defs := by
 obtain ⟨dv, fv, e, h1, h2⟩ := h; simp only [Y5, Z0, zh, dE] at e; obtain ⟨rfl, rfl⟩ := e; exact h2
set_option linter.constructorNameAsVariable false in
theorem kE (w : World) (htab : ∀ w', Below w.heap.size w w' -> Fr.mO w') : Calls Tryd.prog 5 #[] w fun e w' => e = .returned (.bool true) /\ Below w.heap.size w w' := by
 have HT := hid htab; clear htab; go_enter Tryd.func5, Tryd.ntmps5; go_wp2_with fail; refine (UC CP _ (by decide)).mono ?_; rintro e w1 ⟨hb, v, p, c, rfl, _, hres⟩; rw [WL] at hres; obtain ⟨rfl, rfl, hnew⟩ := hres; obtain ⟨q1, c1, q2, c2, rfl⟩ := Zk hnew.now; have HN := hid (Fr.EJ CP KV WL (by decide) (Fr.uY (Fr.VX hnew.now))); have HP := hid (Fr.VX (L8 hnew (.cells #[.slice q1 0 c1, .slice q2 1 c2] 26))); have HB := hid (hb.alloc hb.size (.cells #[.slice q1 0 c1, .slice q2 1 c2] 26)); clear hb hnew; go_wp2_with fail; refine (Fr.WB (fun w' hb => HT.out w' (HB.out.trans (hb.mono HB.out.size))) 1000000 (by decide) 50 KV _ HP.out (by decide) (by decide) HN.out.ok HN.out.mul (jS (Nat.le_add_left _ _) (jS HN.out.few (by decide)))).mono ?_; rintro e w2 ⟨v2, rfl, hb2, hnx⟩; have hx := hnx.now; clear hnx; obtain ⟨q3, c3, q4, c4, rfl⟩ := Fr.Zd hx; have hl1 : (Fr.prog 50 KV).jF.length = 0 := rfl; have hl2 : (Fr.prog 50 KV).defs.length = 1 := by kernel_rfl
 rw [hl1, hl2] at hx ⊢; have l9 := hid (Fr.XY HN.out); have HX := hid (Fr.zD hx ((jD _ w2).alloc (jB _) (.cells #[.slice q3 0 c3, .slice q4 1 c4] 26))); have HB2 := hid ((HB.out.trans (hb2.mono HB.out.size)).alloc (HB.out.trans (hb2.mono HB.out.size)).size (.cells #[.slice q3 0 c3, .slice q4 1 c4] 26)); have EX := hid (jb w2 #[.slice q3 0 c3, .slice q4 1 c4] 26); clear hx hb2 HP HB hl1; go_wp2_with fail; obtain ⟨y0, y1⟩ := xQ2 EX; go_wp2_with fail
 have hcl := vN (Fr.prog 50 KV) _ _ HX (Fr.VV KV Ei) (fun d hd => jS (l9.out.body d hd).1 (by decide)) (by rw [hl2]; decide) (fun d hd => by
  have : ∀ d ∈ (Fr.prog 50 KV).defs, d.params.length <= 0 := by decide
  exact jS (this d hd) (by decide))
 refine hcl.mono ?_; clear hcl y0 y1; rintro e w3 ⟨rfl, hb3⟩; have HB3 := bT HB2 hb3; obtain ⟨d, hd⟩ : ∃ d, (Fr.prog 50 KV).defs[0]? = some d := ⟨_, jA (by rw [hl2]; decide)⟩
 have hbl : (Fr.QF 50 d.body).length = 2 := by
  have h1 := congrArg (fun l => l[0]?) L9; simp only [QG, hd, Option.map_some, zT, Jn] at h1; exact h1
 have jGY := jS (l9.out.body d (jI hd)).1 (by decide : 23 * 62500 <= 40000000); obtain ⟨g, of, c, k, p, s, i, r1, n1, d1, r2, n2, d2, r3, n3, d3, hv, g1, g2, x0, x1, x2, x3, x4, x5, x6, hbody⟩ := pz (Vu HX) hb3 hd; rw [hl2] at hv g1
 injection hv with e1 _ e2
 subst e1; subst e2
 have Ro := bE EX hb3; clear hb3 HX HN l9 HB2 EX hd; obtain ⟨y0, y1⟩ := xQ2 Ro; have MR := hid hbody; clear hbody hl2; have hk2 : ((1 : Nat) : Int) <= (c4 : Int) := by omega
 simp only [KX, jZ] at x0 x1 x2 x3 x4 x5 x6; go_wp2_with fail; clear y0 y1 x0 x1 x2 x3 x4 x5 x6 hk2 g1 g2; refine (VY 50 d.body _ w3 MR jGY).mono ?_; rintro e w4 ⟨u, rfl, hb4, Tq⟩; obtain ⟨r, rc, rfl⟩ := Tq.now.len; rw [hbl]; have uT := bT HB3 hb4; clear hb4 Tq; go_wp2_with fail; go_ret; exact ⟨rfl, uT.out⟩
end Go.Proofs.YtlnjdclmopblcaaDoor
namespace Go.Proofs.YtlnjdclmopblcaaDoor
open Go.ChangeShapes Go.WideShapes Go.ChangeAt Go.RowKit
def PD (c : UInt8) : Value := .int .u8 c.toNat
theorem Rx (l : List UInt8) (j : Nat) (h : j < l.length) : (l.map PD)[j]? = some (.int .u8 (Lx.Jj l j).toNat) := by
 rw [QG, jA h]; simp [PD, Lx.Jj, jL, jA h]
theorem own : ownKnob Tryd.prog.godebug = none := by kernel_rfl
theorem laidOut : laidOutB Tryd.prog = true := by kernel_rfl
def SF (k : IntKind) (w : World) (a : Option Addr) (len cap : Nat) (zs : List Int) : Prop :=
 (a = none /\ len = 0 /\ cap = 0 /\ zs = []) \/
 ∃ x, a = some x /\ len <= cap /\ cap <= 140737488351232 /\ zs.length = cap /\ (∀ i, i < zs.length -> w.cell? (x.add i) = some (.int k (zs.getD i 0))) /\ ∀ n ∈ zs, (Lit.int k n).wf = true
def bytesOf (zs : List Int) (len : Nat) : List UInt8 := (zs.take len).map fun z => UInt8.ofNat z.toNat
def KE (w : World) (v : Value) (l : List UInt8) : Prop :=
 (v = .slice none 0 0 /\ l = []) \/ ∃ ad c, v = .slice (some ad) l.length c /\ ∀ j u, (l.map PD)[j]? = some u -> w.cell? (ad.add j) = some u
theorem KE.below {w w' : World} {v : Value} {l : List UInt8} (h : KE w v l) (hb : Below w.heap.size w w') : KE w' v l := by
 rcases h with h | ⟨ad, c, rfl, h⟩
 . exact .inl h
 . refine .inr ⟨ad, c, rfl, fun j u hu => ?_⟩; have := h j u hu; rw [hb.cell (JK w _ this)]; exact this
theorem Ry {w : World} {a : Option Addr} {len cap : Nat} {zs : List Int} (h : SF .u8 w a len cap zs) :
 KE w (.slice a len cap) (bytesOf zs len) /\ (bytesOf zs len).length = len /\ len <= 140737488351232 := by
 rcases h with ⟨rfl, rfl, rfl, rfl⟩ | ⟨x, rfl, h1, h2, h3, h4, h5⟩
 . exact ⟨.inl ⟨rfl, rfl⟩, rfl, by omega⟩
 . have hl : (bytesOf zs len).length = len := by simp [bytesOf]; omega
   have hz : ∀ j, j < len -> zs.getD j 0 = ((Lx.Jj (bytesOf zs len) j).toNat : Int) := by
    intro j hj; have hjz : j < zs.length := by omega
    have hb := bounds_u8 (h5 _ (dG hjz)); unfold Lx.Jj; rw [jL, jL, jA hjz]; simp only [bytesOf, QG, List.getElem?_take, if_pos hj, jA hjz, Option.map_some, Option.getD_some]; rw [UInt8.toNat_ofNat']; omega
   have hsrc : ∀ j, j < len -> w.cell? (x.add j) = some (.int .u8 (Lx.Jj (bytesOf zs len) j).toNat) := by
    intro j hj; rw [h4 j (by omega), hz j hj]
   refine ⟨.inr ⟨x, cap, by rw [hl], fun j u hu => ?_⟩, hl, by omega⟩
   . have hj : j < len := by
      have := (jm.1 hu).1
      simpa [hl] using this
     rw [hsrc j hj, <- hu, Rx _ j (by omega)]
theorem PE {W : World} {v : Value} {l : List UInt8} (h : KE W v l) : (convert 22 9 v).run Tryd.prog W = .ok (.string ⟨l.toArray⟩) W := by
 rcases h with ⟨rfl, rfl⟩ | ⟨ad, c, rfl, h⟩
 . exact run_convert_bytes_nil (P := Tryd.prog) W 22 5 Tryd.underlying22 Tryd.underlying5 0 0 9 Tryd.underlying9
 . refine run_convert_bytes_back (P := Tryd.prog) W 22 9 5 ad c l Tryd.underlying22 Tryd.underlying5 Tryd.underlying9 (fun j hj => ?_); refine h j _ ?_; rw [QG, jA hj]; rfl
theorem Ej {H : Type} {enc : TypeId × Value -> H} {W : World} {a0 : Option Addr} {WM cap0 : Nat} {d0 : DataW H} {p0 : List MemPlace} {ts : List TypeId} {ds : List (DataW H)}
 (h : DataW.Trod enc Tryd.prog W 0 (fun _ => true) true 22 (.slice a0 WM cap0) d0 p0) (WN : (DataW.weightsEach Tryd.prog (22 :: ts) (d0 :: ds)).all (· <= reachBytes) = true) :
 ∃ l : List UInt8, KE W (.slice a0 WM cap0) l /\ l.length = WM /\ WM <= 140737488351232 := by
 obtain ⟨zs, hz⟩ : ∃ zs, SF .u8 W a0 WM cap0 zs := by
  obtain ⟨fuel, hf⟩ := h
  rcases open_ints Tryd.underlying22 Tryd.underlying5 (by kernel_rfl) hf with ⟨hcs, _⟩ | ⟨x, l, c, zs, hcs, _, hl, hm, hz, hx, hcell, hwz⟩
  . simp [Value.cells] at hcs; obtain ⟨rfl, rfl, rfl⟩ := hcs; exact ⟨[], .inl ⟨rfl, rfl, rfl, rfl⟩⟩
  . simp [Value.cells] at hcs; obtain ⟨rfl, rfl, rfl⟩ := hcs; have hzz : zs.length = cap0 := by simpa using hz
    simp only [Jr] at hx; have hd : d0 = _ := hx.1
    have hr : cap0 <= 140737488351232 := by
     have this : ((lits (H := H) .u8 (zs.take WM)).length + (lits (H := H) .u8 (zs.drop WM)).length) * Tryd.prog.bytesOf 5 <= reachBytes := sized_slice WN (j := 0) (t := 22) (e := 5) rfl (by rw [hd]; rfl) Tryd.underlying22; rw [show Tryd.prog.bytesOf 5 = 1 by kernel_rfl] at this; simp only [lits, Jv, Jh, ja, reachBytes] at this; omega
    exact ⟨zs, .inr ⟨_, rfl, hl, hr, hzz, hcell, hwz⟩⟩
 obtain ⟨h1, h3, h4⟩ := Ry hz; exact ⟨_, h1, h3, h4⟩
end Go.Proofs.YtlnjdclmopblcaaDoor
namespace Go.Proofs.YtlnjdclmopblcaaDoor
open Go Go.RowKit
open Go.Lib (hid)
def CQ (l : List UInt8) (w : World) (e : Ending) (w' : World) : Prop := Below w.heap.size w w' /\
 ((∃ v, e = .returned (.tuple #[v, .bool false]) /\ ni v) \/
  ∃ v p, e = .returned (.tuple #[v, .bool true]) /\ ZZ 50 w' v p /\ Px.program l = .done p /\ l.length <= 2500 /\ Zv p = [])
set_option linter.constructorNameAsVariable false in
theorem mD (w : World) (a0 : Option Addr) (n c : Nat) (l : List UInt8) (hs : KE w (.slice a0 n c) l) (hl : l.length = n) (hn : n <= 140737488351232) :
 Calls Tryd.prog 4 #[.slice a0 n c] w (CQ l w) := by
 have HS := hid hs; have HL := hid hl
 clear hs hl; go_enter Tryd.func4, Tryd.ntmps4; have HB1 : Hid (Below w.heap.size w (w.alloc (.cells #[.slice none 0 0, .slice none 0 0] 26))) := hid ((jD _ w).alloc (jB _) _); have Tw := hid (jb w #[.slice none 0 0, .slice none 0 0] 26); by_cases hlong : 2500 < n
 . have hl2 : (2500 : Int) < (n : Int) := by omega
   go_wp2_with fail; obtain ⟨r0, r1⟩ := xQ2 Tw; refine jG (v := .tuple #[.agg #[.slice none 0 0, .slice none 0 0], .bool false]) (by simp [results, Tryd.results4, go_sem, r0, r1]) rfl ?_; exact ⟨HB1.out, .inl ⟨_, rfl, _, _, _, _, _, _, rfl⟩⟩
 have hl2 : ¬ (2500 : Int) < (n : Int) := by omega
 have hcv := PE (HS.out.below HB1.out); go_wp2_with fail; refine (UC l _ (by have := HL.out; omega)).mono ?_; rintro e w2 ⟨hb2, v, pp, kk, rfl, hsh, hres⟩; obtain ⟨q1, n1, c1, q2, n2, c2, rfl⟩ := hsh; have Kn := hid (JA (jM Tw hb2) (.cells #[.slice q1 n1 c1, .slice q2 n2 c2] 26)); have U9 := hid (jb w2 #[.slice q1 n1 c1, .slice q2 n2 c2] 26); have HB2 := hid ((HB1.out.trans (hb2.mono HB1.out.size)).alloc (HB1.out.trans (hb2.mono HB1.out.size)).size (.cells #[.slice q1 n1 c1, .slice q2 n2 c2] 26)); have jGZ := hid hb2.size
 have El : Hid (match Px.program l with | .lex q => pp = (q : Int) /\ kk = 2 | .parse q => pp = (q : Int) /\ kk = 3 | .done x => pp = -1 /\ kk = 0 /\ ∀ u : World, (∀ b, w.heap.size + 1 <= b -> b < w2.heap.size -> u.heap[b]? = w2.heap[b]?) -> ZZ 50 u (.agg #[.slice q1 n1 c1, .slice q2 n2 c2]) x) := hid (by
  have hs1 : (w.alloc (.cells #[.slice none 0 0, .slice none 0 0] 26)).heap.size = w.heap.size + 1 := by simp
  revert hres
  cases Px.program l with
  | lex q => exact id
  | parse q => exact id
  | done x => exact fun h => ⟨h.1, h.2.1, fun u hu => h.2.2 u (fun b h1 h2 => hu b (by rw [<- hs1]; exact h1) h2)⟩)
 clear hres hcv hb2 Tw HB1 HS; go_upto_region 4 with fail
 have hpl : w2.heap.size < (w2.alloc (.cells #[.slice q1 n1 c1, .slice q2 n2 c2] 26)).heap.size := by simp
 have hal : ∀ b, b < w2.heap.size -> (w2.alloc (.cells #[.slice q1 n1 c1, .slice q2 n2 c2] 26)).heap[b]? = w2.heap[b]? := fun b hb => QC w2 _ b hb
 generalize w2.alloc (.cells #[.slice q1 n1 c1, .slice q2 n2 c2] 26) = w3 at Kn U9 HB2 hpl hal ⊢; have Eg := hid hal; have jH0 := hid hpl
 have Rz : ∀ wn : World, Below w3.heap.size w3 wn -> Hid (((wn.setCell ⟨w.heap.size, 0, none⟩ (.slice q1 n1 c1)).setCell ⟨w.heap.size, 1, none⟩ (.slice q2 n2 c2)).heap[w.heap.size]? = some (.cells #[.slice q1 n1 c1, .slice q2 n2 c2] 26 (0, 0)) /\ Below w.heap.size w ((wn.setCell ⟨w.heap.size, 0, none⟩ (.slice q1 n1 c1)).setCell ⟨w.heap.size, 1, none⟩ (.slice q2 n2 c2)) /\
  (∀ b, w.heap.size + 1 <= b -> b < w2.heap.size -> ((wn.setCell ⟨w.heap.size, 0, none⟩ (.slice q1 n1 c1)).setCell ⟨w.heap.size, 1, none⟩ (.slice q2 n2 c2)).heap[b]? = w2.heap[b]?) /\ ((wn.setCell ⟨w.heap.size, 0, none⟩ (.slice q1 n1 c1)).setCell ⟨w.heap.size, 1, none⟩ (.slice q2 n2 c2)).cell? ⟨w2.heap.size, 0, none⟩ = some (.slice q1 n1 c1) /\ ((wn.setCell ⟨w.heap.size, 0, none⟩ (.slice q1 n1 c1)).setCell ⟨w.heap.size, 1, none⟩ (.slice q2 n2 c2)).cell? ⟨w2.heap.size, 1, none⟩ = some (.slice q2 n2 c2)) := fun wn hb => hid (by
  have hne : w2.heap.size ≠ w.heap.size := by have := jGZ.out; simp at this; omega
  have ho : ∀ b, b ≠ w.heap.size -> ((wn.setCell ⟨w.heap.size, 0, none⟩ (.slice q1 n1 c1)).setCell ⟨w.heap.size, 1, none⟩ (.slice q2 n2 c2)).heap[b]? = wn.heap[b]? := fun b hb => Fr.ZL w.heap.size [.slice q1 n1 c1, .slice q2 n2 c2] wn 0 b hb
  have e4 := (ho _ hne).trans (jM U9 hb); refine ⟨?_, (HB2.out.trans (hb.mono HB2.out.size)).trans (Fr.ZM (jB _) [.slice q1 n1 c1, .slice q2 n2 c2] wn 0), fun b h1 h2 => ?_, xK e4 0 rfl, xK e4 1 rfl⟩
  . have := Jf (Jf (jM Kn hb) 0 (.slice q1 n1 c1)) 1 (.slice q2 n2 c2)
    simpa using this
  . exact (ho b (by omega)).trans ((hb.block b (by have := jH0.out; omega)).trans (Eg.out b h2)))
 have vV : Hid (∀ p, Px.program l = .done p -> ∀ wn : World, (∀ b, w.heap.size + 1 <= b -> b < w2.heap.size -> wn.heap[b]? = w2.heap[b]?) -> ZZ 50 wn (.agg #[.slice q1 n1 c1, .slice q2 n2 c2]) p) := hid (fun p hp wn hwn => by
  have := El.out; rw [hp] at this
  exact this.2.2 wn hwn)
 clear hpl hal; cases hout : Px.program l with
 | lex q =>
   obtain ⟨rfl, rfl⟩ : pp = (q : Int) /\ kk = 2 := by have := El.out; rw [hout] at this; exact this
   clear El; have hf := (Rz w3 (jD _ _)).out; refine jU (S := fun w' => w'.cell? ⟨w2.heap.size, 0, none⟩ = some (.slice q1 n1 c1) /\ w'.cell? ⟨w2.heap.size, 1, none⟩ = some (.slice q2 n2 c2)) (by kernel_rfl) (⟨xK U9 0 rfl, xK U9 1 rfl⟩) (fun hHeld => ?_); refine wT 0 (.agg #[.slice q1 n1 c1, .slice q2 n2 c2]) rfl (Or.inl ⟨by rfl, fun w' hSw => by obtain ⟨s0, s1⟩ := hSw; go_simp⟩) hHeld ?_; refine wS 1 (.int .i64 2) rfl hHeld ?_; refine wS 2 (.bool false) rfl hHeld ?_; refine wS 3 (.bool false) rfl hHeld ?_; refine wT 4 (undef) rfl (Or.inr ⟨(by first | (go_simp; done) | (go_simp; simp; done) | (go_simp; intro h; cases h)), rfl⟩) hHeld ?_; simp only [aP]; refine wT 5 (undef) rfl (Or.inr ⟨(by first | (go_simp; done) | (go_simp; simp; done) | (go_simp; intro h; cases h)), rfl⟩) hHeld ?_; simp only [aP]; refine wT 6 (undef) rfl (Or.inr ⟨(by first | (go_simp; done) | (go_simp; simp; done) | (go_simp; intro h; cases h)), rfl⟩) hHeld ?_; simp only [aP]; refine wT 7 (undef) rfl (Or.inr ⟨(by first | (go_simp; done) | (go_simp; simp; done) | (go_simp; intro h; cases h)), rfl⟩) hHeld ?_; simp only [aP]; refine wS 8 (.bool false) rfl hHeld ?_
   try simp only [aP]
   refine wR 9 rfl (fun K hK => ?_); have z0 := xK Kn 0 rfl; have z1 := xK Kn 1 rfl; have t0 := jX Kn 0; have t1 := jX Kn 1
   go_simp; refine hK.out _ _ ⟨hf.2.2.2.1, hf.2.2.2.2⟩ (fun hHeld => ?_); clear z0 z1 t0 t1; clear hK K; refine wS 10 (.bool false) rfl hHeld ?_; simp only [aP]; refine wD ?_; go_wp2_with fail; obtain ⟨r0, r1⟩ := xQ2 hf.1; refine jG (v := .tuple #[.agg #[.slice q1 n1 c1, .slice q2 n2 c2], .bool false]) (by simp [results, Tryd.results4, go_sem, r0, r1]) rfl ?_; exact ⟨hf.2.1.drew, .inl ⟨_, rfl, _, _, _, _, _, _, rfl⟩⟩
 | parse q =>
   obtain ⟨rfl, rfl⟩ : pp = (q : Int) /\ kk = 3 := by have := El.out; rw [hout] at this; exact this
   clear El; have hf := (Rz w3 (jD _ _)).out; refine jU (S := fun w' => w'.cell? ⟨w2.heap.size, 0, none⟩ = some (.slice q1 n1 c1) /\ w'.cell? ⟨w2.heap.size, 1, none⟩ = some (.slice q2 n2 c2)) (by kernel_rfl) (⟨xK U9 0 rfl, xK U9 1 rfl⟩) (fun hHeld => ?_); refine wT 0 (.agg #[.slice q1 n1 c1, .slice q2 n2 c2]) rfl (Or.inl ⟨by rfl, fun w' hSw => by obtain ⟨s0, s1⟩ := hSw; go_simp⟩) hHeld ?_; refine wS 1 (.int .i64 3) rfl hHeld ?_; refine wS 2 (.bool false) rfl hHeld ?_; refine wS 3 (.bool false) rfl hHeld ?_; refine wT 4 (undef) rfl (Or.inr ⟨(by first | (go_simp; done) | (go_simp; simp; done) | (go_simp; intro h; cases h)), rfl⟩) hHeld ?_; simp only [aP]; refine wT 5 (undef) rfl (Or.inr ⟨(by first | (go_simp; done) | (go_simp; simp; done) | (go_simp; intro h; cases h)), rfl⟩) hHeld ?_; simp only [aP]; refine wT 6 (undef) rfl (Or.inr ⟨(by first | (go_simp; done) | (go_simp; simp; done) | (go_simp; intro h; cases h)), rfl⟩) hHeld ?_; simp only [aP]; refine wT 7 (undef) rfl (Or.inr ⟨(by first | (go_simp; done) | (go_simp; simp; done) | (go_simp; intro h; cases h)), rfl⟩) hHeld ?_; simp only [aP]; refine wS 8 (.bool false) rfl hHeld ?_
   try simp only [aP]
   refine wR 9 rfl (fun K hK => ?_); have z0 := xK Kn 0 rfl; have z1 := xK Kn 1 rfl; have t0 := jX Kn 0; have t1 := jX Kn 1
   go_simp; refine hK.out _ _ ⟨hf.2.2.2.1, hf.2.2.2.2⟩ (fun hHeld => ?_); clear z0 z1 t0 t1; clear hK K; refine wS 10 (.bool false) rfl hHeld ?_; simp only [aP]; refine wD ?_; go_wp2_with fail; obtain ⟨r0, r1⟩ := xQ2 hf.1; refine jG (v := .tuple #[.agg #[.slice q1 n1 c1, .slice q2 n2 c2], .bool false]) (by simp [results, Tryd.results4, go_sem, r0, r1]) rfl ?_; exact ⟨hf.2.1.drew, .inl ⟨_, rfl, _, _, _, _, _, _, rfl⟩⟩
 | done p =>
   obtain ⟨rfl, rfl⟩ : pp = -1 /\ kk = 0 := by have := El.out; rw [hout] at this; exact ⟨this.1, this.2.1⟩
   clear El; have HW := hid (Px.eZ l p hout); have HG := hid (Px.UO l p hout); have jB0 := hid (vV.out p hout); have jB1 := hid hout; obtain ⟨W, hW⟩ : ∃ W, W = Zv p := ⟨_, rfl⟩
   cases W with
   | nil =>
     have jD4 := hid hW; clear hW; refine jU (S := fun w' => w'.cell? ⟨w2.heap.size, 0, none⟩ = some (.slice q1 n1 c1) /\ w'.cell? ⟨w2.heap.size, 1, none⟩ = some (.slice q2 n2 c2)) (by kernel_rfl) (⟨xK U9 0 rfl, xK U9 1 rfl⟩) (fun hHeld => ?_); refine wT 0 (.agg #[.slice q1 n1 c1, .slice q2 n2 c2]) rfl (Or.inl ⟨by rfl, fun w' hSw => by obtain ⟨s0, s1⟩ := hSw; go_simp⟩) hHeld ?_; refine wS 1 (.int .i64 0) rfl hHeld ?_; refine wS 2 (.bool true) rfl hHeld ?_; refine wS 3 (.bool true) rfl hHeld ?_; refine wT 4 (.agg #[.slice q1 n1 c1, .slice q2 n2 c2]) rfl (Or.inl ⟨by go_simp, fun w' hSw => by obtain ⟨s0, s1⟩ := hSw; go_simp⟩) hHeld ?_; simp only [aP]
     try simp only [aP]
     refine wR 5 rfl (fun K hK => ?_); go_simp; refine (GV p _ w3.drew (jB0.out w3.drew (fun b h1 h2 => Eg.out b h2)) (jS HW.out (by decide)) HG).mono ?_; rintro e w5 ⟨v5, rfl, hb5, UR⟩; obtain ⟨q5, c5, rfl⟩ := jH UR; rw [show (Zv p).length = 0 by rw [<- jD4.out]; rfl]; have WO : Below w3.heap.size w3 w5 := Y9 hb5; have hf := (Rz w5 WO).out; have og := hid (jM U9 WO); have KU := hid (jM Kn WO); clear hb5 UR WO; refine hK.out _ _ ⟨xK og 0 rfl, xK og 1 rfl⟩ (fun hHeld => ?_); clear hK K; refine wU 6 (.int .i64 (0 : Int)) rfl hHeld ?_; simp only [aP]; refine wU 7 (.bool true) rfl hHeld ?_; simp only [aP]; refine wS 8 (.bool true) rfl hHeld ?_; simp only [aP]; refine wR 9 rfl (fun K hK => ?_); have z0 := xK KU 0 rfl; have z1 := xK KU 1 rfl; have t0 := jX KU 0; have t1 := jX KU 1
     go_simp; refine hK.out _ _ ⟨hf.2.2.2.1, hf.2.2.2.2⟩ (fun hHeld => ?_); clear z0 z1 t0 t1; clear hK K; refine wS 10 (.bool true) rfl hHeld ?_; simp only [aP]; refine wD ?_; go_wp2_with fail; obtain ⟨r0, r1⟩ := xQ2 hf.1; refine jG (v := .tuple #[.agg #[.slice q1 n1 c1, .slice q2 n2 c2], .bool true]) (by simp [results, Tryd.results4, go_sem, r0, r1]) rfl ?_; exact ⟨hf.2.1, .inr ⟨_, p, rfl, jB0.out _ hf.2.2.1, jB1.out, by have := HL.out; omega, jD4.out.symm⟩⟩
   | cons p0 r =>
     obtain ⟨m, hm⟩ : ∃ m, m = (Zv p).length := ⟨_, rfl⟩
     have hm0 : m ≠ 0 := by rw [hm, <- hW]; simp
     have HM := hid hm; clear hm hW; have hk5 : ¬ (m : Int) = 0 := by omega
     have mQ : ((m : Int) == 0) = false := qF.2 hk5; refine jU (S := fun w' => w'.cell? ⟨w2.heap.size, 0, none⟩ = some (.slice q1 n1 c1) /\ w'.cell? ⟨w2.heap.size, 1, none⟩ = some (.slice q2 n2 c2)) (by kernel_rfl) (⟨xK U9 0 rfl, xK U9 1 rfl⟩) (fun hHeld => ?_); refine wT 0 (.agg #[.slice q1 n1 c1, .slice q2 n2 c2]) rfl (Or.inl ⟨by rfl, fun w' hSw => by obtain ⟨s0, s1⟩ := hSw; go_simp⟩) hHeld ?_; refine wS 1 (.int .i64 0) rfl hHeld ?_; refine wS 2 (.bool true) rfl hHeld ?_; refine wS 3 (.bool true) rfl hHeld ?_; refine wT 4 (.agg #[.slice q1 n1 c1, .slice q2 n2 c2]) rfl (Or.inl ⟨by go_simp, fun w' hSw => by obtain ⟨s0, s1⟩ := hSw; go_simp⟩) hHeld ?_; simp only [aP]
     try simp only [aP]
     refine wR 5 rfl (fun K hK => ?_); go_simp; refine (GV p _ w3.drew (jB0.out w3.drew (fun b h1 h2 => Eg.out b h2)) (jS HW.out (by decide)) HG).mono ?_; rintro e w5 ⟨v5, rfl, hb5, UR⟩; obtain ⟨q5, c5, rfl⟩ := jH UR; rw [<- HM.out]; have WO : Below w3.heap.size w3 w5 := Y9 hb5; have hf := (Rz w5 WO).out; have og := hid (jM U9 WO); have KU := hid (jM Kn WO); clear hb5 UR WO; refine hK.out _ _ ⟨xK og 0 rfl, xK og 1 rfl⟩ (fun hHeld => ?_); clear hK K; refine wU 6 (.int .i64 (m : Int)) rfl hHeld ?_; simp only [aP]; refine wU 7 (.bool false) rfl hHeld ?_; simp only [aP]; refine wS 8 (.bool false) rfl hHeld ?_; simp only [aP]; refine wR 9 rfl (fun K hK => ?_); have z0 := xK KU 0 rfl; have z1 := xK KU 1 rfl; have t0 := jX KU 0; have t1 := jX KU 1
     go_simp; refine hK.out _ _ ⟨hf.2.2.2.1, hf.2.2.2.2⟩ (fun hHeld => ?_); clear z0 z1 t0 t1; clear hK K; refine wS 10 (.bool false) rfl hHeld ?_; simp only [aP]; refine wD ?_; go_wp2_with fail; obtain ⟨r0, r1⟩ := xQ2 hf.1; refine jG (v := .tuple #[.agg #[.slice q1 n1 c1, .slice q2 n2 c2], .bool false]) (by simp [results, Tryd.results4, go_sem, r0, r1]) rfl ?_; exact ⟨hf.2.1, .inl ⟨_, rfl, _, _, _, _, _, _, rfl⟩⟩
namespace Fr
def vP (x y : Px.Def) : Prop := (decide (x.name = y.name /\ x.params.length = y.params.length) && QV 50 x.body y.body (List.zip x.params y.params)) = true
theorem PG {α : Type} (g : α -> Nat -> Nat × α) : ∀ (l : List α) (n i : Nat) (x y : α), l[i]? = some x -> (run g l n).2[i]? = some y -> ∃ m, y = (g x m).2
 | [], n, i, x, y, h, _ => by simp at h
 | z :: r, n, 0, x, y, h, h' => by
   rw [run] at h'; simp only [zT, Jn] at h h'; subst h; exact ⟨n, h'.symm⟩
 | z :: r, n, i + 1, x, y, h, h' => by
   rw [run] at h'; simp only [dH] at h h'; exact PG g r _ i x y h h'
theorem PH (d : Px.Def) : vP d d := by
 unfold vP; rw [Uz 50 d.body _ fun q hq => (Yx _ q hq).1]
 simp
theorem mE (p : Px.Prog) (h : vM p) (i : Nat) (d e : Px.Def) (hd : p.defs[i]? = some d) (he : (prog 50 p).defs[i]? = some e) : vP d e := by
 obtain ⟨m, rfl⟩ := PG _ _ _ _ _ _ hd he; have hm := jI hd; unfold vP; rw [LB _ 50 d (h.good d hm) (h.uses d hm) m, Y4]; exact JL ⟨rfl, by show _ = (qO _ _ _ _).2.1.length; rw [zf]⟩
theorem FM (p : Px.Prog) : (prog 50 p).defs.map (fun d => (d.name, d.params.length)) = p.defs.map (fun d => (d.name, d.params.length)) := by
 have key : ∀ (D : List Nm) (l : List Px.Def) (n : Nat), (run (defn D 50) l n).2.map (fun d => (d.name, d.params.length)) = l.map (fun d => (d.name, d.params.length)) := by
  intro D l
  induction l with
  | nil => intro n; rfl
  | cons d r ih =>
    intro n; rw [run, je, je, ih]; have e : (defn D 50 d n).2.params.length = d.params.length := by show (qO _ _ _ _).2.1.length = _; rw [zf]
    rw [e]; rfl
 exact key _ p.defs 0
structure jH1 (a c : Px.Prog) : Prop where
 ca : Vs a = true
 cc : Vs c = true
 dc : ku (c.defs.map (·.name)) (Lg c) = true
 dl : c.jF.length = a.jF.length
 nl : c.defs.map (fun d => (d.name, d.params.length)) = a.defs.map (fun d => (d.name, d.params.length))
 ll : c.defs.length = a.defs.length
 same : ∀ (i : Nat) (d e : Px.Def), a.defs[i]? = some d -> c.defs[i]? = some e -> vP d e
 na : X8 1437500 1000022 a
 nc : X8 33062500 1000044 c
theorem jH2 (p : Px.Prog) (h : vM p) (hn : X8 62500 1000000 p) : jH1 (prog 50 p) (prog 50 (prog 50 p)) := by
 have hr := XR p h; have hn1 := XY hn; refine ⟨VV p h, VV _ hr, ?_, rfl, FM _, ?_, fun i d e hd he => mE _ hr i d e hd he, hn1, XY hn1⟩
 . have := Lh _ hr
   rwa [<- xg 50 (prog 50 p)] at this
 . have := congrArg List.length (FM (prog 50 p))
   simpa using this
end Fr
namespace Fr
def yg (w : World) (bs : List Nat) (v : Value) (x : Px.Prog) : Prop :=
 ∃ lo hi, hi <= w.heap.size /\ (∀ g ∈ bs, g < lo \/ hi <= g) /\ ∀ u : World, (∀ b, lo <= b -> b < hi -> u.heap[b]? = w.heap[b]?) -> zt 50 u v x
theorem yg.now {w : World} {bs : List Nat} {v : Value} {x : Px.Prog} (h : yg w bs v x) : zt 50 w v x := by
 obtain ⟨lo, hi, _, _, h⟩ := h; exact h w fun _ _ _ => rfl
theorem yg.new {w w' : World} {bs : List Nat} {v : Value} {x : Px.Prog} (h : New (zt 50) w w' v x) (hbs : ∀ g ∈ bs, g < w.heap.size) : yg w' bs v x :=
 ⟨w.heap.size, w'.heap.size, jB _, fun g hg => .inl (hbs g hg), h⟩
theorem yg.below {w w' : World} {bs : List Nat} {v : Value} {x : Px.Prog} (h : yg w bs v x) (hb : Below w.heap.size w w') : yg w' bs v x := by
 obtain ⟨lo, hi, h1, h2, h3⟩ := h; exact ⟨lo, hi, jS h1 hb.size, h2, fun u hu => h3 u fun b k1 k2 => (hu b k1 k2).trans (hb.block b (by omega))⟩
theorem yg.more {w : World} {bs bs' : List Nat} {v : Value} {x : Px.Prog} (h : yg w bs v x) (hb : ∀ g ∈ bs', g ∈ bs \/ w.heap.size <= g) : yg w bs' v x := by
 obtain ⟨lo, hi, h1, h2, h3⟩ := h; exact ⟨lo, hi, h1, fun g hg => (hb g hg).elim (h2 g) (fun k => .inr (jS h1 k)), h3⟩
theorem yg.set {w : World} {bs : List Nat} {v : Value} {x : Px.Prog} (h : yg w bs v x) {g k : Nat} (z : Value) (hg : g ∈ bs) : yg (w.setCell ⟨g, k, none⟩ z) bs v x := by
 obtain ⟨lo, hi, h1, h2, h3⟩ := h; refine ⟨lo, hi, by simpa using h1, h2, fun u hu => h3 u fun b k1 k2 => (hu b k1 k2).trans (jP w ⟨g, k, none⟩ z b ?_)⟩; have := h2 g hg; show b ≠ g; omega
def Z2 : Array Value := #[.slice none 0 0, .slice none 0 0]
structure TS (w2 : World) (t3 : Nat) (cs : Array Value) (A : Px.Prog) (oa ob : Option Value) (o5 o6 : Option Nat) (w : World) : Prop where
 below : Below w2.heap.size w2 w
 s3 : w.heap[t3]? = some (.cells cs 26 (0, 0))
 a : ∀ v, oa = some v -> yg w (o5.toList ++ o6.toList) v A
 b : ∀ v, ob = some v -> yg w (o5.toList ++ o6.toList) v A
 e5 : ∀ g, o5 = some g -> t3 < g /\ w2.heap.size <= g /\ w.heap[g]? = some (.cells Z2 26 (0, 0))
 e6 : ∀ g, o6 = some g -> t3 < g /\ w2.heap.size <= g /\ w.heap[g]? = some (.cells Z2 26 (0, 0))
 ne : ∀ g h, o5 = some g -> o6 = some h -> g ≠ h
section
variable {w2 w w' : World} {t3 : Nat} {cs : Array Value} {A : Px.Prog} {oa ob : Option Value} {o5 o6 : Option Nat} {v : Value}
theorem TS.lt (h : TS w2 t3 cs A oa ob o5 o6 w) : ∀ g ∈ o5.toList ++ o6.toList, g < w.heap.size := by
 intro g hg
 rcases jW.1 hg with hg | hg
 . exact ji (h.e5 g (by simpa using hg)).2.2
 . exact ji (h.e6 g (by simpa using hg)).2.2
theorem TS.start (h : w2.heap[t3]? = some (.cells cs 26 (0, 0))) : TS w2 t3 cs A none none none none w2.drew :=
 ⟨(jD _ _).drew, h, (fun _ e => nomatch e), (fun _ e => nomatch e), (fun _ e => nomatch e), (fun _ e => nomatch e), (fun _ _ e => nomatch e)⟩
theorem TS.FN (h : TS w2 t3 cs A none ob o5 o6 w) (hb : Below w.heap.size w w') (hn : New (zt 50) w w' v A) : TS w2 t3 cs A (some v) ob o5 o6 w' :=
 ⟨h.below.trans (hb.mono h.below.size), jM h.s3 hb, fun u e => by injection e with e; subst e; exact yg.new hn h.lt, fun u e => (h.b u e).below hb, fun g e => ⟨(h.e5 g e).1, (h.e5 g e).2.1, jM (h.e5 g e).2.2 hb⟩, fun g e => ⟨(h.e6 g e).1, (h.e6 g e).2.1, jM (h.e6 g e).2.2 hb⟩, h.ne⟩
theorem TS.call2 (h : TS w2 t3 cs A oa none o5 o6 w) (hb : Below w.heap.size w w') (hn : New (zt 50) w w' v A) : TS w2 t3 cs A oa (some v) o5 o6 w' :=
 ⟨h.below.trans (hb.mono h.below.size), jM h.s3 hb, fun u e => (h.a u e).below hb, fun u e => by injection e with e; subst e; exact yg.new hn h.lt, fun g e => ⟨(h.e5 g e).1, (h.e5 g e).2.1, jM (h.e5 g e).2.2 hb⟩, fun g e => ⟨(h.e6 g e).1, (h.e6 g e).2.1, jM (h.e6 g e).2.2 hb⟩, h.ne⟩
theorem TS.kF (h : TS w2 t3 cs A oa ob none o6 w) : TS w2 t3 cs A oa ob (some w.heap.size) o6 (w.alloc (.cells Z2 26)) := by
 have hb : Below w.heap.size w (w.alloc (.cells Z2 26)) := (jD _ _).alloc (jB _) _
 have hk : ∀ g ∈ (some w.heap.size).toList ++ o6.toList, g ∈ (none : Option Nat).toList ++ o6.toList \/ w.heap.size <= g := fun g hg => by
  rcases jW.1 hg with hg | hg
  . simp at hg; subst hg; exact .inr (jB _)
  . exact .inl (jW.2 (.inr hg))
 refine ⟨h.below.trans (hb.mono h.below.size), jM h.s3 hb, fun u e => ((h.a u e).more hk).below hb, fun u e => ((h.b u e).more hk).below hb, fun g e => ?_, fun g e => ⟨(h.e6 g e).1, (h.e6 g e).2.1, jM (h.e6 g e).2.2 hb⟩, fun g g' e e' => ?_⟩
 . injection e with e; subst e
   exact ⟨ji h.s3, h.below.size, jb w _ _⟩
 . injection e with e; subst e
   have := ji (h.e6 g' e').2.2; omega
theorem TS.kG (h : TS w2 t3 cs A oa ob o5 none w) : TS w2 t3 cs A oa ob o5 (some w.heap.size) (w.alloc (.cells Z2 26)) := by
 have hb : Below w.heap.size w (w.alloc (.cells Z2 26)) := (jD _ _).alloc (jB _) _
 have hk : ∀ g ∈ o5.toList ++ (some w.heap.size).toList, g ∈ o5.toList ++ (none : Option Nat).toList \/ w.heap.size <= g := fun g hg => by
  rcases jW.1 hg with hg | hg
  . exact .inl (jW.2 (.inl hg))
  . simp at hg; subst hg; exact .inr (jB _)
 refine ⟨h.below.trans (hb.mono h.below.size), jM h.s3 hb, fun u e => ((h.a u e).more hk).below hb, fun u e => ((h.b u e).more hk).below hb, fun g e => ⟨(h.e5 g e).1, (h.e5 g e).2.1, jM (h.e5 g e).2.2 hb⟩, fun g e => ?_, fun g g' e e' => ?_⟩
 . injection e with e; subst e
   exact ⟨ji h.s3, h.below.size, jb w _ _⟩
 . injection e' with e'; subst e'
   have := ji (h.e5 g e).2.2; omega
end
theorem TS.fin {w2 w : World} {t3 x5 x6 : Nat} {cs : Array Value} {A : Px.Prog} {s1 s2 s3 s4 : Value} (h : TS w2 t3 cs A (some (.agg #[s1, s2])) (some (.agg #[s3, s4])) (some x5) (some x6) w) :
 (((w.setCell ⟨x5, 0, none⟩ s1).setCell ⟨x5, 1, none⟩ s2).heap[t3]? = some (.cells cs 26 (0, 0)) /\ ((w.setCell ⟨x5, 0, none⟩ s1).setCell ⟨x5, 1, none⟩ s2).heap[x6]? = some (.cells Z2 26 (0, 0))) /\
 ∀ wn, wn = ((((w.setCell ⟨x5, 0, none⟩ s1).setCell ⟨x5, 1, none⟩ s2).setCell ⟨x6, 0, none⟩ s3).setCell ⟨x6, 1, none⟩ s4) -> wn.heap[t3]? = some (.cells cs 26 (0, 0)) /\ wn.heap[x5]? = some (.cells #[s1, s2] 26 (0, 0)) /\ wn.heap[x6]? = some (.cells #[s3, s4] 26 (0, 0)) /\ Below w2.heap.size w2 wn /\ zt 50 wn (.agg #[s1, s2]) A /\ zt 50 wn (.agg #[s3, s4]) A := by
 obtain ⟨a1, a2, a3⟩ := h.e5 x5 rfl; obtain ⟨b1, b2, b3⟩ := h.e6 x6 rfl; have hne := h.ne x5 x6 rfl rfl; have o5 : ∀ c, c ≠ x5 -> ((w.setCell ⟨x5, 0, none⟩ s1).setCell ⟨x5, 1, none⟩ s2).heap[c]? = w.heap[c]? := fun c hc => ZL x5 [s1, s2] w 0 c hc
 have o6 : ∀ c, c ≠ x6 -> ((((w.setCell ⟨x5, 0, none⟩ s1).setCell ⟨x5, 1, none⟩ s2).setCell ⟨x6, 0, none⟩ s3).setCell ⟨x6, 1, none⟩ s4).heap[c]? = ((w.setCell ⟨x5, 0, none⟩ s1).setCell ⟨x5, 1, none⟩ s2).heap[c]? := fun c hc => ZL x6 [s3, s4] _ 0 c hc
 have hx6 := (o5 x6 (Ne.symm hne)).trans b3
 have e5 : ((w.setCell ⟨x5, 0, none⟩ s1).setCell ⟨x5, 1, none⟩ s2).heap[x5]? = some (.cells #[s1, s2] 26 (0, 0)) := by
  have := Jf (Jf a3 0 s1) 1 s2
  simpa [Z2] using this
 have e6 : ((((w.setCell ⟨x5, 0, none⟩ s1).setCell ⟨x5, 1, none⟩ s2).setCell ⟨x6, 0, none⟩ s3).setCell ⟨x6, 1, none⟩ s4).heap[x6]? = some (.cells #[s3, s4] 26 (0, 0)) := by
  have := Jf (Jf hx6 0 s3) 1 s4
  simpa [Z2] using this
 refine ⟨⟨(o5 t3 (by omega)).trans h.s3, hx6⟩, fun wn hwn => ?_⟩; subst hwn; refine ⟨(o6 t3 (by omega)).trans ((o5 t3 (by omega)).trans h.s3), (o6 x5 hne).trans e5, e6, ?_, ?_, ?_⟩
 . exact (h.below.trans (ZM a2 [s1, s2] w 0)).trans (ZM b2 [s3, s4] _ 0)
 . exact ((((((h.a _ rfl).set s1 (by simp)).set s2 (by simp)).set s3 (by simp)).set s4 (by simp))).now
 . exact ((((((h.b _ rfl).set s1 (by simp)).set s2 (by simp)).set s3 (by simp)).set s4 (by simp))).now
structure FS (w2 : World) (x5 x6 x7 : Nat) (ca cb cc : Array Value) (A C : Px.Prog) (w : World) : Prop where
 below : Below w2.heap.size w2 w
 e5 : w.heap[x5]? = some (.cells ca 26 (0, 0))
 e6 : w.heap[x6]? = some (.cells cb 26 (0, 0))
 e7 : w.heap[x7]? = some (.cells cc 26 (0, 0))
 pa : zt 50 w (.agg ca) A
 pb : zt 50 w (.agg cb) A
 pc : zt 50 w (.agg cc) C
theorem FS.step {w2 w w' : World} {x5 x6 x7 : Nat} {ca cb cc : Array Value} {A C : Px.Prog} (h : FS w2 x5 x6 x7 ca cb cc A C w) (hb : Below w.heap.size w w') : FS w2 x5 x6 x7 ca cb cc A C w' :=
 ⟨h.below.trans (hb.mono h.below.size), jM h.e5 hb, jM h.e6 hb, jM h.e7 hb, zD h.pa hb, zD h.pb hb, zD h.pc hb⟩
theorem WQ {w : World} {v : Value} {x : List Px.Def} {f : Nat} (h : JO 10 (ZC f w) w v x) {m : Nat} {d : Px.Def} (hd : x[m]? = some d) : ∃ (g of c : Nat) (q0 : Option Addr) (c0 : Nat) (k p : Int) (s : ByteArray) (i : Int) (q1 : Option Addr) (n1 c1 : Nat) (q2 : Option Addr) (n2 c2 : Nat) (q3 : Option Addr) (n3 c3 : Nat), v = .slice (some ⟨g, of, none⟩) x.length c /\ x.length <= c /\ (c : Int) <= 9223372036854775807 /\
 (∀ (j : Nat) (z : Value), (#[Value.int .i64 d.pos, .string ⟨d.name.toArray⟩, .slice q0 d.params.length c0, .int .i64 k, .int .i64 p, .string s, .int .i64 i, .slice q1 n1 c1, .slice q2 n2 c2, .slice q3 n3 c3] : Array Value)[j]? = some z -> w.cell? ⟨g, of + m * 10 + j, none⟩ = some z) /\
 ZC f w (.agg #[.int .i64 d.pos, .string ⟨d.name.toArray⟩, .slice q0 d.params.length c0, .int .i64 k, .int .i64 p, .string s, .int .i64 i, .slice q1 n1 c1, .slice q2 n2 c2, .slice q3 n3 c3]) d /\ Yk w (.slice q0 d.params.length c0) d.params := by
 rcases h with ⟨h0, _⟩ | ⟨g, of, c, hv, g1, g2, g3⟩
 . rw [h0] at hd; simp at hd
 . obtain ⟨u, hu, _, hcell⟩ := g3 m d hd; obtain ⟨r0, s0, k, p, s, i, q1, n1, c1, q2, n2, c2, q3, n3, c3, rfl, hr, _⟩ := zm hu; exact ⟨g, of, c, r0, s0, k, p, s, i, q1, n1, c1, q2, n2, c2, q3, n3, c3, hv, g1, g2, hcell, hu, hr⟩
end Fr
def Zi (seen : List Nm) (L : List (Nm × Value)) : Prop := ∀ s, (s ∉ seen /\ yY s L = none) \/ (s ∈ seen /\ yY s L = some (.bool true))
theorem Zi.nil : Zi [] [] := fun s => .inl ⟨by simp, rfl⟩
theorem Zi.more {seen : List Nm} {L : List (Nm × Value)} (h : Zi seen L) (s : Nm) : Zi (seen ++ [s]) (VN s (.bool true) L) := by
 intro x; rw [Vn]; by_cases e : x = s
 . rw [if_pos e]; exact .inr ⟨by rw [e]; simp, rfl⟩
 . rw [if_neg e]
   rcases h x with ⟨a, b⟩ | ⟨a, b⟩
   . exact .inl ⟨by simp [a, e], b⟩
   . exact .inr ⟨by simp [a], b⟩
theorem PI (w : World) : (zeroValue 4).run Tryd.prog w = .ok (.bool false) w := Tryd.zeroValue4 w
theorem mF {seen : List Nm} {L : List (Nm × Value)} {w : World} {mb : Nat} (h : Zi seen L) (hm : Z6 w mb L) (s : Nm) : (Instr.lookup 62 (.map (some mb)) (.string ⟨s.toArray⟩) false).run Tryd.prog w = .ok (.bool (Qi seen s)) w := by
 have := (hm.look (vK Tryd.underlying9) Tryd.underlying62 (PI w) s trivial).1
 rcases h s with ⟨a, b⟩ | ⟨a, b⟩
 . have e : Qi seen s = false := by unfold Qi; simpa using a
   rw [b] at this; rw [e]; exact this
 . have e : Qi seen s = true := by unfold Qi; simpa using a
   rw [b] at this; rw [e]; exact this
theorem dB {seen : List Nm} {L : List (Nm × Value)} {w : World} {mb : Nat} (h : Zi seen L) (hm : Z6 w mb L) (s : Nm) : ∃ w', (Instr.mapUpdate 62 (.map (some mb)) (.string ⟨s.toArray⟩) (.bool true)).run Tryd.prog w = .ok () w' /\ (∃ L', Z6 w' mb L' /\ Zi (seen ++ [s]) L') /\ w.grownBy w' (some mb) := by
 obtain ⟨w', hr, hm', hg⟩ := hm.update (vK Tryd.underlying9) Tryd.underlying62 s trivial (.bool true) (fun _ _ _ _ _ => trivial); exact ⟨w', hr, ⟨_, hm', h.more s⟩, hg⟩
theorem FO : ∀ (l seen : List Nm), Fr.ku seen l = true -> ∀ (k : Nat) (s : Nm), l[k]? = some s -> Qi (seen ++ l.take k) s = false
 | [], seen, _, k, s, h => by simp at h
 | a :: r, seen, hd, k, s, h => by
   rw [Fr.ku, Ji, Bool.not_eq_true'] at hd; cases k with
   | zero =>
     simp only [zT, Jn] at h; subst h; rw [List.take_zero, Jl]; exact hd.1
   | succ k =>
     rw [dH] at h; have := FO r (seen ++ [a]) hd.2 k s h; rw [jg] at this; rw [Zo]; exact this
theorem WR (x : Px.Prog) (v : Value) (w : World) (hx : Fr.zt 50 w v x) (hc : Fr.ku (x.defs.map (·.name)) (Fr.Lg x) = true) (hw : (x.defs.map fun d => nw d.params + Sx.ew 50 d.body).sum <= 40000000) (hl : x.defs.length <= 100000) :
 Calls Tryd.prog 8 #[v] w fun e w' => e = .returned (.bool true) /\ Below w.heap.size w w' := by
 obtain ⟨dv, fv, rfl, hr1, hr2⟩ := hx; obtain ⟨q1, c1, rfl⟩ := hr1.len; obtain ⟨q2, c2, rfl⟩ := hr2.len; have HR2 := hid hr2; have HC := hid hc; have HW := hid hw; have HL := hid hl
 clear hr1 hr2 hc hw hl; have EX := hid (jb w #[.slice q1 x.jF.length c1, .slice q2 x.defs.length c2] 26); have HB := hid ((jD w.heap.size w).alloc (jB _) (.cells #[.slice q1 x.jF.length c1, .slice q2 x.defs.length c2] 26)); have hsz : w.heap.size + 1 <= (w.alloc (.cells #[.slice q1 x.jF.length c1, .slice q2 x.defs.length c2] 26)).heap.size := by simp
 go_enter Tryd.func8, Tryd.ntmps8; go_wp2_with fail; generalize w.alloc (.cells #[.slice q1 x.jF.length c1, .slice q2 x.defs.length c2] 26) = w1 at EX HB hsz ⊢
 go_loopw [3, 14] (fun o j wr => ∃ (m : Nat) (l : List Nm), j = .int .i64 m /\ m <= x.defs.length /\ Hid (l = (x.defs.take m).flatMap fun d => d.params ++ Fr.QF 50 d.body) /\ Hid (QW wr (w.heap.size + 1) o l) /\ Hid (wr.heap[w.heap.size]? = some (.cells #[.slice q1 x.jF.length c1, .slice q2 x.defs.length c2] 26 (0, 0))) /\ Hid (Below w.heap.size w wr)) (fun _ j _ => x.defs.length - (intOf j).toNat)
 case atStart => exact ⟨0, [], rfl, jh _, hid (by simp), hid (jo _ _ _ _), EX, HB⟩
 case round =>
  clear EX HB hsz; obtain ⟨m, l, rfl, hm, Yd, HO, EX, HB⟩ := hrel; have hs1 := ji EX; obtain ⟨va, uI, rfl⟩ := jH HO; by_cases hlt : m < x.defs.length
  . obtain ⟨d, hd⟩ : ∃ d, x.defs[m]? = some d := ⟨_, jA hlt⟩
    rcases HR2.out with ⟨h0, _⟩ | ⟨g, of, c', hv, g1, g2, g3⟩
    . rw [h0] at hlt; simp at hlt
    injection hv with hq1 _ hq2
    subst hq1; subst hq2
    obtain ⟨u, hu, _, hcell⟩ := g3 m d hd; obtain ⟨r0, s0, r1, r2, r3, r4, r5, s5, t5, r6, s6, t6, r7, s7, t7, rfl, Ea, Eb⟩ := zm hu; have d0 := jC HB (hcell 0 _ rfl); have d1 := jC HB (hcell 1 _ rfl); have d2 := jC HB (hcell 2 _ rfl); have d3 := jC HB (hcell 3 _ rfl); have d4 := jC HB (hcell 4 _ rfl); have d5 := jC HB (hcell 5 _ rfl); have d6 := jC HB (hcell 6 _ rfl); have d7 := jC HB (hcell 7 _ rfl); have d8 := jC HB (hcell 8 _ rfl); have d9 := jC HB (hcell 9 _ rfl)
    simp only [jZ] at d0; have hk1 : (m : Int) < (x.defs.length : Int) := by omega
    have hk2 : (x.defs.length : Int) <= (c2 : Int) := by omega
    have hk3 := g2; have Ec := hid Ea; have Rq := hid Eb
    have hst : ((x.defs.take m).map fun d => nw d.params + Sx.ew 50 d.body).sum + (nw d.params + Sx.ew 50 d.body) <= (x.defs.map fun d => nw d.params + Sx.ew 50 d.body).sum := Sx.QD (fun d : Px.Def => nw d.params + Sx.ew 50 d.body) x.defs m d hd
    have hlen : l.length + (d.params.length + (Fr.QF 50 d.body).length) <= 100000000 := by
     rw [Yd.out, Zp]
     have h2 := Fr.ym (fun d : Px.Def => (d.params ++ Fr.QF 50 d.body).length) (fun d => nw d.params + Sx.ew 50 d.body) (x.defs.take m) fun d _ => by
      have h3 := qC d.params; have h5 := ZX 50 d.body; rw [jE]; omega
     have h3 := qC d.params; have h5 := ZX 50 d.body; have := HW.out; omega
    have Yn := hid hlen; have jH3 := hid (show Sx.ew 50 d.body <= 40000000 by have := HW.out; omega); have HT : Hid ((l ++ d.params) ++ Fr.QF 50 d.body = (x.defs.take (m + 1)).flatMap fun d => d.params ++ Fr.QF 50 d.body) := hid (by rw [Yd.out, JC, hd]; simp); clear g1 g2 g3 hcell hu hd Ea Eb hst hlen; obtain ⟨w2, hw2⟩ : ∃ w2, w2 = wr.alloc (.cells #[.int .i64 d.pos, .string ⟨d.name.toArray⟩, .slice r0 d.params.length s0, .int .i64 r1, .int .i64 r2, .string r3, .int .i64 r4, .slice r5 s5 t5, .slice r6 s6 t6, .slice r7 s7 t7] 40) := ⟨_, rfl⟩
    have hb2 : Below wr.heap.size wr w2 := by rw [hw2]; exact (jD _ _).alloc (jB _) _
    have hs2 : w2.heap.size = wr.heap.size + 1 := by rw [hw2, Jt]
    have hvb : w2.heap[wr.heap.size]? = some (.cells #[.int .i64 d.pos, .string ⟨d.name.toArray⟩, .slice r0 d.params.length s0, .int .i64 r1, .int .i64 r2, .string r3, .int .i64 r4, .slice r5 s5 t5, .slice r6 s6 t6, .slice r7 s7 t7] 40 (0, 0)) := by rw [hw2]; exact jb wr _ _
    have oJ := hid hvb; have HB2 := hid ((HB.out.trans (hb2.mono HB.out.size)).drew); have zV : Hid (QW w2.drew (w.heap.size + 1) (.slice va l.length uI) l) := hid (jc HO hb2.drew); have Kn := bE EX hb2; go_wp2_with fail; rw [<- hw2]; clear d0 d1 d2 d3 d4 d5 d6 d7 d8 d9 hb2 hvb hw2; refine jU (S := fun (u : World) => u.heap[wr.heap.size]? = some (.cells #[.int .i64 d.pos, .string ⟨d.name.toArray⟩, .slice r0 d.params.length s0, .int .i64 r1, .int .i64 r2, .string r3, .int .i64 r4, .slice r5 s5 t5, .slice r6 s6 t6, .slice r7 s7 t7] 40 (0, 0))) (by kernel_rfl) oJ.out (fun hHeld => ?_); refine wS 0 (.slice va l.length uI) rfl hHeld ?_; refine wS 1 (.pointer (some ⟨wr.heap.size, 2, none⟩)) rfl hHeld ?_; refine wT 2 (.slice r0 d.params.length s0) rfl (Or.inl ⟨by rfl, fun w' hSw => by have hx := xK hSw 2 rfl; go_simp⟩) hHeld ?_; refine wS 4 (.pointer (some ⟨wr.heap.size, 3, none⟩)) rfl hHeld ?_; refine wT 5 (.agg #[.int .i64 r1, .int .i64 r2, .string r3, .int .i64 r4, .slice r5 s5 t5, .slice r6 s6 t6, .slice r7 s7 t7]) rfl (Or.inl ⟨by rfl, fun w' hSw => by have z3 := xK hSw 3 rfl; have z4 := xK hSw 4 rfl; have z5 := xK hSw 5 rfl; have z6 := xK hSw 6 rfl; have z7 := xK hSw 7 rfl; have z8 := xK hSw 8 rfl; have z9 := xK hSw 9 rfl; go_simp⟩) hHeld ?_; simp only [Act.put, jd, JE, JF]; refine wR 3 rfl (fun K hK => ?_); refine qc rfl (.tmp 18) (.tmp 20) rfl (w.heap.size + 1) _ _ rfl zV _ rfl d.params (JM Ec HB2) (by have := Yn.out; omega) (by show w.heap.size + 1 <= w2.heap.size; omega) ?_; intro v3 w3 Xt; have hown3 := Xt.1; have eX : w3.heap[wr.heap.size]? = some (.cells #[.int .i64 d.pos, .string ⟨d.name.toArray⟩, .slice r0 d.params.length s0, .int .i64 r1, .int .i64 r2, .string r3, .int .i64 r4, .slice r5 s5 t5, .slice r6 s6 t6, .slice r7 s7 t7] 40 (0, 0)) := (Xt.2.1.block wr.heap.size (by show wr.heap.size < w2.heap.size; omega) (fun e => by have := (HO.out.lt _ e.symm).2; omega)).trans oJ.out
    have SG : ∀ g, v3.ownBlock = some g -> g ≠ wr.heap.size := fun g hg e => by
     rcases Xt.2.2 with h | h
     . rw [h] at hg; have := (HO.out.lt g hg).2; omega
     . have h1 : w2.heap.size <= g := h g hg; omega
    obtain ⟨hb3, _⟩ := ZV Xt zV HB2 (by show w.heap.size <= w2.heap.size; omega) (by omega); have Ro := hid (Xt.at zV.out Kn.out (by omega)); have HB3 := hid hb3; have yQ := hid hown3; have jD5 := hid eX; have si := hid SG
    have Ls := Xt.2.1.size; have jD6 : wr.heap.size + 1 <= w3.heap.size := by have h1 : w2.heap.size <= w3.heap.size := Ls; omega
    clear Xt hown3 eX SG hb3 Ls; refine hK.out _ _ jD5.out (fun hHeld => ?_); clear hK K; refine wR 6 rfl (fun K hK => ?_); go_simp; refine (VY 50 d.body _ w3 (JY Rq HB3) jH3).mono ?_; rintro e w4 ⟨v4, rfl, hb4, hnew⟩; have Ty := hid hnew.now; have jD7 := bE jD5 hb4; have mR := hid (jc yQ hb4); have uT := bT HB3 hb4; have jH4 := bE Ro hb4; have hs4 := hb4.size; clear hnew hb4; refine hK.out _ _ jD7.out (fun hHeld => ?_); clear hK K; refine wR 7 rfl (fun K hK => ?_); refine qc rfl (.tmp 21) (.tmp 24) rfl (w.heap.size + 1) _ _ rfl mR _ rfl _ Ty (by have := Yn.out; rw [jE]; omega) (by omega) ?_; intro v5 w5 oh; obtain ⟨p5, e5, rfl⟩ := jH oh.1; have jD8 : w5.heap[wr.heap.size]? = some (.cells #[.int .i64 d.pos, .string ⟨d.name.toArray⟩, .slice r0 d.params.length s0, .int .i64 r1, .int .i64 r2, .string r3, .int .i64 r4, .slice r5 s5 t5, .slice r6 s6 t6, .slice r7 s7 t7] 40 (0, 0)) := (oh.2.1.block wr.heap.size (by omega) (fun e => si.out _ e.symm rfl)).trans jD7.out; have HV5 := hid jD8; obtain ⟨hb5, UR⟩ := ZV oh mR uT (by omega) (by omega); have Ay := hid (oh.at mR.out jH4.out (by omega)); have zy := hid hb5; have yM := hid UR
    obtain ⟨l5, hl5⟩ : ∃ l5, l5 = (l ++ d.params) ++ Fr.QF 50 d.body := ⟨_, rfl⟩
    rw [<- hl5] at yM HT ⊢; clear hl5 oh hb5 UR jD8; refine hK.out _ _ HV5.out (fun hHeld => ?_); clear hK K; refine wR 8 rfl (fun K hK => ?_); go_simp; refine hK.out _ _ HV5.out (fun hHeld => ?_); clear hK K hHeld; refine wD ?_; go_wp2_with fail
    go_roundw
    case rel => exact ⟨m + 1, l5, by go_num, by omega, HT, yM, Ay, zy⟩
    case measure => simp [intOf]; omega
  . obtain rfl : m = x.defs.length := by omega
    have hk4 : ¬ (x.defs.length : Int) < (x.defs.length : Int) := by omega
    have eP : Hid (l = Fr.Lg x) := hid (by have := Yd.out; rw [jY] at this; exact this); have e1 := xK EX 1 rfl; have hmm := @run_makeMap Tryd.prog; go_wp2_with fail; clear hk4 Yd e1 hmm; obtain ⟨wA, Bp⟩ : ∃ wA, wA = wr.alloc (.map #[] 0) := ⟨_, rfl⟩
    have jB2 : Below wr.heap.size wr wA := by rw [Bp]; exact (jD _ _).alloc (jB _) _
    have jB3 : Z6 wA wr.heap.size [] := by rw [Bp]; exact V3.made wr
    rw [<- Bp]; have hol := HO.out.lt; obtain ⟨mb, hmb⟩ : ∃ mb, mb = wr.heap.size := ⟨_, rfl⟩
    rw [<- hmb] at jB3 ⊢; have jD9 := hid (show ∀ g, (Value.slice va l.length uI).ownBlock = some g -> some g ≠ some mb from fun g hg e => by injection e with e; have := (hol g hg).2; omega); have jDA := hid (show w.heap.size + 1 <= mb by omega); have HM : Hid (∃ L, Z6 wA mb L /\ Zi ((x.defs.take 0).map (·.name)) L) := hid ⟨[], jB3, Zi.nil⟩; have jDB := hid (jc HO jB2); have QO := bT HB jB2; clear Bp jB2 jB3 hol hmb HO EX HB hs1
    go_loopw [31] (fun j wr => ∃ m : Nat, j = .int .i64 m /\ m <= x.defs.length /\ Hid (∃ L, Z6 wr mb L /\ Zi ((x.defs.take m).map (·.name)) L) /\ Hid (QW wr (w.heap.size + 1) (.slice va l.length uI) l) /\ Hid (Below w.heap.size w wr)) (fun j _ => x.defs.length - (intOf j).toNat)
    case atStart => exact ⟨0, rfl, jh _, HM, jDB, QO⟩
    case round =>
     clear HM jDB QO; obtain ⟨m, rfl, hm, HM, HO, HB⟩ := hrel; by_cases hlt : m < x.defs.length
     . obtain ⟨d, hd⟩ : ∃ d, x.defs[m]? = some d := ⟨_, jA hlt⟩
       rcases HR2.out with ⟨h0, _⟩ | ⟨g, of, c', hv, g1, g2, g3⟩
       . rw [h0] at hlt; simp at hlt
       injection hv with hq1 _ hq2
       subst hq1; subst hq2
       obtain ⟨u, hu, _, hcell⟩ := g3 m d hd; obtain ⟨r0, s0, r1, r2, r3, r4, r5, s5, t5, r6, s6, t6, r7, s7, t7, rfl, Ea, Eb⟩ := zm hu; have d0 := jC HB (hcell 0 _ rfl); have d1 := jC HB (hcell 1 _ rfl); have d2 := jC HB (hcell 2 _ rfl); have d3 := jC HB (hcell 3 _ rfl); have d4 := jC HB (hcell 4 _ rfl); have d5 := jC HB (hcell 5 _ rfl); have d6 := jC HB (hcell 6 _ rfl); have d7 := jC HB (hcell 7 _ rfl); have d8 := jC HB (hcell 8 _ rfl); have d9 := jC HB (hcell 9 _ rfl)
       simp only [jZ] at d0; have hk1 : (m : Int) < (x.defs.length : Int) := by omega
       have hk2 : (x.defs.length : Int) <= (c2 : Int) := by omega
       have hk3 := g2; have htk : (x.defs.take (m + 1)).map (·.name) = (x.defs.take m).map (·.name) ++ [d.name] := by rw [JC, hd]; simp
       obtain ⟨L, hL1, hL2⟩ := HM.out; have hb2 : Below wr.heap.size wr (wr.alloc (.cells #[.int .i64 d.pos, .string ⟨d.name.toArray⟩, .slice r0 d.params.length s0, .int .i64 r1, .int .i64 r2, .string r3, .int .i64 r4, .slice r5 s5 t5, .slice r6 s6 t6, .slice r7 s7 t7] 40)) := (jD _ _).alloc (jB _) _; have hL3 : Z6 (wr.alloc (.cells #[.int .i64 d.pos, .string ⟨d.name.toArray⟩, .slice r0 d.params.length s0, .int .i64 r1, .int .i64 r2, .string r3, .int .i64 r4, .slice r5 s5 t5, .slice r6 s6 t6, .slice r7 s7 t7] 40)) mb L := hL1.keep (hb2.block mb hL1.lt) (fun _ _ => trivial); obtain ⟨w3, hup, dY, hg3⟩ := dB hL2 hL3 d.name; have Ls := hg3.size; have Tk : w.heap.size <= wr.heap.size := HB.out.size; have CK : Hid (∃ L, Z6 w3 mb L /\ Zi ((x.defs.take (m + 1)).map (·.name)) L) := hid (by rw [htk]; exact dY)
       have yQ : Hid (QW w3 (w.heap.size + 1) (.slice va l.length uI) l) := hid ((jc HO hb2).kept hg3 (by
        cases hv : (Value.slice va l.length uI).ownBlock with
        | none => exact .inl rfl
        | some g => exact .inr (jD9.out g hv)))
       have HB3 : Hid (Below w.heap.size w w3) := hid ((HB.out.trans (hb2.mono Tk)).grown hg3 (by have := hb2.size; omega) (fun k hk => by injection hk with hk; have := jDA.out; omega)); clear g1 g2 g3 hcell hu hd Ea Eb htk hL1 hL2 hL3 hb2 dY hg3 Ls Tk HM HO; go_wp2_with fail; clear d0 d1 d2 d3 d4 d5 d6 d7 d8 d9 hup
       go_roundw
       case rel => exact ⟨m + 1, by go_num, by omega, CK, yQ, HB3⟩
       case measure => simp [intOf]; omega
     . obtain rfl : m = x.defs.length := by omega
       have hk4 : ¬ (x.defs.length : Int) < (x.defs.length : Int) := by omega
       have SE : Hid (∃ L, Z6 wr mb L /\ Zi (x.defs.map (·.name) ++ l.take 0) L) := hid (by have := HM.out; rw [jY] at this; simpa using this); have jH5 := hid (FO l (x.defs.map (·.name)) (by rw [eP.out]; exact HC.out)); go_wp2_with fail; clear hk4 HM
       go_loopw [41] (fun j wr => ∃ k : Nat, j = .int .i64 k /\ k <= l.length /\ Hid (∃ L, Z6 wr mb L /\ Zi (x.defs.map (·.name) ++ l.take k) L) /\ Hid (QW wr (w.heap.size + 1) (.slice va l.length uI) l) /\ Hid (Below w.heap.size w wr)) (fun j _ => l.length - (intOf j).toNat)
       case atStart => exact ⟨0, rfl, jh _, SE, HO, HB⟩
       case round =>
        clear SE HO HB; obtain ⟨k, rfl, hk, HM, HO, HB⟩ := hrel; by_cases hlt2 : k < l.length
        . obtain ⟨sx, hsx⟩ : ∃ sx, l[k]? = some sx := ⟨_, jA hlt2⟩
          have hns := jH5.out k sx hsx
          rcases Qc HO.out with ⟨h0, _⟩ | ⟨g, of, c', hv, g1, g2, g3⟩
          . rw [h0] at hlt2; simp at hlt2
          injection hv with hq1 _ hq2
          subst hq1; subst hq2
          obtain ⟨u, hu, _, hcell⟩ := g3 k sx hsx; have hu' : u = .string ⟨sx.toArray⟩ := hu; subst hu'; have h0 := hcell 0 _ rfl; simp only [qX, jZ] at h0; have hk1 : (k : Int) < (l.length : Int) := by omega
          have hk2 : (l.length : Int) <= (uI : Int) := by omega
          have hk3 := g2; obtain ⟨L, hL1, hL2⟩ := HM.out; have hlk := mF hL2 hL1 sx; rw [hns] at hlk; obtain ⟨w3, hup, dY, hg3⟩ := dB hL2 hL1 sx; have htk : x.defs.map (·.name) ++ l.take (k + 1) = (x.defs.map (·.name) ++ l.take k) ++ [sx] := by rw [JC, hsx, jg]; rfl
          have CK : Hid (∃ L, Z6 w3 mb L /\ Zi (x.defs.map (·.name) ++ l.take (k + 1)) L) := hid (by rw [htk]; exact dY); have yQ : Hid (QW w3 (w.heap.size + 1) (.slice (some ⟨g, of, none⟩) l.length uI) l) := hid (HO.out.kept hg3 (.inr (jD9.out g rfl))); have HB3 : Hid (Below w.heap.size w w3) := hid (HB.out.grown hg3 HB.out.size (fun k hk => by injection hk with hk; have := jDA.out; omega)); clear g1 g2 g3 hcell hu hsx hns hL1 hL2 dY hg3 htk HM HO; go_wp2_with fail; clear h0 hlk hup
          go_roundw
          case rel => exact ⟨k + 1, by go_num, by omega, CK, yQ, HB3⟩
          case measure => simp [intOf]; omega
        . obtain rfl : k = l.length := by omega
          have hk4 : ¬ (l.length : Int) < (l.length : Int) := by omega
          go_wp2_with fail; go_ret; exact ⟨rfl, HB.out⟩
end Go.Proofs.YtlnjdclmopblcaaDoor
