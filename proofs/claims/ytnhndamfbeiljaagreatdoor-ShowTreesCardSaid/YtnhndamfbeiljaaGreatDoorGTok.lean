/-
  Several texts in one: Shelf, Token, Tokens, ShelfI.
-/
import Derived.Shelf.LaysM
import Derived.Shelf.Strconv.Itoa4
import Derived.Shelf.LaysC
import Derived.Shelf.Strconv.ParseIntPublic10
import Derived.Test.YtnhndamfbeiljaaGreatDoorProg
import Derived.Test.YtnhndamfbeiljaaGreatDoorKRead
import Derived.Test.YtnhndamfbeiljaaGreatDoorGPure
namespace Go.Proofs
open Go.Shelf
set_option linter.unusedVariables false
set_option linter.unusedSimpArgs false
def Tryz.laysM173_ren : Go.Shelf.Ren := ⟨fun | 173 => 73 | 246 => 109 | 283 => 138 | 284 => 139 | 285 => 140 | 286 => 141 | 129 => 151 | 317 => 150 | 318 => 152 | 319 => 153 | 320 => 154 | 337 => 162 | 338 => 163 | n => n, fun | 2 => 2 | 3 => 3 | 9 => 9 | 4 => 4 | 171 => 194 | 0 => 0 | 53 => 195 | 37 => 22 | 5 => 5 | 173 => 198 | 212 => 204 | 51 => 205 | 20 => 20 | 213 => 206 | 46 => 208 | 232 => 226 | 233 => 227 | n => n, fun | 17 => 0 | 18 => 3 | 19 => 4 | n => n⟩
theorem Tryz.laysM173 : Go.Proofs.LaysM.n173 Tryz.prog Tryz.laysM173_ren := {
  mixed := by kernel_rfl
  f129 := Tryz.func151.trans (congrArg some (by kernel_rfl))
  f173 := Tryz.func73.trans (congrArg some (by kernel_rfl))
  f246 := Tryz.func109.trans (congrArg some (by kernel_rfl))
  f283 := Tryz.func138.trans (congrArg some (by kernel_rfl))
  f284 := Tryz.func139.trans (congrArg some (by kernel_rfl))
  f285 := Tryz.func140.trans (congrArg some (by kernel_rfl))
  f286 := Tryz.func141.trans (congrArg some (by kernel_rfl))
  f317 := Tryz.func150.trans (congrArg some (by kernel_rfl))
  f318 := Tryz.func152.trans (congrArg some (by kernel_rfl))
  f319 := Tryz.func153.trans (congrArg some (by kernel_rfl))
  f320 := Tryz.func154.trans (congrArg some (by kernel_rfl))
  f337 := Tryz.func162.trans (congrArg some (by kernel_rfl))
  f338 := Tryz.func163.trans (congrArg some (by kernel_rfl))
  t0 := Tryz.underlying0
  a0 := Tryz.isAgg0
  z0 := Tryz.sizeOf0
  v0 := Tryz.zeroValue0
  t2 := Tryz.underlying2
  a2 := Tryz.isAgg2
  z2 := Tryz.sizeOf2
  v2 := Tryz.zeroValue2
  t3 := Tryz.underlying3
  a3 := Tryz.isAgg3
  z3 := Tryz.sizeOf3
  v3 := Tryz.zeroValue3
  t4 := Tryz.underlying4
  a4 := Tryz.isAgg4
  z4 := Tryz.sizeOf4
  v4 := Tryz.zeroValue4
  t5 := Tryz.underlying5
  a5 := Tryz.isAgg5
  z5 := Tryz.sizeOf5
  v5 := Tryz.zeroValue5
  t9 := Tryz.underlying9
  a9 := Tryz.isAgg9
  z9 := Tryz.sizeOf9
  v9 := Tryz.zeroValue9
  t20 := Tryz.underlying20
  a20 := Tryz.isAgg20
  z20 := Tryz.sizeOf20
  v20 := Tryz.zeroValue20
  t37 := Tryz.underlying22
  a37 := Tryz.isAgg22
  z37 := Tryz.sizeOf22
  v37 := Tryz.zeroValue22
  t46 := Tryz.underlying208
  a46 := Tryz.isAgg208
  z46 := Tryz.sizeOf208
  v46 := Tryz.zeroValue208
  t51 := Tryz.underlying205
  a51 := Tryz.isAgg205
  z51 := Tryz.sizeOf205
  v51 := Tryz.zeroValue205
  t53 := Tryz.underlying195
  a53 := Tryz.isAgg195
  z53 := Tryz.sizeOf195
  v53 := Tryz.zeroValue195
  t171 := Tryz.underlying194
  a171 := Tryz.isAgg194
  z171 := Tryz.sizeOf194
  v171 := Tryz.zeroValue194
  t173 := Tryz.underlying198
  a173 := Tryz.isAgg198
  z173 := Tryz.sizeOf198
  v173 := Tryz.zeroValue198
  t212 := Tryz.underlying204
  a212 := Tryz.isAgg204
  z212 := Tryz.sizeOf204
  v212 := Tryz.zeroValue204
  t213 := Tryz.underlying206
  a213 := Tryz.isAgg206
  z213 := Tryz.sizeOf206
  t232 := Tryz.underlying226
  a232 := Tryz.isAgg226
  z232 := Tryz.sizeOf226
  v232 := Tryz.zeroValue226
  t233 := Tryz.underlying227
  a233 := Tryz.isAgg227
  z233 := Tryz.sizeOf227
  v233 := Tryz.zeroValue227
  g17 := by kernel_rfl
  g18 := by kernel_rfl
  g19 := by kernel_rfl
  i0 := by kernel_rfl
  i2 := by kernel_rfl
  i3 := by kernel_rfl
  i4 := by kernel_rfl
  i5 := by kernel_rfl
  i9 := by kernel_rfl
  i20 := by kernel_rfl
  i37 := by kernel_rfl
  i46 := by kernel_rfl
  i51 := by kernel_rfl
  i53 := by kernel_rfl
  i171 := by kernel_rfl
  i173 := by kernel_rfl
  i212 := by kernel_rfl
  i232 := by kernel_rfl
  i233 := by kernel_rfl
  m17 := by kernel_rfl
  m18 := by kernel_rfl
  m19 := by kernel_rfl }
open Go.RowKit Go.Sort Go.Lib in
theorem Tryz.strconv_FormatInt_10 (n : Int) (h0 : -9223372036854775808 ≤ n) (h1 : n ≤ 9223372036854775807) (w : World) (htab : Lib.TabIs Tryz.prog w "internal/strconv.uint64pow10" .u64 Lib.pow10Tab) :
    Calls Tryz.prog 73 #[.int .i64 n, .int .i64 10] w fun e w' => e = .returned (.string ⟨(Lib.itoa n).toArray⟩) ∧ ∃ k os, w' = grow (w.drewN k) os := Any.strconv_FormatInt_10 Tryz.laysM173 n h0 h1 w htab
def Tryz.laysC174_ren : Go.Shelf.Ren := ⟨fun | 174 => 123 | 247 => 147 | 245 => 148 | 287 => 157 | 279 => 158 | 280 => 159 | 281 => 160 | 282 => 161 | 321 => 165 | 322 => 166 | 316 => 167 | 171 => 169 | 205 => 168 | 243 => 171 | 246 => 109 | 283 => 138 | 284 => 139 | 285 => 140 | 286 => 141 | 129 => 151 | 317 => 150 | 318 => 152 | 319 => 153 | 320 => 154 | 337 => 162 | 338 => 163 | n => n, fun | 9 => 9 | 3 => 3 | 2 => 2 | 75 => 115 | 85 => 182 | 4 => 4 | 167 => 212 | 5 => 5 | 53 => 195 | 175 => 213 | 46 => 208 | 168 => 215 | 37 => 22 | 0 => 0 | 210 => 224 | 21 => 21 | 127 => 165 | 145 => 231 | 143 => 229 | 171 => 194 | 173 => 198 | 212 => 204 | 51 => 205 | 20 => 20 | 213 => 206 | 232 => 226 | 233 => 227 | 80 => 108 | n => n, fun | 15 => 1 | 16 => 2 | 17 => 0 | 18 => 3 | 19 => 4 | n => n⟩
theorem Tryz.laysC174 : Go.Proofs.LaysC.n174 Tryz.prog Tryz.laysC174_ren := {
  mixed := by kernel_rfl
  f129 := Tryz.func151.trans (congrArg some (by kernel_rfl))
  f171 := Tryz.func169.trans (congrArg some (by kernel_rfl))
  f174 := Tryz.func123.trans (congrArg some (by kernel_rfl))
  f205 := Tryz.func168.trans (congrArg some (by kernel_rfl))
  f243 := Tryz.func171.trans (congrArg some (by kernel_rfl))
  f245 := Tryz.func148.trans (congrArg some (by kernel_rfl))
  f246 := Tryz.func109.trans (congrArg some (by kernel_rfl))
  f247 := Tryz.func147.trans (congrArg some (by kernel_rfl))
  f279 := Tryz.func158.trans (congrArg some (by kernel_rfl))
  f280 := Tryz.func159.trans (congrArg some (by kernel_rfl))
  f281 := Tryz.func160.trans (congrArg some (by kernel_rfl))
  f282 := Tryz.func161.trans (congrArg some (by kernel_rfl))
  f283 := Tryz.func138.trans (congrArg some (by kernel_rfl))
  f284 := Tryz.func139.trans (congrArg some (by kernel_rfl))
  f285 := Tryz.func140.trans (congrArg some (by kernel_rfl))
  f286 := Tryz.func141.trans (congrArg some (by kernel_rfl))
  f287 := Tryz.func157.trans (congrArg some (by kernel_rfl))
  f316 := Tryz.func167.trans (congrArg some (by kernel_rfl))
  f317 := Tryz.func150.trans (congrArg some (by kernel_rfl))
  f318 := Tryz.func152.trans (congrArg some (by kernel_rfl))
  f319 := Tryz.func153.trans (congrArg some (by kernel_rfl))
  f320 := Tryz.func154.trans (congrArg some (by kernel_rfl))
  f321 := Tryz.func165.trans (congrArg some (by kernel_rfl))
  f322 := Tryz.func166.trans (congrArg some (by kernel_rfl))
  f337 := Tryz.func162.trans (congrArg some (by kernel_rfl))
  f338 := Tryz.func163.trans (congrArg some (by kernel_rfl))
  t0 := Tryz.underlying0
  a0 := Tryz.isAgg0
  z0 := Tryz.sizeOf0
  v0 := Tryz.zeroValue0
  t2 := Tryz.underlying2
  a2 := Tryz.isAgg2
  z2 := Tryz.sizeOf2
  v2 := Tryz.zeroValue2
  t3 := Tryz.underlying3
  a3 := Tryz.isAgg3
  z3 := Tryz.sizeOf3
  v3 := Tryz.zeroValue3
  t4 := Tryz.underlying4
  a4 := Tryz.isAgg4
  z4 := Tryz.sizeOf4
  v4 := Tryz.zeroValue4
  t5 := Tryz.underlying5
  a5 := Tryz.isAgg5
  z5 := Tryz.sizeOf5
  v5 := Tryz.zeroValue5
  t9 := Tryz.underlying9
  a9 := Tryz.isAgg9
  z9 := Tryz.sizeOf9
  v9 := Tryz.zeroValue9
  t20 := Tryz.underlying20
  a20 := Tryz.isAgg20
  z20 := Tryz.sizeOf20
  v20 := Tryz.zeroValue20
  t21 := Tryz.underlying21
  a21 := Tryz.isAgg21
  z21 := Tryz.sizeOf21
  v21 := Tryz.zeroValue21
  t37 := Tryz.underlying22
  a37 := Tryz.isAgg22
  z37 := Tryz.sizeOf22
  v37 := Tryz.zeroValue22
  t46 := Tryz.underlying208
  a46 := Tryz.isAgg208
  z46 := Tryz.sizeOf208
  v46 := Tryz.zeroValue208
  t51 := Tryz.underlying205
  a51 := Tryz.isAgg205
  z51 := Tryz.sizeOf205
  v51 := Tryz.zeroValue205
  t53 := Tryz.underlying195
  a53 := Tryz.isAgg195
  z53 := Tryz.sizeOf195
  v53 := Tryz.zeroValue195
  t75 := Tryz.underlying115
  a75 := Tryz.isAgg115
  z75 := Tryz.sizeOf115
  v75 := Tryz.zeroValue115
  t85 := Tryz.underlying182
  a85 := Tryz.isAgg182
  z85 := Tryz.sizeOf182
  v85 := Tryz.zeroValue182
  t127 := Tryz.underlying165
  a127 := Tryz.isAgg165
  z127 := Tryz.sizeOf165
  v127 := Tryz.zeroValue165
  t143 := Tryz.underlying229
  a143 := Tryz.isAgg229
  z143 := Tryz.sizeOf229
  v143 := Tryz.zeroValue229
  t145 := Tryz.underlying231
  a145 := Tryz.isAgg231
  z145 := Tryz.sizeOf231
  v145 := Tryz.zeroValue231
  t167 := Tryz.underlying212
  a167 := Tryz.isAgg212
  z167 := Tryz.sizeOf212
  v167 := Tryz.zeroValue212
  t168 := Tryz.underlying215
  a168 := Tryz.isAgg215
  z168 := Tryz.sizeOf215
  v168 := Tryz.zeroValue215
  t171 := Tryz.underlying194
  a171 := Tryz.isAgg194
  z171 := Tryz.sizeOf194
  v171 := Tryz.zeroValue194
  t173 := Tryz.underlying198
  a173 := Tryz.isAgg198
  z173 := Tryz.sizeOf198
  v173 := Tryz.zeroValue198
  t175 := Tryz.underlying213
  a175 := Tryz.isAgg213
  z175 := Tryz.sizeOf213
  v175 := Tryz.zeroValue213
  t210 := Tryz.underlying224
  a210 := Tryz.isAgg224
  z210 := Tryz.sizeOf224
  v210 := Tryz.zeroValue224
  t212 := Tryz.underlying204
  a212 := Tryz.isAgg204
  z212 := Tryz.sizeOf204
  v212 := Tryz.zeroValue204
  t213 := Tryz.underlying206
  a213 := Tryz.isAgg206
  z213 := Tryz.sizeOf206
  t232 := Tryz.underlying226
  a232 := Tryz.isAgg226
  z232 := Tryz.sizeOf226
  v232 := Tryz.zeroValue226
  t233 := Tryz.underlying227
  a233 := Tryz.isAgg227
  z233 := Tryz.sizeOf227
  v233 := Tryz.zeroValue227
  g15 := by kernel_rfl
  g16 := by kernel_rfl
  g17 := by kernel_rfl
  g18 := by kernel_rfl
  g19 := by kernel_rfl
  t80 := Tryz.underlying108
  a80 := Tryz.isAgg108
  z80 := Tryz.sizeOf108
  v80 := Tryz.zeroValue108
  i0 := by kernel_rfl
  i2 := by kernel_rfl
  i3 := by kernel_rfl
  i4 := by kernel_rfl
  i5 := by kernel_rfl
  i9 := by kernel_rfl
  i20 := by kernel_rfl
  i21 := by kernel_rfl
  i37 := by kernel_rfl
  i46 := by kernel_rfl
  i51 := by kernel_rfl
  i53 := by kernel_rfl
  i75 := by kernel_rfl
  i80 := by kernel_rfl
  i85 := by kernel_rfl
  i127 := by kernel_rfl
  i143 := by kernel_rfl
  i145 := by kernel_rfl
  i167 := by kernel_rfl
  i168 := by kernel_rfl
  i171 := by kernel_rfl
  i173 := by kernel_rfl
  i175 := by kernel_rfl
  i210 := by kernel_rfl
  i212 := by kernel_rfl
  i232 := by kernel_rfl
  i233 := by kernel_rfl
  m15 := by kernel_rfl
  m16 := by kernel_rfl
  m17 := by kernel_rfl
  m18 := by kernel_rfl
  m19 := by kernel_rfl
  c0 := by kernel_rfl
  c2 := by kernel_rfl
  c3 := by kernel_rfl
  c4 := by kernel_rfl
  c5 := by kernel_rfl
  c9 := by kernel_rfl
  c20 := by kernel_rfl
  c21 := by kernel_rfl
  c37 := by kernel_rfl
  c46 := by kernel_rfl
  c51 := by kernel_rfl
  c53 := by kernel_rfl
  c75 := by kernel_rfl
  c80 := by kernel_rfl
  c85 := by kernel_rfl
  c127 := by kernel_rfl
  c143 := by kernel_rfl
  c145 := by kernel_rfl
  c167 := by kernel_rfl
  c168 := by kernel_rfl
  c171 := by kernel_rfl
  c173 := by kernel_rfl
  c175 := by kernel_rfl
  c210 := by kernel_rfl
  c212 := by kernel_rfl
  c213 := by kernel_rfl
  c232 := by kernel_rfl
  c233 := by kernel_rfl }
open Go.RowKit in
theorem Tryz.strconv_ParseInt_10_at64_ok (s : ByteArray) (hmax : s.size ≤ 9223372036854775806) (v : Int) (h : Lib.parseIntB 64 s.data.toList = .ok v) (w : World) :
    Calls Tryz.prog 123 #[.string s, .int .i64 10, .int .i64 64] w fun e w' => e = .returned (.tuple #[.int .i64 v, .nilIface]) ∧ (w' = w ∨ ∃ t, w' = Lib.bytesWorld w 5 t) := Any.strconv_ParseInt_10_at64_ok Tryz.laysC174 s hmax v h w
end Go.Proofs

namespace Go.Proofs.YtnhndamfbeiljaaGreatDoor
open Go Go.RowKit

theorem bcell {W w1 : World} (hb : Below W.heap.size W w1) : (∀ b o, b < W.heap.size → w1.cell? ⟨b, o, none⟩ = W.cell? ⟨b, o, none⟩) ∧ (∀ b o, b < W.heap.size → w1.frozen? ⟨b, o, none⟩ = W.frozen? ⟨b, o, none⟩) :=
  ⟨fun b o h => hb.cell (p := ⟨b, o, none⟩) h, fun b o h => hb.frozen (p := ⟨b, o, none⟩) h⟩

theorem parseInt_ok (s : ByteArray) (v : Int) (w : World) (hmax : s.size ≤ 9223372036854775806) (h : Lib.parseIntB 64 s.data.toList = .ok v) :
    Calls Tryz.prog 123 #[.string s, .int .i64 10, .int .i64 64] w fun e w' => e = .returned (.tuple #[.int .i64 v, .nilIface]) ∧ Below w.heap.size w w' := by
  refine (Tryz.strconv_ParseInt_10_at64_ok s hmax v h w).mono ?_
  rintro e w' ⟨rfl, rfl | ⟨t, rfl⟩⟩
  · exact ⟨rfl, Below.refl _ _⟩
  · exact ⟨rfl, Lib.bytesWorld_below _ _ _⟩

set_option maxHeartbeats 400000 in
theorem makeToken_plain (k p : Int) (s : ByteArray) (w : World) (hk : k ≠ 2) :
    Calls Tryz.prog 84 #[.int .i64 k, .int .i64 p, .string s] w fun e w' => e = .returned (.agg #[.int .i64 k, .int .i64 p, .string s, .int .i64 0]) ∧ Below w.heap.size w w' := by
  have h1 : (k == 2) = false := by simpa using hk
  clear hk
  go_enter Tryz.func84, Tryz.ntmps84
  go_wp2
  exact bodyPost_ret (v := .agg #[.int .i64 k, .int .i64 p, .string s, .int .i64 0]) (by simp [results, Tryz.results84, go_sem]) rfl ⟨rfl, ((Below.refl _ _).alloc (Nat.le_refl _) _).alloc (by simp) _⟩
set_option maxHeartbeats 400000 in
theorem makeToken_int (p v : Int) (s : ByteArray) (w : World) (hmax : s.size ≤ 9223372036854775806) (h : Lib.parseIntB 64 s.data.toList = .ok v) :
    Calls Tryz.prog 84 #[.int .i64 2, .int .i64 p, .string s] w fun e w' => e = .returned (.agg #[.int .i64 2, .int .i64 p, .string s, .int .i64 v]) ∧ Below w.heap.size w w' := by
  have H := Lib.hid h; clear h
  go_enter Tryz.func84, Tryz.ntmps84
  go_wp2_with fail
  refine (parseInt_ok s v _ hmax H.out).mono ?_
  rintro e w1 ⟨rfl, hb⟩
  obtain ⟨hc, hf⟩ := bcell hb
  go_wp2_with fail
  have hs := hb.size
  simp at hs
  have c0 : w1.cell? ⟨w.heap.size, 0, none⟩ = some (.int .i64 0) := by rw [hc _ _ (by simp; omega)]; go_simp
  have c1 : w1.cell? ⟨w.heap.size, 1, none⟩ = some (.int .i64 0) := by rw [hc _ _ (by simp; omega)]; go_simp
  have c2 : w1.cell? ⟨w.heap.size, 2, none⟩ = some (.string ⟨#[]⟩) := by rw [hc _ _ (by simp; omega)]; go_simp
  have c3 : w1.cell? ⟨w.heap.size, 3, none⟩ = some (.int .i64 0) := by rw [hc _ _ (by simp; omega)]; go_simp
  have b1 : Below w.heap.size w w1 := (((Below.refl _ _).alloc (Nat.le_refl _) _).alloc (by simp) _).trans (hb.mono (by simp; omega))
  exact bodyPost_ret (v := .agg #[.int .i64 2, .int .i64 p, .string s, .int .i64 v]) (by simp [results, Tryz.results84, go_sem, c0, c1, c2, c3]) rfl ⟨rfl, ((((b1.setCell (by simp) _).setCell (by simp) _).setCell (by simp) _).setCell (by simp) _).setCell (by simp) _⟩
end Go.Proofs.YtnhndamfbeiljaaGreatDoor

namespace Go.Proofs.YtnhndamfbeiljaaGreatDoor
open Go Go.RowKit

def tokCells (t : Lx.Tok) : List Value := [.int .i64 t.kind, .int .i64 t.pos, .string ⟨t.text.toArray⟩, .int .i64 t.int]
def toksCells (ts : List Lx.Tok) : List Value := ts.flatMap tokCells

/-- What stands in the world: the slice's bytes. -/
def BytesAt (w : World) (b off : Nat) (l : List UInt8) : Prop := ∀ j, j < l.length → w.cell? ⟨b, off + j, none⟩ = some (.int .u8 (Lx.at0 l j).toNat)
theorem BytesAt.below {w w' : World} {b off : Nat} {l : List UInt8} (h : BytesAt w b off l) (hb : Below w.heap.size w w') : BytesAt w' b off l := fun j hj => by
  have := h j hj
  rw [hb.cell (World.block_lt_of_cell? w _ this)]; exact this

def TkR (l : List UInt8) (done : List Lx.Tok) (E : Nat) : Prop :=
  ∃ f, l.length < E + f ∧ Lx.toks (l.length + 1) 0 l = (done ++ (Lx.toks f E (l.drop E)).1, (Lx.toks f E (l.drop E)).2)

theorem tkR_start (l : List UInt8) : TkR l [] 0 := ⟨l.length + 1, by omega, by simp⟩

theorem toks_succ (f p : Nat) (l : List UInt8) : Lx.toks (f + 1) p l =
    if l.length ≤ Lx.skipC false l then ([], none) else
      if (Lx.tokAt (l.drop (Lx.skipC false l))).2 = 0 then ([], some (p + Lx.skipC false l)) else
        (Lx.mkTok (p + Lx.skipC false l) (Lx.tokAt (l.drop (Lx.skipC false l))).1 ((l.drop (Lx.skipC false l)).take (Lx.tokAt (l.drop (Lx.skipC false l))).2) ::
          (Lx.toks f (p + Lx.skipC false l + (Lx.tokAt (l.drop (Lx.skipC false l))).2) ((l.drop (Lx.skipC false l)).drop (Lx.tokAt (l.drop (Lx.skipC false l))).2)).1,
         (Lx.toks f (p + Lx.skipC false l + (Lx.tokAt (l.drop (Lx.skipC false l))).2) ((l.drop (Lx.skipC false l)).drop (Lx.tokAt (l.drop (Lx.skipC false l))).2)).2) := rfl

theorem tk_step {l : List UInt8} {done : List Lx.Tok} {E A : Nat} (h : TkR l done E) (hE : E ≤ l.length) (hA : E + Lx.skipC false (l.drop E) = A) :
    A ≤ l.length ∧ E ≤ A ∧ (A = l.length → Lx.toks (l.length + 1) 0 l = (done, none)) ∧
    (A < l.length → (Lx.tokAt (l.drop A)).2 = 0 → (Lx.toks (l.length + 1) 0 l).2 = some A) ∧
    (A < l.length → (Lx.tokAt (l.drop A)).2 ≠ 0 → TkR l (done ++ [Lx.mkTok A (Lx.tokAt (l.drop A)).1 ((l.drop A).take (Lx.tokAt (l.drop A)).2)]) (A + (Lx.tokAt (l.drop A)).2)) := by
  obtain ⟨f, hf, ht⟩ := h
  have hle := Lx.skipC_le false (l.drop E)
  rw [List.length_drop] at hle
  obtain ⟨f, rfl⟩ : ∃ g, f = g + 1 := ⟨f - 1, by omega⟩
  rw [toks_succ f E (l.drop E), List.length_drop, List.drop_drop, hA] at ht
  refine ⟨by omega, by omega, ?_, ?_, ?_⟩
  · intro he
    rw [if_pos (by omega)] at ht
    rw [ht]; simp
  · intro h1 h2
    rw [if_neg (by omega), if_pos h2] at ht
    rw [ht]
  · intro h1 h2
    rw [if_neg (by omega), if_neg h2, List.drop_drop] at ht
    exact ⟨f, by omega, by rw [ht]; simp⟩

def TkJ (l : List UInt8) (b off cap : Nat) (w0 : World) (lab : Nat) (a : Act) (w : World) : Prop :=
  lab = 0 ∧ ∃ (E : Nat) (v : Value) (done : List Lx.Tok) (u1 u2 u3 u4 u6 u7 u9 u10 u11 u12 u13 u14 u15 u16 u17 u18 u19 u20 u21 u22 u23 u24 u25 u26 u27 u28 u29 u30 u31 u32 u33 u34 u35 u36 u37 u38 u39 u40 : Value), a = { tmps := #[.slice (some ⟨b, off, none⟩) l.length cap, u1, u2, u3, u4, v, u6, u7, .int .i64 E, u9, u10, u11, u12, u13, u14, u15, u16, u17, u18, u19, u20, u21, u22, u23, u24, u25, u26, u27, u28, u29, u30, u31, u32, u33, u34, u35, u36, u37, u38, u39, u40], defers := [] } ∧
    Below w0.heap.size w0 w ∧ w.ownsRow w0.heap.size 102 4 v done.length (toksCells done) ∧ E ≤ l.length ∧ l.length ≤ 4096 ∧ done.length ≤ E ∧ TkR l done E

/-- What Tokens answers: the list, the place, the error. -/
def TkPost (l : List UInt8) (w : World) (e : Ending) (w' : World) : Prop :=
  ∃ (v : Value) (ts : List Lx.Tok) (p : Int) (c : Int), e = .returned (.tuple #[v, .int .i64 p, .int .i64 c]) ∧ Below w.heap.size w w' ∧ w'.ownsRow w.heap.size 102 4 v ts.length (toksCells ts) ∧
    ((4096 < l.length ∧ ts = [] ∧ p = 4096 ∧ c = 2) ∨ (l.length ≤ 4096 ∧ (∃ q, (Lx.toks (l.length + 1) 0 l).2 = some q ∧ ts = [] ∧ p = q ∧ c = 2)) ∨ (l.length ≤ 4096 ∧ (Lx.toks (l.length + 1) 0 l) = (ts, none) ∧ p = -1 ∧ c = 0))

theorem makeToken_any (k : Int) (p : Nat) (t : List UInt8) (w : World) (hm : t.length ≤ 9223372036854775806) (h : k = 2 → Lib.parseIntB 64 t = .ok (Lx.numV t)) :
    Calls Tryz.prog 84 #[.int .i64 k, .int .i64 p, .string ⟨t.toArray⟩] w fun e w' => e = .returned (.agg #[.int .i64 k, .int .i64 p, .string ⟨t.toArray⟩, .int .i64 (Lx.mkTok p k t).int]) ∧ Below w.heap.size w w' := by
  by_cases hk : k = 2
  · subst hk
    exact makeToken_int p (Lx.numV t) ⟨t.toArray⟩ w (by simpa [ByteArray.size] using hm) (h rfl)
  · have e : (Lx.mkTok p k t).int = 0 := by show (if k = 2 then Lx.numV t else 0) = 0; rw [if_neg hk]
    rw [e]
    exact makeToken_plain k p _ w hk

theorem grown_below {B : Nat} {w w' : World} (h : Below B w w') (hB : w.heap.size ≤ B) (row : Option Nat) : w.grownBy w' row := ⟨h.os, h.tape, h.output, h.size, fun k hk _ => h.block k (by omega)⟩

theorem info102 : (Tryz.prog.info? 102).map (fun i => (i.zero, i.size, i.bytes)) = some (some (.agg #[.int .i64 0, .int .i64 0, .string ⟨#[]⟩, .int .i64 0]), 4, 40) := by kernel_rfl

theorem own_kept {w w' : World} {base : Nat} {e : TypeId} {size : Nat} {v : Value} {n : Nat} {xs : List Value} (h : w.ownsRow base e size v n xs) (hb : Below w.heap.size w w') : w'.ownsRow base e size v n xs := by
  refine h.kept (grown_below hb (Nat.le_refl _) (some w.heap.size)) ?_
  cases hv : v.ownBlock with
  | none => exact .inl rfl
  | some k => exact .inr (by have := (h.lt k hv).2; simp; omega)

theorem four_at (w : World) (x0 x1 x2 x3 : Value) (T : TypeId) (j : Nat) (u : Value) (h : [x0, x1, x2, x3][j]? = some u) :
    (w.alloc (.cells #[x0, x1, x2, x3] T)).cell? ((⟨w.heap.size, 0, none⟩ : Addr).add j) = some u := by
  have e : (⟨w.heap.size, 0, none⟩ : Addr).add j = ⟨w.heap.size, j, none⟩ := by unfold Addr.add; split <;> simp_all
  rw [e, World.cell?_alloc_mark]
  simpa using h
theorem four_one (k p i : Int) (t : ByteArray) : ∀ u ∈ [Value.int .i64 k, .int .i64 p, .string t, .int .i64 i], u.oneCell' = true := by
  intro u hu
  simp only [List.mem_cons, List.not_mem_nil, or_false] at hu
  rcases hu with rfl | rfl | rfl | rfl <;> rfl
theorem toksCells_snoc (done : List Lx.Tok) (A : Nat) (k : Int) (t : List UInt8) (iv : Int) (h : (Lx.mkTok A k t).int = iv) :
    toksCells done ++ [.int .i64 k, .int .i64 A, .string ⟨t.toArray⟩, .int .i64 iv] = toksCells (done ++ [Lx.mkTok A k t]) := by
  subst h; simp [toksCells, tokCells, Lx.mkTok]

set_option maxHeartbeats 1000000 in
set_option maxRecDepth 100000 in
theorem tokens_some (l : List UInt8) (b off cap : Nat) (w : World) (hm : l.length ≤ cap) (_hcap : (cap : Int) ≤ 9223372036854775807) (hc : BytesAt w b off l) :
    Calls Tryz.prog 42 #[.slice (some ⟨b, off, none⟩) l.length cap] w (TkPost l w) := by
  go_enter Tryz.func42, Tryz.ntmps42
  go_wp2
  refine wp_scope_lead 0 rfl (TkJ l b off cap w) (fun _ a _ => l.length - (intOf (a.tmps.getD 8 undef)).toNat) ?_ ?_ ?_
  · rintro a w1 ⟨_, E, v, done, u1, u2, u3, u4, u6, u7, u9, u10, u11, u12, u13, u14, u15, u16, u17, u18, u19, u20, u21, u22, u23, u24, u25, u26, u27, u28, u29, u30, u31, u32, u33, u34, u35, u36, u37, u38, u39, u40, rfl, hB, hown, hE, hshort, hd, hR⟩
    have Hc := Lib.hid (hc.below hB)
    go_wp2_with fail
    refine (skip_some l E b off cap _ hE (by omega) Hc.out).mono ?_; rintro e w2 ⟨rfl, rfl⟩
    generalize hA : E + Lx.skipC false (l.drop E) = A
    obtain ⟨hAl, hEA, hend, hbad, hmore⟩ := tk_step hR hE hA
    clear hA hR hE
    by_cases he : A = l.length
    · have Hend := Lib.hid (hend he)
      have h1 : ((A : Int) == (l.length : Int)) = true := by simp [he]
      clear hend hbad hmore he
      go_wp2
      rw [Exit.jumps_ret]
      go_ret3
      exact ⟨v, done, -1, 0, rfl, hB, hown, .inr (.inr ⟨by omega, Hend.out, rfl, rfl⟩)⟩
    · have hlt : A < l.length := by omega
      have h1 : ((A : Int) == (l.length : Int)) = false := by simp; omega
      have hle := Lx.tokAt_le (l.drop A)
      rw [List.length_drop] at hle
      by_cases hn : (Lx.tokAt (l.drop A)).2 = 0
      · have Hbad := Lib.hid (hbad hlt hn)
        clear hend hbad hmore he
        go_wp2_with fail
        refine (read_some l A b off cap _ hlt (by omega) Hc.out).mono ?_; rintro e w2 ⟨rfl, rfl⟩
        rw [hn, Nat.add_zero]
        clear hn hle
        go_wp2_with fail
        rw [Exit.jumps_ret]
        go_ret3
        exact ⟨_, [], A, 2, rfl, hB, World.ownsRow_nil _ _ _ _, .inr (.inl ⟨by omega, A, Hbad.out, rfl, rfl, rfl⟩)⟩
      · have Hmore := Lib.hid (hmore hlt hn)
        have hpi := Lx.parse_tok (l.drop A)
        generalize hkk : (Lx.tokAt (l.drop A)).1 = k at *
        generalize hnn : (Lx.tokAt (l.drop A)).2 = n at *
        have Hpi := Lib.hid hpi
        clear hend hbad hmore he hpi
        go_wp2_with fail
        refine (read_some l A b off cap _ hlt (by omega) Hc.out).mono ?_; rintro e w2 ⟨rfl, rfl⟩
        rw [hkk, hnn]
        clear hkk hnn
        obtain ⟨E', hE'⟩ : ∃ E', E' = A + n := ⟨_, rfl⟩
        rw [← hE']
        have HE' := Lib.hid hE'
        have hAE : A < E' := by omega
        have hE'l : E' ≤ l.length := by omega
        have h2 : ((E' : Int) == (A : Int)) = false := by simp; omega
        have hlen : ((l.drop A).take n).length = E' - A := by rw [List.length_take, List.length_drop]; omega
        have hcv := run_convert_bytes_back (P := Tryz.prog) w1 22 9 5 ⟨b, off + A, none⟩ (cap - A) ((l.drop A).take n) Tryz.underlying22 Tryz.underlying5 Tryz.underlying9 (fun j hj => by
          have hplain : (⟨b, off + A, none⟩ : Addr).add j = ⟨b, off + (A + j), none⟩ := by unfold Addr.add; simp [Nat.add_assoc]
          rw [hplain, Hc.out (A + j) (by omega)]
          have e := Lx.take_at0 (l.drop A) n j (by omega)
          rw [Lx.at0_drop] at e
          rw [← e]
          simp [Lx.at0, List.getD_eq_getElem?_getD, List.getElem?_eq_getElem hj])
        rw [hlen] at hcv
        generalize htt : (l.drop A).take n = t at *
        have Htt := Lib.hid htt; have Hlen := Lib.hid hlen
        clear hE' hn hle htt hlen
        go_wp2_with fail
        refine (makeToken_any k A t _ (by rw [Hlen.out]; omega) Hpi.out).mono ?_
        rintro e w2 ⟨rfl, hb2⟩
        have hown2 := own_kept hown hb2
        have hB2 := hB.trans (hb2.mono hB.size)
        have hlen2 : (toksCells done).length = done.length * 4 := hown.1
        have hBs := hB.size
        have hs2 := hb2.size
        obtain ⟨i0, hi, hz0, hz1, hz2⟩ := info_parts info102
        have HI1 := Lib.hid hz1; have HI2 := Lib.hid hz2; have HI0 := Lib.hid hz0; have HI := Lib.hid hi
        clear hi hz0 hz1 hz2
        have HL := Lib.hid hlen2; clear hlen2
        have Hown2 := Lib.hid hown2; clear hown2 hown
        generalize hiv : (Lx.mkTok A k t).int = iv
        have Hiv := Lib.hid hiv; clear hiv
        go_wp2_with (at_builtin; refine wpList_append_own _ rfl (.tmp 30) (.tmp 39) 91 rfl w.heap.size 102 i0 (.agg #[.int .i64 0, .int .i64 0, .string ⟨#[]⟩, .int .i64 0]) 4 40 Tryz.underlying91 HI.out HI0.out HI1.out HI2.out rfl (by decide) _ done.length _ rfl (Hown2.out.alloc _) ⟨w2.heap.size, 0, none⟩ 1 1 [.int .i64 k, .int .i64 A, .string ⟨t.toArray⟩, .int .i64 iv] rfl rfl ?c1 ?c2 ?c3 ?c4 ?c5 ?_)
        case c1 => exact fun j u h => four_at w2 _ _ _ _ _ j u h
        case c2 => exact four_one _ _ _ _
        case c3 => unfold maxLen; omega
        case c4 => omega
        case c5 => simp; omega
        intro v' w3 hown3 hgr _
        have hB3 := (hB2.alloc (by omega) (.cells #[.int .i64 k, .int .i64 A, .string ⟨t.toArray⟩, .int .i64 iv] 102)).grown hgr (by simp; omega) (fun kk hkk => (Hown2.out.lt kk hkk).1)
        rw [toksCells_snoc done A k t iv Hiv.out] at hown3
        have HB3 := Lib.hid hB3; have HO3 := Lib.hid hown3
        clear hgr hB3 hown3 hB2
        go_wp2
        go_step3
        exact ⟨⟨rfl, E', v', done ++ [Lx.mkTok A k t], _, _, _, _, _, _, _, _, _, _, _, _, _, _, _, _, _, _, _, _, _, _, _, _, _, _, _, _, _, _, _, _, _, _, _, _, _, _, rfl, HB3.out, by rw [List.length_append]; exact HO3.out, by omega, by omega, by rw [List.length_append, List.length_singleton]; omega, by rw [HE'.out]; exact Hmore.out⟩, by simp [intOf]; omega⟩
  · rintro lab a w' hlab ⟨h, _⟩
    exact absurd h hlab
  · intro H0
    have H1 := Lib.hid H0
    clear H0
    by_cases hlong : 4096 < l.length
    · go_wp2
      rw [Exit.jumps_ret]
      go_ret3
      exact ⟨_, [], 4096, 2, rfl, Below.refl _ _, World.ownsRow_nil _ _ _ _, .inl ⟨hlong, rfl, rfl, rfl⟩⟩
    · go_wp2
      go_step3
      rename_i K hK
      exact hK _ _ (H1.out _ _ ⟨rfl, 0, _, [], _, _, _, _, _, _, _, _, _, _, _, _, _, _, _, _, _, _, _, _, _, _, _, _, _, _, _, _, _, _, _, _, _, _, _, _, _, _, rfl, Below.refl _ _, World.ownsRow_nil _ _ _ _, by omega, by omega, by simp, tkR_start l⟩)

set_option maxHeartbeats 400000 in
theorem tokens_none (p : Option Addr) (cap : Nat) (w : World) : Calls Tryz.prog 42 #[.slice p 0 cap] w (TkPost [] w) := by
  go_enter Tryz.func42, Tryz.ntmps42
  go_wp2
  go_step3
  go_wp2
  go_step3
  go_wp2_with fail
  refine (skip_none p cap _).mono ?_; rintro e w2 ⟨rfl, rfl⟩
  go_wp2
  rw [Exit.noGoto_ret]
  go_ret3
  exact ⟨_, [], -1, 0, rfl, Below.refl _ _, World.ownsRow_nil _ _ _ _, .inr (.inr ⟨by simp, rfl, rfl, rfl⟩)⟩

/-- A slice of bytes, whatever it is, in the world. -/
def SliceAt (w : World) (v : Value) (l : List UInt8) : Prop :=
  (∃ p cap, v = .slice p 0 cap ∧ l = []) ∨ (∃ b off cap, v = .slice (some ⟨b, off, none⟩) l.length cap ∧ l.length ≤ cap ∧ cap ≤ 9223372036854775807 ∧ BytesAt w b off l)

theorem tokens_any (v : Value) (l : List UInt8) (w : World) (h : SliceAt w v l) : Calls Tryz.prog 42 #[v] w (TkPost l w) := by
  rcases h with ⟨p, cap, rfl, rfl⟩ | ⟨b, off, cap, rfl, h1, h2, h3⟩
  · exact tokens_none p cap w
  · exact tokens_some l b off cap w h1 (by omega) h3
end Go.Proofs.YtnhndamfbeiljaaGreatDoor

namespace Go.Proofs
open Go.Shelf
def Tryz.laysM171_ren : Go.Shelf.Ren := ⟨fun | 171 => 169 | 243 => 171 | 246 => 109 | 283 => 138 | 284 => 139 | 285 => 140 | 286 => 141 | 129 => 151 | 317 => 150 | 318 => 152 | 319 => 153 | 320 => 154 | 337 => 162 | 338 => 163 | n => n, fun | 3 => 3 | 9 => 9 | 2 => 2 | 4 => 4 | 171 => 194 | 0 => 0 | 53 => 195 | 37 => 22 | 5 => 5 | 173 => 198 | 212 => 204 | 51 => 205 | 20 => 20 | 213 => 206 | 46 => 208 | 232 => 226 | 233 => 227 | n => n, fun | 17 => 0 | 18 => 3 | 19 => 4 | n => n⟩
theorem Tryz.laysM171 : Go.Proofs.LaysM.n171 Tryz.prog Tryz.laysM171_ren := {
  mixed := by kernel_rfl
  f129 := Tryz.func151.trans (congrArg some (by kernel_rfl))
  f171 := Tryz.func169.trans (congrArg some (by kernel_rfl))
  f243 := Tryz.func171.trans (congrArg some (by kernel_rfl))
  f246 := Tryz.func109.trans (congrArg some (by kernel_rfl))
  f283 := Tryz.func138.trans (congrArg some (by kernel_rfl))
  f284 := Tryz.func139.trans (congrArg some (by kernel_rfl))
  f285 := Tryz.func140.trans (congrArg some (by kernel_rfl))
  f286 := Tryz.func141.trans (congrArg some (by kernel_rfl))
  f317 := Tryz.func150.trans (congrArg some (by kernel_rfl))
  f318 := Tryz.func152.trans (congrArg some (by kernel_rfl))
  f319 := Tryz.func153.trans (congrArg some (by kernel_rfl))
  f320 := Tryz.func154.trans (congrArg some (by kernel_rfl))
  f337 := Tryz.func162.trans (congrArg some (by kernel_rfl))
  f338 := Tryz.func163.trans (congrArg some (by kernel_rfl))
  t0 := Tryz.underlying0
  a0 := Tryz.isAgg0
  z0 := Tryz.sizeOf0
  v0 := Tryz.zeroValue0
  t2 := Tryz.underlying2
  a2 := Tryz.isAgg2
  z2 := Tryz.sizeOf2
  v2 := Tryz.zeroValue2
  t3 := Tryz.underlying3
  a3 := Tryz.isAgg3
  z3 := Tryz.sizeOf3
  v3 := Tryz.zeroValue3
  t4 := Tryz.underlying4
  a4 := Tryz.isAgg4
  z4 := Tryz.sizeOf4
  v4 := Tryz.zeroValue4
  t5 := Tryz.underlying5
  a5 := Tryz.isAgg5
  z5 := Tryz.sizeOf5
  v5 := Tryz.zeroValue5
  t9 := Tryz.underlying9
  a9 := Tryz.isAgg9
  z9 := Tryz.sizeOf9
  v9 := Tryz.zeroValue9
  t20 := Tryz.underlying20
  a20 := Tryz.isAgg20
  z20 := Tryz.sizeOf20
  v20 := Tryz.zeroValue20
  t37 := Tryz.underlying22
  a37 := Tryz.isAgg22
  z37 := Tryz.sizeOf22
  v37 := Tryz.zeroValue22
  t46 := Tryz.underlying208
  a46 := Tryz.isAgg208
  z46 := Tryz.sizeOf208
  v46 := Tryz.zeroValue208
  t51 := Tryz.underlying205
  a51 := Tryz.isAgg205
  z51 := Tryz.sizeOf205
  v51 := Tryz.zeroValue205
  t53 := Tryz.underlying195
  a53 := Tryz.isAgg195
  z53 := Tryz.sizeOf195
  v53 := Tryz.zeroValue195
  t171 := Tryz.underlying194
  a171 := Tryz.isAgg194
  z171 := Tryz.sizeOf194
  v171 := Tryz.zeroValue194
  t173 := Tryz.underlying198
  a173 := Tryz.isAgg198
  z173 := Tryz.sizeOf198
  v173 := Tryz.zeroValue198
  t212 := Tryz.underlying204
  a212 := Tryz.isAgg204
  z212 := Tryz.sizeOf204
  v212 := Tryz.zeroValue204
  t213 := Tryz.underlying206
  a213 := Tryz.isAgg206
  z213 := Tryz.sizeOf206
  t232 := Tryz.underlying226
  a232 := Tryz.isAgg226
  z232 := Tryz.sizeOf226
  v232 := Tryz.zeroValue226
  t233 := Tryz.underlying227
  a233 := Tryz.isAgg227
  z233 := Tryz.sizeOf227
  v233 := Tryz.zeroValue227
  g17 := by kernel_rfl
  g18 := by kernel_rfl
  g19 := by kernel_rfl
  i0 := by kernel_rfl
  i2 := by kernel_rfl
  i3 := by kernel_rfl
  i4 := by kernel_rfl
  i5 := by kernel_rfl
  i9 := by kernel_rfl
  i20 := by kernel_rfl
  i37 := by kernel_rfl
  i46 := by kernel_rfl
  i51 := by kernel_rfl
  i53 := by kernel_rfl
  i171 := by kernel_rfl
  i173 := by kernel_rfl
  i212 := by kernel_rfl
  i232 := by kernel_rfl
  i233 := by kernel_rfl
  m17 := by kernel_rfl
  m18 := by kernel_rfl
  m19 := by kernel_rfl }
open Go.RowKit Go.Sort Go.Lib in
theorem Tryz.strconv_Itoa (n : Int) (h0 : -9223372036854775808 ≤ n) (h1 : n ≤ 9223372036854775807) (w : World) (htab : Lib.TabIs Tryz.prog w "internal/strconv.uint64pow10" .u64 Lib.pow10Tab) :
    Calls Tryz.prog 169 #[.int .i64 n] w fun e w' => e = .returned (.string ⟨(Lib.itoa n).toArray⟩) ∧ ∃ k os, w' = grow (w.drewN k) os := Any.strconv_Itoa Tryz.laysM171 n h0 h1 w htab
end Go.Proofs
