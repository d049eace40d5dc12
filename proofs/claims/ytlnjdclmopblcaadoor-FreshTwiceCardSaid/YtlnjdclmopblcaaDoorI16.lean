import Derived.Test.YtlnjdclmopblcaaDoorI15
set_option linter.unusedVariables false
set_option linter.unusedSimpArgs false
set_option maxHeartbeats 40000000
set_option maxRecDepth 100000
namespace Go.Proofs.YtlnjdclmopblcaaDoor
open Go Go.RowKit
open Go.Lib (hid)
theorem xR2 {w : World} {g : Nat} {a b : Value} {l : List Value} {T : TypeId} {f : Nat × Nat} (h : w.heap[g]? = some (.cells (a :: b :: l).toArray T f)) : w.cell? ⟨g, 0, none⟩ = some a /\ w.cell? ⟨g, 1, none⟩ = some b := ⟨xC h 0 _ rfl, xC h 1 _ rfl⟩
theorem xR5 {w : World} {g : Nat} {a b c d k : Value} {l : List Value} {T : TypeId} {f : Nat × Nat} (h : w.heap[g]? = some (.cells (a :: b :: c :: d :: k :: l).toArray T f)) : w.cell? ⟨g, 0, none⟩ = some a /\ w.cell? ⟨g, 1, none⟩ = some b /\ w.cell? ⟨g, 2, none⟩ = some c /\ w.cell? ⟨g, 3, none⟩ = some d /\ w.cell? ⟨g, 4, none⟩ = some k := ⟨xC h 0 _ rfl, xC h 1 _ rfl, xC h 2 _ rfl, xC h 3 _ rfl, xC h 4 _ rfl⟩
theorem xR7 {w : World} {g : Nat} {a b c d k m n : Value} {l : List Value} {T : TypeId} {f : Nat × Nat} (h : w.heap[g]? = some (.cells (a :: b :: c :: d :: k :: m :: n :: l).toArray T f)) : w.cell? ⟨g, 0, none⟩ = some a /\ w.cell? ⟨g, 1, none⟩ = some b /\ w.cell? ⟨g, 2, none⟩ = some c /\ w.cell? ⟨g, 3, none⟩ = some d /\ w.cell? ⟨g, 4, none⟩ = some k /\ w.cell? ⟨g, 5, none⟩ = some m /\ w.cell? ⟨g, 6, none⟩ = some n := ⟨xC h 0 _ rfl, xC h 1 _ rfl, xC h 2 _ rfl, xC h 3 _ rfl, xC h 4 _ rfl, xC h 5 _ rfl, xC h 6 _ rfl⟩
theorem xR10 {w : World} {g : Nat} {a b c d k m n q r s : Value} {l : List Value} {T : TypeId} {f : Nat × Nat} (h : w.heap[g]? = some (.cells (a :: b :: c :: d :: k :: m :: n :: q :: r :: s :: l).toArray T f)) : w.cell? ⟨g, 0, none⟩ = some a /\ w.cell? ⟨g, 1, none⟩ = some b /\ w.cell? ⟨g, 2, none⟩ = some c /\ w.cell? ⟨g, 3, none⟩ = some d /\ w.cell? ⟨g, 4, none⟩ = some k /\ w.cell? ⟨g, 5, none⟩ = some m /\ w.cell? ⟨g, 6, none⟩ = some n /\ w.cell? ⟨g, 7, none⟩ = some q /\ w.cell? ⟨g, 8, none⟩ = some r /\ w.cell? ⟨g, 9, none⟩ = some s := ⟨xC h 0 _ rfl, xC h 1 _ rfl, xC h 2 _ rfl, xC h 3 _ rfl, xC h 4 _ rfl, xC h 5 _ rfl, xC h 6 _ rfl, xC h 7 _ rfl, xC h 8 _ rfl, xC h 9 _ rfl⟩
theorem xR12 {w : World} {g : Nat} {a b c d k m n q r s t u : Value} {l : List Value} {T : TypeId} {f : Nat × Nat} (h : w.heap[g]? = some (.cells (a :: b :: c :: d :: k :: m :: n :: q :: r :: s :: t :: u :: l).toArray T f)) : w.cell? ⟨g, 0, none⟩ = some a /\ w.cell? ⟨g, 1, none⟩ = some b /\ w.cell? ⟨g, 2, none⟩ = some c /\ w.cell? ⟨g, 3, none⟩ = some d /\ w.cell? ⟨g, 4, none⟩ = some k /\ w.cell? ⟨g, 5, none⟩ = some m /\ w.cell? ⟨g, 6, none⟩ = some n /\ w.cell? ⟨g, 7, none⟩ = some q /\ w.cell? ⟨g, 8, none⟩ = some r /\ w.cell? ⟨g, 9, none⟩ = some s /\ w.cell? ⟨g, 10, none⟩ = some t /\ w.cell? ⟨g, 11, none⟩ = some u := ⟨xC h 0 _ rfl, xC h 1 _ rfl, xC h 2 _ rfl, xC h 3 _ rfl, xC h 4 _ rfl, xC h 5 _ rfl, xC h 6 _ rfl, xC h 7 _ rfl, xC h 8 _ rfl, xC h 9 _ rfl, xC h 10 _ rfl, xC h 11 _ rfl⟩
namespace Fr
variable {lo b mt mh : Nat} {D : List Nm}
theorem kg {α : Type} {w0 : World} (hlo0 : w0.heap.size = lo) (F : FuncId) (hent : ∀ args w, (callFunc F args).run Tryd.prog w = .ok (.enter F args) w) (Qy : Value -> α -> Prop) (Qs : World -> Value -> α -> Prop) (hIs : ∀ v x, Qy v x -> kN v) (fu : ∀ u v x, Qs u v x -> kN v)
 (G : α -> Nat -> Env -> Nat × α × Env) (H : α -> Nat -> Env -> List (Nm × Nm)) (c : α -> Nat) (ok : α -> Prop) (hF : NP w0 lo b mt mh D F Qy Qs G H c ok) (hle : ∀ x n ρ, (G x n ρ).1 <= n + (D.length + 1) * c x) (hln : ∀ x n ρ, (H x n ρ).length <= c x)
 (xs : List α) (lv : Value) (w : World) (hv : Value) (n : Nat) (ρ : Env) (hs : List (Nm × Nm)) (hr : JO 1 Qy w0 lv xs) (hok : ∀ x ∈ xs, ok x) (hxs : xs.length <= 1000000) (hb : Below lo w0 w) (hS : St w lo b mt mh hv D n ρ hs) (hn : n + (D.length + 1) * (xs.map c).sum <= 1000000000) (hh : hs.length + (xs.map c).sum <= 100000000) :
 Calls Tryd.prog 32 #[lv, .func (.func F) #[.pointer (some ⟨b, 0, none⟩)] #[]] w (VQ lo b mt mh D (fun u v l => JO 1 (Qs u) u v l) (qO G) (hst G H) w hv n ρ hs xs) := by
 obtain ⟨q, cp, rfl⟩ := hr.len; have HR := hid hr; have ve := hid hok; have Re := hid hxs; have HB := hid hb; have HS := hid hS; have HN := hid hn; have HH := hid hh; have HF := hid hF; have Yn := hid hle; have eP := hid hln; have HIS := hid hIs; have Rf := hid fu; have UD := hid hlo0
 clear hr hok hxs hb hS hn hh hF hle hln hIs fu hlo0; go_enter Tryd.func32, Tryd.ntmps32; go_wp2_with fail; refine (wQ Qy HIS _ xs w (HR.out.mono (by rw [UD.out]; exact HB.out) (fun _ _ _ h => h)) Re).mono ?_; rintro e wc ⟨v', Rh, rfl, ho, hrep, hsz, hbc⟩; obtain ⟨p1, c1, rfl⟩ := jH ho
 have hstart : Hid ((xs = [] /\ Below w.heap.size w wc) \/ ∃ g, p1 = some ⟨g, 0, none⟩ /\ g < wc.heap.size /\ w.heap.size <= g /\ xs.length <= c1 /\ (c1 : Int) <= 9223372036854775807 /\ ∃ YC us, zo lo b mt mh D 9 1 g wc.heap.size Qy Qs G H w hv n ρ hs xs 0 YC us wc) := by
  refine hid ?_
  rcases ho.2 with ⟨_, h0⟩ | ⟨g, cap, cur, hv2, _⟩
  . exact .inl ⟨JP h0, hbc⟩
  . injection hv2 with e1 _ e2
    subst e1; subst e2
    obtain ⟨k1, k2, k3, k4⟩ := VT ho hsz hrep.len; exact .inr ⟨g, rfl, k1.lt, k2, k3, k4, hv, Rh, zo.start HS hbc k1 k2 hrep⟩
 have HLEN := hid hrep.len; clear ho hrep hsz hbc; go_wp2_with fail
 go_loopw [11] (fun j wr => ∃ m : Nat, j = .int .i64 m /\ m <= xs.length /\ Hid ((xs = [] /\ Below w.heap.size w wr) \/ ∃ g, p1 = some ⟨g, 0, none⟩ /\ g < wc.heap.size /\ w.heap.size <= g /\ xs.length <= c1 /\ (c1 : Int) <= 9223372036854775807 /\ ∃ YC us, zo lo b mt mh D 9 1 g wc.heap.size Qy Qs G H w hv n ρ hs xs m YC us wr)) (fun j _ => xs.length - (intOf j).toNat)
 case atStart => exact ⟨0, rfl, jh _, hstart⟩
 case round =>
  clear hstart; obtain ⟨m, rfl, hm, HI⟩ := hrel; by_cases hlt : m < xs.length
  case neg =>
   obtain rfl : m = xs.length := by omega
   have hk4 : ¬ (xs.length : Int) < (xs.length : Int) := by omega
   go_wp2_with fail; go_ret
   rcases HI.out with ⟨h0, hbr⟩ | ⟨g, rfl, hgB, hgw, hc1, hc2, YC, us, hI⟩
   . subst h0; exact Yz HS hbr
   . exact hI.done hgB hgw hc1 hc2
  rcases HI.out with ⟨h0, hbr⟩ | ⟨g, rfl, hgB, hgw, hc1, hc2, YC, us, hI⟩
  . rw [h0] at hlt; simp at hlt
  obtain ⟨y, hy⟩ : ∃ y, xs[m]? = some y := ⟨_, jA hlt⟩
  obtain ⟨u, hu⟩ : ∃ u, us[m]? = some u := ⟨_, jA (by rw [hI.len]; exact hlt)⟩
  have hin := hI.ins m u y (jB _) hu hy; obtain ⟨r1, r2⟩ := Yy (D := D) (ρ := ρ) Yn eP HN HH hy; obtain ⟨s, rfl⟩ := HIS.out _ _ hin; have hI2 := hI; have HC := hid (HF.out y _ wr YC _ _ _ hin (ve.out y (jI hy)) (HB.out.trans hI2.Xz.below) hI2.st r1 r2); have d0 := hI.half.cell hu 0 _ rfl; simp only [jZ, qX] at d0; have U5 := hid hI2; have HY := hid hy; have HU := hid hu; have HG := hid (⟨hgB, hgw, hc1, hc2⟩ : g < wc.heap.size /\ w.heap.size <= g /\ xs.length <= c1 /\ (c1 : Int) <= 9223372036854775807)
  have hk1 : (m : Int) < (xs.length : Int) := by omega
  have hk2 : (xs.length : Int) <= (c1 : Int) := by omega
  have hk3 := hc2; clear hin r1 r2 hy hu hI hI2 hgB hgw hc1 hc2 HI; go_wp2_with fail; clear d0; refine HC.out.mono ?_; rintro e w2 ⟨out, hv2, rfl, h1, h2, h3⟩; obtain ⟨os, rfl⟩ := Rf.out _ _ _ h3.now; have hnext := U5.out.next HG.out.1 HG.out.2.1 (jS HS.out.low.2.2.2 HG.out.2.1) HY.out (by rfl) h1 h2 h3; have hf2 := U5.out.half.keep (h2.stay g (Jo HG.out.1 U5.out.big) U5.out.gf); have hu := HU.out; have e0 := hf2.cell hu 0 _ rfl; have f0 := hf2.free (m * 1 + 0); simp only [jZ, qX] at e0 f0; simp only [qX] at hnext; have dX := hid hnext; clear hnext hf2 hu h1 h2 h3 HC; go_wp2_with fail
  go_roundw
  case rel => exact ⟨m + 1, by go_num, by omega, hid (.inr ⟨g, rfl, HG.out.1, HG.out.2.1, HG.out.2.2.1, HG.out.2.2.2, hv2, _, dX.out⟩)⟩
  case measure => simp [intOf]; omega
end Fr
namespace Fr
variable {lo b mt mh : Nat} {D : List Nm}
theorem BM {α : Type} {w0 : World} (hlo0 : w0.heap.size = lo) (F : FuncId) (hent : ∀ args w, (callFunc F args).run Tryd.prog w = .ok (.enter F args) w) (Qy : Value -> α -> Prop) (Qs : World -> Value -> α -> Prop) (hIs : ∀ v x, Qy v x -> yS v) (fu : ∀ u v x, Qs u v x -> yS v)
 (G : α -> Nat -> Env -> Nat × α × Env) (H : α -> Nat -> Env -> List (Nm × Nm)) (c : α -> Nat) (ok : α -> Prop) (hF : NP w0 lo b mt mh D F Qy Qs G H c ok) (hle : ∀ x n ρ, (G x n ρ).1 <= n + (D.length + 1) * c x) (hln : ∀ x n ρ, (H x n ρ).length <= c x)
 (xs : List α) (lv : Value) (w : World) (hv : Value) (n : Nat) (ρ : Env) (hs : List (Nm × Nm)) (hr : JO 5 Qy w0 lv xs) (hok : ∀ x ∈ xs, ok x) (hxs : xs.length <= 1000000) (hb : Below lo w0 w) (hS : St w lo b mt mh hv D n ρ hs) (hn : n + (D.length + 1) * (xs.map c).sum <= 1000000000) (hh : hs.length + (xs.map c).sum <= 100000000) :
 Calls Tryd.prog 79 #[lv, .func (.func F) #[.pointer (some ⟨b, 0, none⟩)] #[]] w (VQ lo b mt mh D (fun u v l => JO 5 (Qs u) u v l) (qO G) (hst G H) w hv n ρ hs xs) := by
 obtain ⟨q, cp, rfl⟩ := hr.len; have HR := hid hr; have ve := hid hok; have Re := hid hxs; have HB := hid hb; have HS := hid hS; have HN := hid hn; have HH := hid hh; have HF := hid hF; have Yn := hid hle; have eP := hid hln; have HIS := hid hIs; have Rf := hid fu; have UD := hid hlo0
 clear hr hok hxs hb hS hn hh hF hle hln hIs fu hlo0; go_enter Tryd.func79, Tryd.ntmps79; go_wp2_with fail; refine (wV Qy HIS _ xs w (HR.out.mono (by rw [UD.out]; exact HB.out) (fun _ _ _ h => h)) Re).mono ?_; rintro e wc ⟨v', Rh, rfl, ho, hrep, hsz, hbc⟩; obtain ⟨p1, c1, rfl⟩ := jH ho
 have hstart : Hid ((xs = [] /\ Below w.heap.size w wc) \/ ∃ g, p1 = some ⟨g, 0, none⟩ /\ g < wc.heap.size /\ w.heap.size <= g /\ xs.length <= c1 /\ (c1 : Int) <= 9223372036854775807 /\ ∃ YC us, zo lo b mt mh D 85 5 g wc.heap.size Qy Qs G H w hv n ρ hs xs 0 YC us wc) := by
  refine hid ?_
  rcases ho.2 with ⟨_, h0⟩ | ⟨g, cap, cur, hv2, _⟩
  . exact .inl ⟨JP h0, hbc⟩
  . injection hv2 with e1 _ e2
    subst e1; subst e2
    obtain ⟨k1, k2, k3, k4⟩ := VT ho hsz hrep.len; exact .inr ⟨g, rfl, k1.lt, k2, k3, k4, hv, Rh, zo.start HS hbc k1 k2 hrep⟩
 have HLEN := hid hrep.len; clear ho hrep hsz hbc; go_wp2_with fail
 go_loopw [11] (fun j wr => ∃ m : Nat, j = .int .i64 m /\ m <= xs.length /\ Hid ((xs = [] /\ Below w.heap.size w wr) \/ ∃ g, p1 = some ⟨g, 0, none⟩ /\ g < wc.heap.size /\ w.heap.size <= g /\ xs.length <= c1 /\ (c1 : Int) <= 9223372036854775807 /\ ∃ YC us, zo lo b mt mh D 85 5 g wc.heap.size Qy Qs G H w hv n ρ hs xs m YC us wr)) (fun j _ => xs.length - (intOf j).toNat)
 case atStart => exact ⟨0, rfl, jh _, hstart⟩
 case round =>
  clear hstart; obtain ⟨m, rfl, hm, HI⟩ := hrel; by_cases hlt : m < xs.length
  case neg =>
   obtain rfl : m = xs.length := by omega
   have hk4 : ¬ (xs.length : Int) < (xs.length : Int) := by omega
   go_wp2_with fail; go_ret
   rcases HI.out with ⟨h0, hbr⟩ | ⟨g, rfl, hgB, hgw, hc1, hc2, YC, us, hI⟩
   . subst h0; exact Yz HS hbr
   . exact hI.done hgB hgw hc1 hc2
  rcases HI.out with ⟨h0, hbr⟩ | ⟨g, rfl, hgB, hgw, hc1, hc2, YC, us, hI⟩
  . rw [h0] at hlt; simp at hlt
  obtain ⟨y, hy⟩ : ∃ y, xs[m]? = some y := ⟨_, jA hlt⟩
  obtain ⟨u, hu⟩ : ∃ u, us[m]? = some u := ⟨_, jA (by rw [hI.len]; exact hlt)⟩
  have hin := hI.ins m u y (jB _) hu hy; obtain ⟨r1, r2⟩ := Yy (D := D) (ρ := ρ) Yn eP HN HH hy; obtain ⟨a0, a1, a2, a3, p4, n4, c4, rfl⟩ := HIS.out _ _ hin; have Nl : Below wr.heap.size wr (wr.alloc (.cells #[.int .i64 a0, .int .i64 a1, .string a2, .int .i64 a3, .slice p4 n4 c4] 85)) := (jD _ _).alloc (jB _) _; have hI2 := hI.below Nl hgB; clear Nl; have HC := hid (HF.out y _ (wr.alloc (.cells #[.int .i64 a0, .int .i64 a1, .string a2, .int .i64 a3, .slice p4 n4 c4] 85)) YC _ _ _ hin (ve.out y (jI hy)) (HB.out.trans hI2.Xz.below) hI2.st r1 r2); have d0 := hI.half.cell hu 0 _ rfl; have d1 := hI.half.cell hu 1 _ rfl; have d2 := hI.half.cell hu 2 _ rfl; have d3 := hI.half.cell hu 3 _ rfl; have d4 := hI.half.cell hu 4 _ rfl
  simp only [jZ, qX] at d0; have U5 := hid hI2; have HY := hid hy; have HU := hid hu; have HG := hid (⟨hgB, hgw, hc1, hc2⟩ : g < wc.heap.size /\ w.heap.size <= g /\ xs.length <= c1 /\ (c1 : Int) <= 9223372036854775807)
  have hk1 : (m : Int) < (xs.length : Int) := by omega
  have hk2 : (xs.length : Int) <= (c1 : Int) := by omega
  have hk3 := hc2; clear hin r1 r2 hy hu hI hI2 hgB hgw hc1 hc2 HI; go_wp2_with fail; clear d0 d1 d2 d3 d4; refine HC.out.mono ?_; rintro e w2 ⟨out, hv2, rfl, h1, h2, h3⟩; obtain ⟨Ab, Ac, jBX, Ad, jBY, jBZ, jC0, rfl⟩ := Rf.out _ _ _ h3.now; have hnext := U5.out.next HG.out.1 HG.out.2.1 (jS HS.out.low.2.2.2 HG.out.2.1) HY.out (by rfl) h1 h2 h3; have hf2 := U5.out.half.keep (h2.stay g (Jo HG.out.1 U5.out.big) U5.out.gf); have hu := HU.out; have e0 := hf2.cell hu 0 _ rfl; have e1 := hf2.cell hu 1 _ rfl; have e2 := hf2.cell hu 2 _ rfl; have e3 := hf2.cell hu 3 _ rfl; have e4 := hf2.cell hu 4 _ rfl
  have f0 := hf2.free (m * 5 + 0); have f1 := hf2.free (m * 5 + 1); have f2 := hf2.free (m * 5 + 2); have f3 := hf2.free (m * 5 + 3); have f4 := hf2.free (m * 5 + 4)
  simp only [jZ, qX] at e0 f0; have dX := hid hnext; clear hnext hf2 hu h1 h2 h3 HC; go_wp2_with fail
  go_roundw
  case rel => exact ⟨m + 1, by go_num, by omega, hid (.inr ⟨g, rfl, HG.out.1, HG.out.2.1, HG.out.2.2.1, HG.out.2.2.2, hv2, _, dX.out⟩)⟩
  case measure => simp [intOf]; omega
end Fr
namespace Fr
variable {lo b mt mh : Nat} {D : List Nm}
def Nn (B : Nat) : Nat -> Px.QJ -> Prop
 | 0, _ => True
 | f + 1, .mk _ _ nm _ xs => nm.length <= B /\ xs.length <= 1000000 /\ ∀ x ∈ xs, Nn B f x
def mP (B : Nat) : Nat -> Px.Expr -> Prop
 | 0, _ => True
 | f + 1, .mk _ _ _ _ ns xs al => ns.length <= 1000000 /\ xs.length <= 1000000 /\ al.length <= 1000000 /\ (∀ s ∈ ns, s.length <= B) /\ (∀ x ∈ xs, mP B f x) /\ ∀ a ∈ al, Nn B f a.1 /\ mP B f a.2
theorem Stp.set {hv hv' : Value} {w w' : World} (h : Stp lo b mt mh hv hv' w w') {g j : Nat} (v : Value) (hg : w.heap.size <= g) (hl : lo <= w.heap.size) : Stp lo b mt mh hv hv' w (w'.setCell ⟨g, j, none⟩ v) :=
 ⟨h.below.setCell (p := ⟨g, j, none⟩) (show lo <= g by omega) _, fun c hc hn => (jP w' ⟨g, j, none⟩ v c (show c ≠ g by omega)).trans (h.stay c hc hn), h.own⟩
theorem St.far {w : World} {hv : Value} {n : Nat} {ρ : Env} {hs : List (Nm × Nm)} (h : St w lo b mt mh hv D n ρ hs) {g : Nat} (hg : w.heap.size <= g) : ¬ Fp b mt mh hv g := by
 obtain ⟨l1, l2, l3, l4⟩ := h.low; rintro (e | e | e | e)
 . omega
 . omega
 . omega
 . have := (h.hid.lt g e).2; omega
theorem FB {w0 : World} (htab : ∀ w, Below lo w0 w -> mO w) (hD : D.length <= 1000000) (B : Nat) (hB : B <= 3000000000) : NP w0 lo b mt mh D 33 (zA w0) zA (bnd D) UL (fun _ => 1) (fun s => s.length <= B) := by
 intro x v w hv n ρ hs hr hok hb hS hn hh; have e : v = .string ⟨x.toArray⟩ := hr; subst e; refine (BF htab w hv n ρ hs x hS hb hD (by have h9 : n + (D.length + 1) * 1 <= 1000000000 := hn; omega) (jS hok hB) hh).mono ?_; rintro e w' ⟨rfl, hv', h1, h2⟩; exact ⟨_, hv', rfl, h1, h2, Q4.of fun u => rfl⟩
theorem UN (u : World) (v : Value) (x : Nm) (h : zA u v x) : kN v := ⟨_, h⟩
theorem XF (f : Nat) (u : World) (v : Value) (x : Px.QJ) (h : qj f u v x) : Fr.yS v := by
 obtain ⟨a0, a1, a2, a3, q, n, c, e⟩ := yT h; exact ⟨a0, a1, a2, a3, q, n, c, e⟩
theorem Np {w0 : World} (hlo0 : w0.heap.size = lo) (htab : ∀ w, Below lo w0 w -> mO w) (hD : D.length <= 1000000) (B : Nat) (hB : B <= 3000000000) : ∀ f, NP w0 lo b mt mh D 74 (qj f w0) (qj f) (pat D f) (vX D f) (cP f) (Nn B f)
 | 0 => fun x v w hv n ρ hs hr => hr.elim
 | f + 1 => by
   have ih := Np hlo0 htab hD B hB f; intro x v w hv n ρ hs hr hok hb hS hn hh; cases x with | mk k p nm i xs =>
   obtain ⟨av, rfl, hrow⟩ := hr; obtain ⟨q, cp, rfl⟩ := hrow.len; obtain ⟨ok1, sS, sU⟩ := hok; obtain ⟨w1, hw1⟩ : ∃ w1, w1 = (w.alloc (.cells #[.int .i64 k, .int .i64 p, .string ⟨nm.toArray⟩, .int .i64 i, .slice q xs.length cp] 85)).alloc (.cells #[.int .i64 0, .int .i64 0, .string ⟨#[]⟩, .int .i64 0, .slice none 0 0] 85) := ⟨_, rfl⟩
   have hb1 : Below w.heap.size w w1 := by rw [hw1]; exact ((jD _ _).alloc (jB _) _).alloc (by simp) _
   have hex : w1.heap[w.heap.size]? = some (.cells #[.int .i64 k, .int .i64 p, .string ⟨nm.toArray⟩, .int .i64 i, .slice q xs.length cp] 85 (0, 0)) := by rw [hw1]; exact JA (jb w _ _) _
   have her : w1.heap[w.heap.size + 1]? = some (.cells #[.int .i64 0, .int .i64 0, .string ⟨#[]⟩, .int .i64 0, .slice none 0 0] 85 (0, 0)) := by
    rw [hw1]; have := jb (w.alloc (.cells #[.int .i64 k, .int .i64 p, .string ⟨nm.toArray⟩, .int .i64 i, .slice q xs.length cp] 85)) #[.int .i64 0, .int .i64 0, .string ⟨#[]⟩, .int .i64 0, .slice none 0 0] 85
    rwa [Jt] at this
   have hl := hS.low.2.2.2; have Iu := hid (⟨hS.below hb1, Stp.of_below hb1 hl⟩ : St w1 lo b mt mh hv D n ρ hs /\ Stp lo b mt mh hv hv w w1); have Cs := hid (⟨hS.far (jB _), hS.far (Nat.le_succ _)⟩ : ¬ Fp b mt mh hv w.heap.size /\ ¬ Fp b mt mh hv (w.heap.size + 1)); have HE := hid hex; have LW := hid her; have HL := hid hl
   have vW := hid hrow; have VP := hid ok1; have zV := hid sS; have yQ := hid sU; have HB := hid hb; have Sd := hid hB
   have sV : cP (f + 1) (.mk k p nm i xs) = 1 + (xs.map (cP f)).sum := rfl; rw [sV] at hn hh; have HN := hid hn; have HH := hid hh; have HT := hid htab; have HD := hid hD; have YZ := hid ih; have jFA := hid hlo0
   obtain ⟨a, ha⟩ : ∃ a, a = (if k = 1 then bnd D nm n ρ else (n, nm, ρ)) := ⟨_, rfl⟩
   obtain ⟨wY, he1⟩ : ∃ wY, wY = (if k = 1 then UL nm n ρ else []) := ⟨_, rfl⟩
   have hG : pat D (f + 1) (.mk k p nm i xs) n ρ = ((qO (pat D f) xs a.1 a.2.2).1, .mk k p a.2.1 i (qO (pat D f) xs a.1 a.2.2).2.1, (qO (pat D f) xs a.1 a.2.2).2.2) := by rw [ha]; rfl
   have jC1 : vX D (f + 1) (.mk k p nm i xs) n ρ = wY ++ hst (pat D f) (vX D f) xs a.1 a.2.2 := by rw [ha, he1]; rfl
   have HG := hid hG; have Ot := hid jC1; have HA := hid ha; have Ae := hid he1
   have y0 := xK hex 0 rfl; have y2 := xK hex 2 rfl; clear hb1 hex her hl hS hrow ok1 sS sU hb sV hn hh htab hD ih hlo0 hG jC1 ha he1 hB; go_enter Tryd.func74, Tryd.ntmps74
   go_upto_if 7 with fail
   rw [<- hw1]; clear hw1
   go_cut [] (fun wx => Hid (∃ hv1, St wx lo b mt mh hv1 D a.1 a.2.2 (hs ++ wY) /\ Stp lo b mt mh hv hv1 w wx /\ wx.heap[w.heap.size]? = some (.cells #[.int .i64 k, .int .i64 p, .string ⟨a.2.1.toArray⟩, .int .i64 i, .slice q xs.length cp] 85 (0, 0)) /\ wx.heap[w.heap.size + 1]? = some (.cells #[.int .i64 0, .int .i64 0, .string ⟨#[]⟩, .int .i64 0, .slice none 0 0] 85 (0, 0)) /\ ¬ Fp b mt mh hv1 w.heap.size /\ ¬ Fp b mt mh hv1 (w.heap.size + 1)))
   case first =>
    by_cases hk : k = 1
    . have hk1 : ((k : Int) == 1) = true := by rw [qd]; omega
      have hA : a = bnd D nm n ρ := by rw [HA.out, if_pos hk]
      have hE : wY = [(nm, ρ nm)] := by rw [Ae.out, if_pos hk]; rfl
      have HA2 := hid hA; have HE2 := hid hE
      clear hk hA hE; go_wp2_with fail; refine (BF HT w1 hv n ρ hs nm Iu.out.1 (HB.out.trans Iu.out.2.below) HD (by have h1 := HN.out; rw [JU] at h1; omega) (jS VP.out Sd.out) (by have := HH.out; omega)).mono ?_; rintro e w2 ⟨rfl, hv1, h1, h2⟩; have hx1 := ji HE; have hx2 := ji LW
      have k1 := (h2.stay _ hx1 Cs.out.1).trans HE.out; have k2 := (h2.stay _ hx2 Cs.out.2).trans LW.out; have k3 := h2.fp hx1 Cs.out.1; have k4 := h2.fp hx2 Cs.out.2; have c2 := xK k1 2 rfl; have f2 := jX k1 2; have hst := h1.set w.heap.size 2 (.string ⟨(bnd D nm n ρ).2.1.toArray⟩) k3; have hsp := (Iu.out.2.trans h2).set (g := w.heap.size) (j := 2) (.string ⟨(bnd D nm n ρ).2.1.toArray⟩) (jB _) HL.out; have e1 := Jf k1 2 (.string ⟨(bnd D nm n ρ).2.1.toArray⟩); have e2 := (jP w2 ⟨w.heap.size, 2, none⟩ (.string ⟨(bnd D nm n ρ).2.1.toArray⟩) (w.heap.size + 1) (by simp)).trans k2
      have HJ : Hid (∃ hv1, St (w2.setCell ⟨w.heap.size, 2, none⟩ (.string ⟨(bnd D nm n ρ).2.1.toArray⟩)) lo b mt mh hv1 D a.1 a.2.2 (hs ++ wY) /\ Stp lo b mt mh hv hv1 w (w2.setCell ⟨w.heap.size, 2, none⟩ (.string ⟨(bnd D nm n ρ).2.1.toArray⟩)) /\ (w2.setCell ⟨w.heap.size, 2, none⟩ (.string ⟨(bnd D nm n ρ).2.1.toArray⟩)).heap[w.heap.size]? = some (.cells #[.int .i64 k, .int .i64 p, .string ⟨a.2.1.toArray⟩, .int .i64 i, .slice q xs.length cp] 85 (0, 0)) /\ (w2.setCell ⟨w.heap.size, 2, none⟩ (.string ⟨(bnd D nm n ρ).2.1.toArray⟩)).heap[w.heap.size + 1]? = some (.cells #[.int .i64 0, .int .i64 0, .string ⟨#[]⟩, .int .i64 0, .slice none 0 0] 85 (0, 0)) /\ ¬ Fp b mt mh hv1 w.heap.size /\ ¬ Fp b mt mh hv1 (w.heap.size + 1)) :=
       hid ⟨hv1, by rw [HA2.out, HE2.out]; exact hst, hsp, by rw [HA2.out]; simpa using e1, e2, k3, k4⟩
      clear h1 h2 hx1 hx2 k1 k2 k3 k4 hst hsp e1 e2; go_wp2_with fail
      go_meet
      exact HJ
    . have hk1 : ((k : Int) == 1) = false := qF.2 (by omega); have hA : a = (n, nm, ρ) := by rw [HA.out, if_neg hk]
      have hE : wY = [] := by rw [Ae.out, if_neg hk]
      have HA2 := hid hA; have HE2 := hid hE
      clear hk hA hE; go_wp2_with fail
      go_meet
      exact hid ⟨hv, by rw [HA2.out, HE2.out, Jl]; exact Iu.out.1, Iu.out.2, by rw [HA2.out]; exact HE.out, LW.out, Cs.out.1, Cs.out.2⟩
   case rest =>
    obtain ⟨hv1, h1, h2, h3, h4, h5, h6⟩ := hcut.out; clear hcut y0 y2
    rename World => w3
    have y4 := xK h3 4 rfl; have H1 := hid h1; have H2 := hid h2; have H3 := hid h3; have H4 := hid h4; have H5 := hid h5; have H6 := hid h6
    clear h1 h2 h3 h4 h5 h6; go_wp2_with fail; clear y4
    have BN : a.1 + (D.length + 1) * (xs.map (cP f)).sum <= 1000000000 := by
     have h1 := HN.out; rw [JU] at h1; rw [HA.out]
     split
     . have := zz D nm n ρ; omega
     . dsimp only; omega
    have BO : (hs ++ wY).length + (xs.map (cP f)).sum <= 100000000 := by
     have h1 := HH.out; rw [jE, Ae.out]
     split
     . have : (UL nm n ρ).length = 1 := rfl; omega
     . simp; omega
    refine (BM jFA 74 (enters_of Tryd.func74 (by kernel_rfl) rfl) (qj f w0) (qj f) (XF f w0) (XF f) (pat D f) (vX D f) (cP f) (Nn B f) YZ (Zy D f) (Ki D f) xs _ w3 hv1 a.1 a.2.2 (hs ++ wY) vW yQ zV (HB.out.trans H2.out.below) H1 BN BO).mono ?_; clear BN BO; rintro e w4 ⟨out, hv2, rfl, g1, g2, g3⟩; obtain ⟨qo, co, rfl⟩ := g3.now.len; obtain ⟨LO, hLO⟩ : ∃ LO, LO = (qO (pat D f) xs a.1 a.2.2).2.1.length := ⟨_, rfl⟩
    rw [<- hLO] at g3 ⊢; have hx1 := ji H3; have hx2 := ji H4
    have k1 := (g2.stay _ hx1 H5.out).trans H3.out; have k2 := (g2.stay _ hx2 H6.out).trans H4.out; have k3 := g2.fp hx1 H5.out; have k4 := g2.fp hx2 H6.out; have c4 := xK k1 4 rfl; have f4 := jX k1 4; have e1 := Jf k1 4 (.slice qo LO co); simp only [jd, JF, JE] at e1; have e2 := (jP w4 ⟨w.heap.size, 4, none⟩ (.slice qo LO co) (w.heap.size + 1) (by simp)).trans k2; have G1 := hid g1; have G2 := hid g2; have G3 := hid g3
    have K3 := hid k3; have K4 := hid k4; have E2 := hid e2
    clear g1 g2 g3 hLO hx1 hx2 k1 k2 k3 k4; obtain ⟨z0, z1, z2, z3, z4⟩ := xR5 e1; obtain ⟨r0, r1, r2, r3, r4⟩ := xR5 e2; have t0 := jX e2 0; have t1 := jX e2 1; have t2 := jX e2 2; have t3 := jX e2 3; have t4 := jX e2 4
    clear e1 e2; go_wp2_with fail
    have e6 : ((((((w4.setCell ⟨w.heap.size, 4, none⟩ (.slice qo LO co)).setCell ⟨w.heap.size + 1, 0, none⟩ (.int .i64 k)).setCell ⟨w.heap.size + 1, 1, none⟩ (.int .i64 p)).setCell ⟨w.heap.size + 1, 2, none⟩ (.string ⟨a.2.1.toArray⟩)).setCell ⟨w.heap.size + 1, 3, none⟩ (.int .i64 i)).setCell ⟨w.heap.size + 1, 4, none⟩ (.slice qo LO co)).heap[w.heap.size + 1]? = some (.cells #[.int .i64 k, .int .i64 p, .string ⟨a.2.1.toArray⟩, .int .i64 i, .slice qo LO co] 85 (0, 0)) := by
     have := (Jf (Jf (Jf (Jf (Jf E2 0 (.int .i64 k)) 1 (.int .i64 p)) 2 (.string ⟨a.2.1.toArray⟩)) 3 (.int .i64 i)) 4 (.slice qo LO co))
     simpa using this
    have mQ : ∀ c, c ≠ w.heap.size + 1 -> ((((((w4.setCell ⟨w.heap.size, 4, none⟩ (.slice qo LO co)).setCell ⟨w.heap.size + 1, 0, none⟩ (.int .i64 k)).setCell ⟨w.heap.size + 1, 1, none⟩ (.int .i64 p)).setCell ⟨w.heap.size + 1, 2, none⟩ (.string ⟨a.2.1.toArray⟩)).setCell ⟨w.heap.size + 1, 3, none⟩ (.int .i64 i)).setCell ⟨w.heap.size + 1, 4, none⟩ (.slice qo LO co)).heap[c]? = (w4.setCell ⟨w.heap.size, 4, none⟩ (.slice qo LO co)).heap[c]? := fun c hc => ZL (w.heap.size + 1) [.int .i64 k, .int .i64 p, .string ⟨a.2.1.toArray⟩, .int .i64 i, .slice qo LO co] (w4.setCell ⟨w.heap.size, 4, none⟩ (.slice qo LO co)) 0 c hc
    have hs6 : ((((((w4.setCell ⟨w.heap.size, 4, none⟩ (.slice qo LO co)).setCell ⟨w.heap.size + 1, 0, none⟩ (.int .i64 k)).setCell ⟨w.heap.size + 1, 1, none⟩ (.int .i64 p)).setCell ⟨w.heap.size + 1, 2, none⟩ (.string ⟨a.2.1.toArray⟩)).setCell ⟨w.heap.size + 1, 3, none⟩ (.int .i64 i)).setCell ⟨w.heap.size + 1, 4, none⟩ (.slice qo LO co)).heap.size = w4.heap.size := by simp
    have hb6 : Below lo (w4.setCell ⟨w.heap.size, 4, none⟩ (.slice qo LO co)) ((((((w4.setCell ⟨w.heap.size, 4, none⟩ (.slice qo LO co)).setCell ⟨w.heap.size + 1, 0, none⟩ (.int .i64 k)).setCell ⟨w.heap.size + 1, 1, none⟩ (.int .i64 p)).setCell ⟨w.heap.size + 1, 2, none⟩ (.string ⟨a.2.1.toArray⟩)).setCell ⟨w.heap.size + 1, 3, none⟩ (.int .i64 i)).setCell ⟨w.heap.size + 1, 4, none⟩ (.slice qo LO co)) := ZM (by have := HL.out; omega) [.int .i64 k, .int .i64 p, .string ⟨a.2.1.toArray⟩, .int .i64 i, .slice qo LO co] (w4.setCell ⟨w.heap.size, 4, none⟩ (.slice qo LO co)) 0; clear z0 z1 z2 z3 z4 r0 r1 r2 r3 r4 t0 t1 t2 t3 t4 c4 f4; generalize ((((((w4.setCell ⟨w.heap.size, 4, none⟩ (.slice qo LO co)).setCell ⟨w.heap.size + 1, 0, none⟩ (.int .i64 k)).setCell ⟨w.heap.size + 1, 1, none⟩ (.int .i64 p)).setCell ⟨w.heap.size + 1, 2, none⟩ (.string ⟨a.2.1.toArray⟩)).setCell ⟨w.heap.size + 1, 3, none⟩ (.int .i64 i)).setCell ⟨w.heap.size + 1, 4, none⟩ (.slice qo LO co)) = w6 at *; obtain ⟨r0, r1, r2, r3, r4⟩ := xR5 e6; refine jG (v := .agg #[.int .i64 k, .int .i64 p, .string ⟨a.2.1.toArray⟩, .int .i64 i, .slice qo LO co]) (by simp [results, Tryd.results74, go_sem, r0, r1, r2, r3, r4]) rfl ?_; have hx2 := ji H4; have hk5 : ∀ c, c ≠ w.heap.size -> c ≠ w.heap.size + 1 -> w6.heap[c]? = w4.heap[c]? := fun c h1 h2 => (mQ c h2).trans (jP w4 ⟨w.heap.size, 4, none⟩ _ c h1)
    have hfp : ∀ c, Fp b mt mh hv2 c -> c ≠ w.heap.size /\ c ≠ w.heap.size + 1 := fun c hc => ⟨fun e => K3.out (by rw [<- e]; exact hc), fun e => K4.out (by rw [<- e]; exact hc)⟩
    refine ⟨_, hv2, rfl, ?_, ?_, ?_⟩
    . rw [HG.out, Ot.out, <- jg]; exact G1.out.keep fun c _ hc => hk5 c (hfp c hc).1 (hfp c hc).2
    . have h9 := (H2.out.trans G2.out).set (g := w.heap.size) (j := 4) (.slice qo LO co) (jB _) HL.out; exact ⟨h9.below.trans hb6, fun c hc hn => (mQ c (by omega)).trans (h9.stay c hc hn), h9.own⟩
    . rw [HG.out]; intro u hu; refine ⟨_, rfl, ?_⟩; exact G3.out u fun c h1 h2 h3 => (hu c (by omega) (by omega) h3).trans (hk5 c (by omega) (by omega))
end Fr
namespace Fr
section
variable (lo b mt mh : Nat) (D : List Nm) (w : World) (hv : Value) (T : TypeId) (Z : Array Value)
structure wh (cells : Array Value) (wm : Value) (n : Nat) (ρ : Env) (hs : List (Nm × Nm)) (wr : World) : Prop where
 st : St wr lo b mt mh wm D n ρ hs
 Xz : Stp lo b mt mh hv wm w wr
 ex : wr.heap[w.heap.size]? = some (.cells cells T (0, 0))
 er : wr.heap[w.heap.size + 1]? = some (.cells Z T (0, 0))
 fx : ¬ Fp b mt mh wm w.heap.size
 fr : ¬ Fp b mt mh wm (w.heap.size + 1)
 lo : lo <= w.heap.size
variable {lo b mt mh D w hv T Z}
theorem wh.start {n : Nat} {ρ : Env} {hs : List (Nm × Nm)} (h : St w lo b mt mh hv D n ρ hs) (cells : Array Value) : wh lo b mt mh D w hv T Z cells hv n ρ hs ((w.alloc (.cells cells T)).alloc (.cells Z T)) := by
 have hb : Below w.heap.size w ((w.alloc (.cells cells T)).alloc (.cells Z T)) := ((jD _ _).alloc (jB _) _).alloc (by simp) _; refine ⟨h.below hb, Stp.of_below hb h.low.2.2.2, JA (jb w _ _) _, ?_, h.far (jB _), h.far (Nat.le_succ _), h.low.2.2.2⟩; have := jb (w.alloc (.cells cells T)) Z T
 rwa [Jt] at this
variable {cells : Array Value} {wm hv2 : Value} {n n2 : Nat} {ρ ρ2 : Env} {hs hs2 : List (Nm × Nm)} {wr w2 : World}
theorem wh.call (h : wh lo b mt mh D w hv T Z cells wm n ρ hs wr) (h1 : St w2 lo b mt mh hv2 D n2 ρ2 hs2) (h2 : Stp lo b mt mh wm hv2 wr w2) : wh lo b mt mh D w hv T Z cells hv2 n2 ρ2 hs2 w2 :=
 ⟨h1, h.Xz.trans h2, (h2.stay _ (ji h.ex) h.fx).trans h.ex, (h2.stay _ (ji h.er) h.fr).trans h.er, h2.fp (ji h.ex) h.fx, h2.fp (ji h.er) h.fr, h.lo⟩
theorem wh.store (h : wh lo b mt mh D w hv T Z cells wm n ρ hs wr) (j : Nat) (v : Value) : wh lo b mt mh D w hv T Z (cells.setIfInBounds j v) wm n ρ hs (wr.setCell ⟨w.heap.size, j, none⟩ v) :=
 ⟨h.st.set _ _ _ h.fx, h.Xz.set v (jB _) h.lo, Jf h.ex j v, (jP wr ⟨w.heap.size, j, none⟩ v (w.heap.size + 1) (by simp)).trans h.er, h.fx, h.fr, h.lo⟩
theorem wh.size (h : wh lo b mt mh D w hv T Z cells wm n ρ hs wr) : w.heap.size + 2 <= wr.heap.size := ji h.er
abbrev QB {α : Type} (b mt mh : Nat) (w : World) (Js : World -> Value -> α -> Prop) (wm : Value) (wr : World) (v : Value) (x : α) : Prop := Q4 Js (w.heap.size + 2) wr b mt mh wm v x
theorem QB.store {α : Type} {Js : World -> Value -> α -> Prop} {v : Value} {x : α} (h : QB b mt mh w Js wm wr v x) (j : Nat) (z : Value) : QB b mt mh w Js wm (wr.setCell ⟨w.heap.size, j, none⟩ z) v x :=
 Q4.keep h (by simp) fun c hc _ => jP wr ⟨w.heap.size, j, none⟩ z c (show c ≠ w.heap.size by omega)
theorem wh.fin (h : wh lo b mt mh D w hv T Z cells wm n ρ hs wr) (vals : List Value) (hl : vals.length = Z.size) :
 St (vY wr (w.heap.size + 1) 0 vals) lo b mt mh wm D n ρ hs /\ Stp lo b mt mh hv wm w (vY wr (w.heap.size + 1) 0 vals) /\ (vY wr (w.heap.size + 1) 0 vals).heap[w.heap.size + 1]? = some (.cells vals.toArray T (0, 0)) /\
 ∀ {α : Type} (Js : World -> Value -> α -> Prop) (v : Value) (x : α), QB b mt mh w Js wm wr v x -> Q4 Js w.heap.size (vY wr (w.heap.size + 1) 0 vals) b mt mh wm v x := by
 have hlo := h.lo; have hk : ∀ c, c ≠ w.heap.size + 1 -> (vY wr (w.heap.size + 1) 0 vals).heap[c]? = wr.heap[c]? := fun c hc => ZL _ _ _ _ c hc
 refine ⟨h.st.keep fun c _ hc => hk c fun e => h.fr (by rw [<- e]; exact hc), ⟨h.Xz.below.trans (ZM (by omega) _ _ _), fun c hc hn => (hk c (by omega)).trans (h.Xz.stay c hc hn), h.Xz.own⟩, ?_, fun {α} Js v x hn => ?_⟩
 . obtain ⟨cur, a1, a2, a3, a4⟩ := XE (E := T) vals wr 0 Z h.er (by omega); rw [a1]
   congr 2
   apply Array.ext_getElem?
   intro i; by_cases hi : i < vals.length
   . obtain ⟨z, hz⟩ : ∃ z, vals[i]? = some z := ⟨_, jA hi⟩
     have := a4 i z hz; rw [JN] at this; rw [this]; simp [hz]
   . rw [Vf (by omega), Vf (by simp; omega)]
 . exact (Q4.keep hn (by rw [Vp]; exact jB _) fun c hc _ => hk c (by omega)).base (by omega)
end
def GE (D : List Nm) (f : Nat) (x : Px.Expr) (n : Nat) (ρ : Env) : Nat × Px.Expr × Env := ((expr D f x n ρ).1, (expr D f x n ρ).2, ρ)
def GA (D : List Nm) (f : Nat) (a : Px.QJ × Px.Expr) (n : Nat) (ρ : Env) : Nat × (Px.QJ × Px.Expr) × Env :=
 ((expr D f a.2 (pat D f a.1 n ρ).1 (pat D f a.1 n ρ).2.2).1, ((pat D f a.1 n ρ).2.1, (expr D f a.2 (pat D f a.1 n ρ).1 (pat D f a.1 n ρ).2.2).2), ρ)
def noH {α : Type} (_ : α) (_ : Nat) (_ : Env) : List (Nm × Nm) := []
def GD (D : List Nm) (f : Nat) (d : Px.Def) (n : Nat) (ρ : Env) : Nat × Px.Def × Env :=
 ((expr D f d.body (qO (bnd D) d.params n ρ).1 (qO (bnd D) d.params n ρ).2.2).1, ⟨d.pos, d.name, (qO (bnd D) d.params n ρ).2.1, (expr D f d.body (qO (bnd D) d.params n ρ).1 (qO (bnd D) d.params n ρ).2.2).2⟩, ρ)
def cA (f : Nat) (a : Px.QJ × Px.Expr) : Nat := cP f a.1 + cE f a.2
def cD (f : Nat) (d : Px.Def) : Nat := d.params.length + cE f d.body
def jC2 (B f : Nat) (a : Px.QJ × Px.Expr) : Prop := Nn B f a.1 /\ mP B f a.2
def okD (B f : Nat) (d : Px.Def) : Prop := d.params.length <= 1000000 /\ (∀ s ∈ d.params, s.length <= B) /\ mP B f d.body
theorem Nq (D : List Nm) (f : Nat) (a : Px.QJ × Px.Expr) (n : Nat) (ρ : Env) : (GA D f a n ρ).1 <= n + (D.length + 1) * cA f a := by
 have h4 := Zy D f a.1 n ρ; have h5 := yK D f a.2 (pat D f a.1 n ρ).1 (pat D f a.1 n ρ).2.2; unfold cA; rw [JU]; show (expr D f a.2 _ _).1 <= _; omega
theorem Nr (D : List Nm) (f : Nat) (d : Px.Def) (n : Nat) (ρ : Env) : (GD D f d n ρ).1 <= n + (D.length + 1) * cD f d := by
 have h1 := Zg (bnd D) (D.length + 1) (fun _ => 1) (zz D) d.params n ρ; rw [Qj] at h1; have h5 := yK D f d.body (qO (bnd D) d.params n ρ).1 (qO (bnd D) d.params n ρ).2.2; unfold cD; rw [JU]; show (expr D f d.body _ _).1 <= _; omega
theorem eQ {α : Type} (c : α -> Nat) (x : α) (n : Nat) (ρ : Env) : (noH x n ρ).length <= c x := jh _
theorem Ns {f : Nat} {u : World} {v : Value} {x : Px.QJ × Px.Expr} (h : vo (qj f u) (JB f u) v x) : ∃ (k1 p1 : Int) (s1 : ByteArray) (i1 : Int) (q1 : Option Addr) (n1 c1 : Nat) (k2 p2 : Int) (s2 : ByteArray) (i2 : Int) (q2 : Option Addr) (n2 c2 : Nat) (q3 : Option Addr) (n3 c3 : Nat) (q4 : Option Addr) (n4 c4 : Nat),
 v = .agg #[.int .i64 k1, .int .i64 p1, .string s1, .int .i64 i1, .slice q1 n1 c1, .int .i64 k2, .int .i64 p2, .string s2, .int .i64 i2, .slice q2 n2 c2, .slice q3 n3 c3, .slice q4 n4 c4] /\
 qj f u (.agg #[.int .i64 k1, .int .i64 p1, .string s1, .int .i64 i1, .slice q1 n1 c1]) x.1 /\ JB f u (.agg #[.int .i64 k2, .int .i64 p2, .string s2, .int .i64 i2, .slice q2 n2 c2, .slice q3 n3 c3, .slice q4 n4 c4]) x.2 := by
 obtain ⟨a0, a1, a2, a3, a4, b0, b1, b2, b3, b4, b5, b6, rfl, h1, h2⟩ := h; obtain ⟨k1, p1, s1, i1, q1, n1, c1, e1⟩ := yT h1; obtain ⟨k2, p2, s2, i2, q2, n2, c2, q3, n3, c3, q4, n4, c4, e2⟩ := zw h2
 injection e1 with e1
 injection e2 with e2
 simp only [Z0, zh, dE] at e1 e2; obtain ⟨rfl, rfl, rfl, rfl, rfl⟩ := e1; obtain ⟨rfl, rfl, rfl, rfl, rfl, rfl, rfl⟩ := e2; exact ⟨_, _, _, _, _, _, _, _, _, _, _, _, _, _, _, _, _, _, _, _, rfl, h1, h2⟩
theorem Vq (f : Nat) (u : World) (v : Value) (x : Px.Expr) (h : JB f u v x) : Fr.qH v := by
 obtain ⟨a0, a1, a2, a3, q4, n4, c4, q5, n5, c5, q6, n6, c6, e⟩ := zw h; exact ⟨a0, a1, a2, a3, q4, n4, c4, q5, n5, c5, q6, n6, c6, e⟩
theorem BP (f : Nat) (u : World) (v : Value) (x : Px.QJ × Px.Expr) (h : vo (qj f u) (JB f u) v x) : Fr.BL v := by
 obtain ⟨k1, p1, s1, i1, q1, n1, c1, k2, p2, s2, i2, q2, n2, c2, q3, n3, c3, q4, n4, c4, e, _⟩ := Ns h; exact ⟨k1, p1, s1, i1, q1, n1, c1, k2, p2, s2, i2, q2, n2, c2, q3, n3, c3, q4, n4, c4, e⟩
theorem BQ (f : Nat) (u : World) (v : Value) (x : Px.Def) (h : ZC f u v x) : Fr.xR v := by
 obtain ⟨q0, c0, k, p, sn, i, q1, n1, c1, q2, n2, c2, q3, n3, c3, e, _⟩ := zm h; exact ⟨_, _, _, _, _, _, _, _, _, _, _, _, _, _, _, _, _, _, e⟩
end Fr
namespace Fr
variable {lo b mt mh : Nat} {D : List Nm}
theorem Td {w0 : World} (hlo0 : w0.heap.size = lo) (htab : ∀ w, Below lo w0 w -> mO w) (hD : D.length <= 1000000) (B : Nat) (hB : B <= 3000000000) (f : Nat)
 (jC3 : NP w0 lo b mt mh D 34 (JB f w0) (JB f) (GE D f) noH (cE f) (mP B f)) :
 NP w0 lo b mt mh D 56 (vo (qj f w0) (JB f w0)) (fun u => vo (qj f u) (JB f u)) (GA D f) noH (cA f) (jC2 B f) := by
 intro x v w hv n ρ hs hr hok hb hS hn hh; obtain ⟨k1, p1, s1, i1, q1, n1, c1, k2, p2, s2, i2, q2, n2, c2, q3, n3, c3, q4, n4, c4, rfl, hx1, hx2⟩ := Ns hr; clear hr; unfold cA at hn hh; have jC4 := Np (b := b) (mt := mt) (mh := mh) (D := D) hlo0 htab hD B hB f; obtain ⟨hq, hc, Iw⟩ := jH hS.hid; subst Iw; obtain ⟨w1, hw1⟩ : ∃ w1, w1 = (w.alloc (.cells #[.int .i64 k1, .int .i64 p1, .string s1, .int .i64 i1, .slice q1 n1 c1, .int .i64 k2, .int .i64 p2, .string s2, .int .i64 i2, .slice q2 n2 c2, .slice q3 n3 c3, .slice q4 n4 c4] 87)).alloc (.cells #[.int .i64 0, .int .i64 0, .string ⟨#[]⟩, .int .i64 0, .slice none 0 0, .int .i64 0, .int .i64 0, .string ⟨#[]⟩, .int .i64 0, .slice none 0 0, .slice none 0 0, .slice none 0 0] 87) := ⟨_, rfl⟩
 have hF : wh lo b mt mh D w (.slice hq hs.length hc) 87 #[.int .i64 0, .int .i64 0, .string ⟨#[]⟩, .int .i64 0, .slice none 0 0, .int .i64 0, .int .i64 0, .string ⟨#[]⟩, .int .i64 0, .slice none 0 0, .slice none 0 0, .slice none 0 0] #[.int .i64 k1, .int .i64 p1, .string s1, .int .i64 i1, .slice q1 n1 c1, .int .i64 k2, .int .i64 p2, .string s2, .int .i64 i2, .slice q2 n2 c2, .slice q3 n3 c3, .slice q4 n4 c4] (.slice hq hs.length hc) n ρ hs w1 := by rw [hw1]; exact wh.start hS _
 have F1 := hid hF; have y3 := jK hF.st.uH 3 _ rfl; rw [hw1] at y3; obtain ⟨y0, y1, y2, y4, y5⟩ := xR5 hF.ex; have Yl := hid hx1; have kT := hid hx2; have ve := hid hok; have HB := hid hb; have HN := hid hn; have HH := hid hh; have PT := hid jC4; have jFB := hid jC3
 clear hx1 hx2 hok hb hS hn hh jC4 jC3 hF htab hlo0 hD hB; go_enter Tryd.func56, Tryd.ntmps56; go_wp2_with fail; rw [<- hw1]; clear hw1 y0 y1 y2 y3 y4 y5; have Iy := HN.out; rw [JU] at Iy; refine (PT.out x.1 _ w1 _ n ρ hs Yl.out ve.out.1 (HB.out.trans F1.out.Xz.below) F1.out.st (by omega) (by have := HH.out; omega)).mono ?_; clear Iy; rintro e w2 ⟨out, hv1, rfl, g1, g2, g3⟩; obtain ⟨dk1, Nt, ds1, Nu, XG, XH, XI, rfl⟩ := XF f w2 out _ g3.now; have G3 := hid (Q4.base g3 F1.out.size : QB b mt mh w (fun u => qj f u) hv1 w2 _ _); have F2 := hid (F1.out.call g1 g2); clear g1 g2 g3; obtain ⟨c0, c1', c2', c3', OD⟩ := xR5 F2.out.ex; have f0 := jX F2.out.ex 0; have f1 := jX F2.out.ex 1; have f2 := jX F2.out.ex 2; have f3 := jX F2.out.ex 3; have f4 := jX F2.out.ex 4
 have FC := (((((F2.out.store 0 (.int .i64 dk1)).store 1 (.int .i64 Nt)).store 2 (.string ds1)).store 3 (.int .i64 Nu)).store 4 (.slice XG XH XI)); have jC5 := (QB.store (QB.store (QB.store (QB.store (QB.store G3 0 (.int .i64 dk1)) 1 (.int .i64 Nt)) 2 (.string ds1)) 3 (.int .i64 Nu)) 4 (.slice XG XH XI)); simp only [jd, JF, JE] at FC; have F3 := hid FC; have N3 := hid jC5
 have y0 := jK FC.ex 5 _ rfl; have y1 := jK FC.ex 6 _ rfl; have y2 := jK FC.ex 7 _ rfl; have y3 := jK FC.ex 8 _ rfl; have y4 := jK FC.ex 9 _ rfl; have y5 := jK FC.ex 10 _ rfl; have y6 := jK FC.ex 11 _ rfl; clear FC jC5; go_wp2_with fail; clear c0 c1' c2' c3' OD f0 f1 f2 f3 f4 y0 y1 y2 y3 y4 y5 y6; generalize (((((w2.setCell ⟨w.heap.size, 0, none⟩ (.int .i64 dk1)).setCell ⟨w.heap.size, 1, none⟩ (.int .i64 Nt)).setCell ⟨w.heap.size, 2, none⟩ (.string ds1)).setCell ⟨w.heap.size, 3, none⟩ (.int .i64 Nu)).setCell ⟨w.heap.size, 4, none⟩ (.slice XG XH XI)) = w3 at F3 N3 ⊢
 have BN : (pat D f x.1 n ρ).1 + (D.length + 1) * cE f x.2 <= 1000000000 := by
  have h1 := HN.out; have h2 := Zy D f x.1 n ρ; rw [JU] at h1; omega
 have BO : (hs ++ vX D f x.1 n ρ).length + cE f x.2 <= 100000000 := by
  have h1 := HH.out; have h2 := Ki D f x.1 n ρ; rw [jE]; omega
 have HB2 := hid (show (hs ++ vX D f x.1 n ρ).length <= 100000000 by omega); refine (jFB.out x.2 _ w3 _ _ _ _ kT.out ve.out.2 (HB.out.trans F3.out.Xz.below) F3.out.st BN BO).mono ?_; clear BN BO; rintro e w4 ⟨Te, hv2, rfl, g1, g2, g3⟩; obtain ⟨dk2, X0, X3, X4, V6, V7, V8, V9, uA, uB, X5, X6, X7, rfl⟩ := Vq f w4 Te _ g3.now; have g4 : St w4 lo b mt mh hv2 D (expr D f x.2 (pat D f x.1 n ρ).1 (pat D f x.1 n ρ).2.2).1 (pat D f x.1 n ρ).2.2 (hs ++ vX D f x.1 n ρ) := by simpa [GE, noH] using g1
 have N4 := hid (Q4.step N3 g2 : QB b mt mh w (fun u => qj f u) hv2 w4 _ _); have G4 := hid (Q4.base g3 F3.out.size : QB b mt mh w (fun u => JB f u) hv2 w4 _ _); have F4 := hid (F3.out.call g4 g2); clear g1 g2 g3 g4; have e0 := jK F4.out.ex 5 _ rfl; have e1 := jK F4.out.ex 6 _ rfl; have e2 := jK F4.out.ex 7 _ rfl; have e3 := jK F4.out.ex 8 _ rfl; have e4 := jK F4.out.ex 9 _ rfl; have e5 := jK F4.out.ex 10 _ rfl; have e6 := jK F4.out.ex 11 _ rfl; have f0 := jX F4.out.ex 5; have f1 := jX F4.out.ex 6; have f2 := jX F4.out.ex 7; have f3 := jX F4.out.ex 8; have f4 := jX F4.out.ex 9; have f5 := jX F4.out.ex 10; have f6 := jX F4.out.ex 11
 have wu := (((((((F4.out.store 5 (.int .i64 dk2)).store 6 (.int .i64 X0)).store 7 (.string X3)).store 8 (.int .i64 X4)).store 9 (.slice V6 V7 V8)).store 10 (.slice V9 uA uB)).store 11 (.slice X5 X6 X7)); have jC6 := (QB.store (QB.store (QB.store (QB.store (QB.store (QB.store (QB.store N4 5 (.int .i64 dk2)) 6 (.int .i64 X0)) 7 (.string X3)) 8 (.int .i64 X4)) 9 (.slice V6 V7 V8)) 10 (.slice V9 uA uB)) 11 (.slice X5 X6 X7)); have jC7 := (QB.store (QB.store (QB.store (QB.store (QB.store (QB.store (QB.store G4 5 (.int .i64 dk2)) 6 (.int .i64 X0)) 7 (.string X3)) 8 (.int .i64 X4)) 9 (.slice V6 V7 V8)) 10 (.slice V9 uA uB)) 11 (.slice X5 X6 X7)); simp only [jd, JF, JE] at wu; have F5 := hid wu; have N5 := hid jC6; have G5 := hid jC7
 clear wu jC6 jC7; go_wp2_with fail; clear e0 f0 e1 f1 e2 f2 e3 f3 e4 f4 e5 f5 e6 f6; generalize (((((((w4.setCell ⟨w.heap.size, 5, none⟩ (.int .i64 dk2)).setCell ⟨w.heap.size, 6, none⟩ (.int .i64 X0)).setCell ⟨w.heap.size, 7, none⟩ (.string X3)).setCell ⟨w.heap.size, 8, none⟩ (.int .i64 X4)).setCell ⟨w.heap.size, 9, none⟩ (.slice V6 V7 V8)).setCell ⟨w.heap.size, 10, none⟩ (.slice V9 uA uB)).setCell ⟨w.heap.size, 11, none⟩ (.slice X5 X6 X7)) = w5 at F5 N5 G5 ⊢; refine (U3 w5 _ _ _ hs (vX D f x.1 n ρ) F5.out.st HB2).mono ?_; rintro e w6 ⟨rfl, hv3, g1, g2⟩; rw [wF] at g1; have N6 := hid (Q4.step N5 g2 : QB b mt mh w (fun u => qj f u) hv3 w6 _ _); have G6 := hid (Q4.step G5 g2 : QB b mt mh w (fun u => JB f u) hv3 w6 _ _); have F6 := hid (F5.out.call g1 g2); clear g1 g2; obtain ⟨z0, z1, z2, z3, z4, z5, z6, z7, z8, z9, jFC, jFD⟩ := xR12 F6.out.ex; obtain ⟨r0, r1, r2, r3, r4, r5, r6, r7, r8, r9, Af, Ag⟩ := xR12 F6.out.er; have t0 := jX F6.out.er 0; have t1 := jX F6.out.er 1; have t2 := jX F6.out.er 2; have t3 := jX F6.out.er 3; have t4 := jX F6.out.er 4; have t5 := jX F6.out.er 5; have t6 := jX F6.out.er 6; have t7 := jX F6.out.er 7; have t8 := jX F6.out.er 8; have t9 := jX F6.out.er 9; have t10 := jX F6.out.er 10; have t11 := jX F6.out.er 11
 go_wp2_with fail; clear z0 r0 t0 z1 r1 t1 z2 r2 t2 z3 r3 t3 z4 r4 t4 z5 r5 t5 z6 r6 t6 z7 r7 t7 z8 r8 t8 z9 r9 t9 jFC Af t10 jFD Ag t11; have hfin : St ((((((((((((w6.setCell ⟨w.heap.size + 1, 0, none⟩ (.int .i64 dk1)).setCell ⟨w.heap.size + 1, 1, none⟩ (.int .i64 Nt)).setCell ⟨w.heap.size + 1, 2, none⟩ (.string ds1)).setCell ⟨w.heap.size + 1, 3, none⟩ (.int .i64 Nu)).setCell ⟨w.heap.size + 1, 4, none⟩ (.slice XG XH XI)).setCell ⟨w.heap.size + 1, 5, none⟩ (.int .i64 dk2)).setCell ⟨w.heap.size + 1, 6, none⟩ (.int .i64 X0)).setCell ⟨w.heap.size + 1, 7, none⟩ (.string X3)).setCell ⟨w.heap.size + 1, 8, none⟩ (.int .i64 X4)).setCell ⟨w.heap.size + 1, 9, none⟩ (.slice V6 V7 V8)).setCell ⟨w.heap.size + 1, 10, none⟩ (.slice V9 uA uB)).setCell ⟨w.heap.size + 1, 11, none⟩ (.slice X5 X6 X7)) lo b mt mh _ D _ _ _ /\ Stp lo b mt mh _ _ w ((((((((((((w6.setCell ⟨w.heap.size + 1, 0, none⟩ (.int .i64 dk1)).setCell ⟨w.heap.size + 1, 1, none⟩ (.int .i64 Nt)).setCell ⟨w.heap.size + 1, 2, none⟩ (.string ds1)).setCell ⟨w.heap.size + 1, 3, none⟩ (.int .i64 Nu)).setCell ⟨w.heap.size + 1, 4, none⟩ (.slice XG XH XI)).setCell ⟨w.heap.size + 1, 5, none⟩ (.int .i64 dk2)).setCell ⟨w.heap.size + 1, 6, none⟩ (.int .i64 X0)).setCell ⟨w.heap.size + 1, 7, none⟩ (.string X3)).setCell ⟨w.heap.size + 1, 8, none⟩ (.int .i64 X4)).setCell ⟨w.heap.size + 1, 9, none⟩ (.slice V6 V7 V8)).setCell ⟨w.heap.size + 1, 10, none⟩ (.slice V9 uA uB)).setCell ⟨w.heap.size + 1, 11, none⟩ (.slice X5 X6 X7)) /\ ((((((((((((w6.setCell ⟨w.heap.size + 1, 0, none⟩ (.int .i64 dk1)).setCell ⟨w.heap.size + 1, 1, none⟩ (.int .i64 Nt)).setCell ⟨w.heap.size + 1, 2, none⟩ (.string ds1)).setCell ⟨w.heap.size + 1, 3, none⟩ (.int .i64 Nu)).setCell ⟨w.heap.size + 1, 4, none⟩ (.slice XG XH XI)).setCell ⟨w.heap.size + 1, 5, none⟩ (.int .i64 dk2)).setCell ⟨w.heap.size + 1, 6, none⟩ (.int .i64 X0)).setCell ⟨w.heap.size + 1, 7, none⟩ (.string X3)).setCell ⟨w.heap.size + 1, 8, none⟩ (.int .i64 X4)).setCell ⟨w.heap.size + 1, 9, none⟩ (.slice V6 V7 V8)).setCell ⟨w.heap.size + 1, 10, none⟩ (.slice V9 uA uB)).setCell ⟨w.heap.size + 1, 11, none⟩ (.slice X5 X6 X7)).heap[w.heap.size + 1]? = some (.cells #[.int .i64 dk1, .int .i64 Nt, .string ds1, .int .i64 Nu, .slice XG XH XI, .int .i64 dk2, .int .i64 X0, .string X3, .int .i64 X4, .slice V6 V7 V8, .slice V9 uA uB, .slice X5 X6 X7] 87 (0, 0)) /\ ∀ {α : Type} (Js : World -> Value -> α -> Prop) (v : Value) (x : α), QB b mt mh w Js _ w6 v x -> Q4 Js w.heap.size ((((((((((((w6.setCell ⟨w.heap.size + 1, 0, none⟩ (.int .i64 dk1)).setCell ⟨w.heap.size + 1, 1, none⟩ (.int .i64 Nt)).setCell ⟨w.heap.size + 1, 2, none⟩ (.string ds1)).setCell ⟨w.heap.size + 1, 3, none⟩ (.int .i64 Nu)).setCell ⟨w.heap.size + 1, 4, none⟩ (.slice XG XH XI)).setCell ⟨w.heap.size + 1, 5, none⟩ (.int .i64 dk2)).setCell ⟨w.heap.size + 1, 6, none⟩ (.int .i64 X0)).setCell ⟨w.heap.size + 1, 7, none⟩ (.string X3)).setCell ⟨w.heap.size + 1, 8, none⟩ (.int .i64 X4)).setCell ⟨w.heap.size + 1, 9, none⟩ (.slice V6 V7 V8)).setCell ⟨w.heap.size + 1, 10, none⟩ (.slice V9 uA uB)).setCell ⟨w.heap.size + 1, 11, none⟩ (.slice X5 X6 X7)) b mt mh _ v x := F6.out.fin [.int .i64 dk1, .int .i64 Nt, .string ds1, .int .i64 Nu, .slice XG XH XI, .int .i64 dk2, .int .i64 X0, .string X3, .int .i64 X4, .slice V6 V7 V8, .slice V9 uA uB, .slice X5 X6 X7] rfl
 generalize ((((((((((((w6.setCell ⟨w.heap.size + 1, 0, none⟩ (.int .i64 dk1)).setCell ⟨w.heap.size + 1, 1, none⟩ (.int .i64 Nt)).setCell ⟨w.heap.size + 1, 2, none⟩ (.string ds1)).setCell ⟨w.heap.size + 1, 3, none⟩ (.int .i64 Nu)).setCell ⟨w.heap.size + 1, 4, none⟩ (.slice XG XH XI)).setCell ⟨w.heap.size + 1, 5, none⟩ (.int .i64 dk2)).setCell ⟨w.heap.size + 1, 6, none⟩ (.int .i64 X0)).setCell ⟨w.heap.size + 1, 7, none⟩ (.string X3)).setCell ⟨w.heap.size + 1, 8, none⟩ (.int .i64 X4)).setCell ⟨w.heap.size + 1, 9, none⟩ (.slice V6 V7 V8)).setCell ⟨w.heap.size + 1, 10, none⟩ (.slice V9 uA uB)).setCell ⟨w.heap.size + 1, 11, none⟩ (.slice X5 X6 X7)) = w9 at hfin ⊢; obtain ⟨f1, f2, e6, f4⟩ := hfin; obtain ⟨r0, r1, r2, r3, r4, r5, r6, r7, r8, r9, Af, Ag⟩ := xR12 e6; refine jG (v := .agg #[.int .i64 dk1, .int .i64 Nt, .string ds1, .int .i64 Nu, .slice XG XH XI, .int .i64 dk2, .int .i64 X0, .string X3, .int .i64 X4, .slice V6 V7 V8, .slice V9 uA uB, .slice X5 X6 X7]) (by simp [results, Tryd.results56, go_sem, r0, r1, r2, r3, r4, r5, r6, r7, r8, r9, Af, Ag]) rfl ?_; refine ⟨_, hv3, rfl, ?_, f2, fun u hu => ?_⟩
 . unfold noH; rw [Jl]; exact f1
 . exact ⟨_, _, _, _, _, _, _, _, _, _, _, _, rfl, f4 (fun u => qj f u) _ _ N6.out u hu, f4 (fun u => JB f u) _ _ G6.out u hu⟩
end Fr
namespace Fr
variable {lo b mt mh : Nat} {D : List Nm}
theorem WA {α : Type} {w0 : World} (hlo0 : w0.heap.size = lo) (F : FuncId) (hent : ∀ args w, (callFunc F args).run Tryd.prog w = .ok (.enter F args) w) (Qy : Value -> α -> Prop) (Qs : World -> Value -> α -> Prop) (hIs : ∀ v x, Qy v x -> qH v) (fu : ∀ u v x, Qs u v x -> qH v)
 (G : α -> Nat -> Env -> Nat × α × Env) (H : α -> Nat -> Env -> List (Nm × Nm)) (c : α -> Nat) (ok : α -> Prop) (hF : NP w0 lo b mt mh D F Qy Qs G H c ok) (hle : ∀ x n ρ, (G x n ρ).1 <= n + (D.length + 1) * c x) (hln : ∀ x n ρ, (H x n ρ).length <= c x)
 (xs : List α) (lv : Value) (w : World) (hv : Value) (n : Nat) (ρ : Env) (hs : List (Nm × Nm)) (hr : JO 7 Qy w0 lv xs) (hok : ∀ x ∈ xs, ok x) (hxs : xs.length <= 1000000) (hb : Below lo w0 w) (hS : St w lo b mt mh hv D n ρ hs) (hn : n + (D.length + 1) * (xs.map c).sum <= 1000000000) (hh : hs.length + (xs.map c).sum <= 100000000) :
 Calls Tryd.prog 54 #[lv, .func (.func F) #[.pointer (some ⟨b, 0, none⟩)] #[]] w (VQ lo b mt mh D (fun u v l => JO 7 (Qs u) u v l) (qO G) (hst G H) w hv n ρ hs xs) := by
 obtain ⟨q, cp, rfl⟩ := hr.len; have HR := hid hr; have ve := hid hok; have Re := hid hxs; have HB := hid hb; have HS := hid hS; have HN := hid hn; have HH := hid hh; have HF := hid hF; have Yn := hid hle; have eP := hid hln; have HIS := hid hIs; have Rf := hid fu; have UD := hid hlo0
 clear hr hok hxs hb hS hn hh hF hle hln hIs fu hlo0; go_enter Tryd.func54, Tryd.ntmps54; go_wp2_with fail; refine (Xx Qy HIS _ xs w (HR.out.mono (by rw [UD.out]; exact HB.out) (fun _ _ _ h => h)) Re).mono ?_; rintro e wc ⟨v', Rh, rfl, ho, hrep, hsz, hbc⟩; obtain ⟨p1, c1, rfl⟩ := jH ho
 have hstart : Hid ((xs = [] /\ Below w.heap.size w wc) \/ ∃ g, p1 = some ⟨g, 0, none⟩ /\ g < wc.heap.size /\ w.heap.size <= g /\ xs.length <= c1 /\ (c1 : Int) <= 9223372036854775807 /\ ∃ YC us, zo lo b mt mh D 38 7 g wc.heap.size Qy Qs G H w hv n ρ hs xs 0 YC us wc) := by
  refine hid ?_
  rcases ho.2 with ⟨_, h0⟩ | ⟨g, cap, cur, hv2, _⟩
  . exact .inl ⟨JP h0, hbc⟩
  . injection hv2 with e1 _ e2
    subst e1; subst e2
    obtain ⟨k1, k2, k3, k4⟩ := VT ho hsz hrep.len; exact .inr ⟨g, rfl, k1.lt, k2, k3, k4, hv, Rh, zo.start HS hbc k1 k2 hrep⟩
 have HLEN := hid hrep.len; clear ho hrep hsz hbc; go_wp2_with fail
 go_loopw [11] (fun j wr => ∃ m : Nat, j = .int .i64 m /\ m <= xs.length /\ Hid ((xs = [] /\ Below w.heap.size w wr) \/ ∃ g, p1 = some ⟨g, 0, none⟩ /\ g < wc.heap.size /\ w.heap.size <= g /\ xs.length <= c1 /\ (c1 : Int) <= 9223372036854775807 /\ ∃ YC us, zo lo b mt mh D 38 7 g wc.heap.size Qy Qs G H w hv n ρ hs xs m YC us wr)) (fun j _ => xs.length - (intOf j).toNat)
 case atStart => exact ⟨0, rfl, jh _, hstart⟩
 case round =>
  clear hstart; obtain ⟨m, rfl, hm, HI⟩ := hrel; by_cases hlt : m < xs.length
  case neg =>
   obtain rfl : m = xs.length := by omega
   have hk4 : ¬ (xs.length : Int) < (xs.length : Int) := by omega
   go_wp2_with fail; go_ret
   rcases HI.out with ⟨h0, hbr⟩ | ⟨g, rfl, hgB, hgw, hc1, hc2, YC, us, hI⟩
   . subst h0; exact Yz HS hbr
   . exact hI.done hgB hgw hc1 hc2
  rcases HI.out with ⟨h0, hbr⟩ | ⟨g, rfl, hgB, hgw, hc1, hc2, YC, us, hI⟩
  . rw [h0] at hlt; simp at hlt
  obtain ⟨y, hy⟩ : ∃ y, xs[m]? = some y := ⟨_, jA hlt⟩
  obtain ⟨u, hu⟩ : ∃ u, us[m]? = some u := ⟨_, jA (by rw [hI.len]; exact hlt)⟩
  have hin := hI.ins m u y (jB _) hu hy; obtain ⟨r1, r2⟩ := Yy (D := D) (ρ := ρ) Yn eP HN HH hy; obtain ⟨a0, a1, a2, a3, p4, n4, c4, p5, n5, c5, p6, n6, c6, rfl⟩ := HIS.out _ _ hin; have Nl : Below wr.heap.size wr (wr.alloc (.cells #[.int .i64 a0, .int .i64 a1, .string a2, .int .i64 a3, .slice p4 n4 c4, .slice p5 n5 c5, .slice p6 n6 c6] 38)) := (jD _ _).alloc (jB _) _; have hI2 := hI.below Nl hgB; clear Nl; have HC := hid (HF.out y _ (wr.alloc (.cells #[.int .i64 a0, .int .i64 a1, .string a2, .int .i64 a3, .slice p4 n4 c4, .slice p5 n5 c5, .slice p6 n6 c6] 38)) YC _ _ _ hin (ve.out y (jI hy)) (HB.out.trans hI2.Xz.below) hI2.st r1 r2); have d0 := hI.half.cell hu 0 _ rfl; have d1 := hI.half.cell hu 1 _ rfl; have d2 := hI.half.cell hu 2 _ rfl; have d3 := hI.half.cell hu 3 _ rfl; have d4 := hI.half.cell hu 4 _ rfl; have d5 := hI.half.cell hu 5 _ rfl; have d6 := hI.half.cell hu 6 _ rfl
  simp only [jZ, qX] at d0; have U5 := hid hI2; have HY := hid hy; have HU := hid hu; have HG := hid (⟨hgB, hgw, hc1, hc2⟩ : g < wc.heap.size /\ w.heap.size <= g /\ xs.length <= c1 /\ (c1 : Int) <= 9223372036854775807)
  have hk1 : (m : Int) < (xs.length : Int) := by omega
  have hk2 : (xs.length : Int) <= (c1 : Int) := by omega
  have hk3 := hc2; clear hin r1 r2 hy hu hI hI2 hgB hgw hc1 hc2 HI; go_wp2_with fail; clear d0 d1 d2 d3 d4 d5 d6; refine HC.out.mono ?_; rintro e w2 ⟨out, hv2, rfl, h1, h2, h3⟩; obtain ⟨Ab, Ac, jBX, Ad, jBY, jBZ, jC0, jI6, jI7, jI8, jI9, jIA, jIB, rfl⟩ := Rf.out _ _ _ h3.now; have hnext := U5.out.next HG.out.1 HG.out.2.1 (jS HS.out.low.2.2.2 HG.out.2.1) HY.out (by rfl) h1 h2 h3; have hf2 := U5.out.half.keep (h2.stay g (Jo HG.out.1 U5.out.big) U5.out.gf); have hu := HU.out; have e0 := hf2.cell hu 0 _ rfl; have e1 := hf2.cell hu 1 _ rfl; have e2 := hf2.cell hu 2 _ rfl; have e3 := hf2.cell hu 3 _ rfl; have e4 := hf2.cell hu 4 _ rfl; have e5 := hf2.cell hu 5 _ rfl; have e6 := hf2.cell hu 6 _ rfl
  have f0 := hf2.free (m * 7 + 0); have f1 := hf2.free (m * 7 + 1); have f2 := hf2.free (m * 7 + 2); have f3 := hf2.free (m * 7 + 3); have f4 := hf2.free (m * 7 + 4); have f5 := hf2.free (m * 7 + 5); have f6 := hf2.free (m * 7 + 6)
  simp only [jZ, qX] at e0 f0; have dX := hid hnext; clear hnext hf2 hu h1 h2 h3 HC; go_wp2_with fail
  go_roundw
  case rel => exact ⟨m + 1, by go_num, by omega, hid (.inr ⟨g, rfl, HG.out.1, HG.out.2.1, HG.out.2.2.1, HG.out.2.2.2, hv2, _, dX.out⟩)⟩
  case measure => simp [intOf]; omega
end Fr
namespace Fr
variable {lo b mt mh : Nat} {D : List Nm}
theorem BR {α : Type} {w0 : World} (hlo0 : w0.heap.size = lo) (F : FuncId) (hent : ∀ args w, (callFunc F args).run Tryd.prog w = .ok (.enter F args) w) (Qy : Value -> α -> Prop) (Qs : World -> Value -> α -> Prop) (hIs : ∀ v x, Qy v x -> BL v) (fu : ∀ u v x, Qs u v x -> BL v)
 (G : α -> Nat -> Env -> Nat × α × Env) (H : α -> Nat -> Env -> List (Nm × Nm)) (c : α -> Nat) (ok : α -> Prop) (hF : NP w0 lo b mt mh D F Qy Qs G H c ok) (hle : ∀ x n ρ, (G x n ρ).1 <= n + (D.length + 1) * c x) (hln : ∀ x n ρ, (H x n ρ).length <= c x)
 (xs : List α) (lv : Value) (w : World) (hv : Value) (n : Nat) (ρ : Env) (hs : List (Nm × Nm)) (hr : JO 12 Qy w0 lv xs) (hok : ∀ x ∈ xs, ok x) (hxs : xs.length <= 1000000) (hb : Below lo w0 w) (hS : St w lo b mt mh hv D n ρ hs) (hn : n + (D.length + 1) * (xs.map c).sum <= 1000000000) (hh : hs.length + (xs.map c).sum <= 100000000) :
 Calls Tryd.prog 55 #[lv, .func (.func F) #[.pointer (some ⟨b, 0, none⟩)] #[]] w (VQ lo b mt mh D (fun u v l => JO 12 (Qs u) u v l) (qO G) (hst G H) w hv n ρ hs xs) := by
 obtain ⟨q, cp, rfl⟩ := hr.len; have HR := hid hr; have ve := hid hok; have Re := hid hxs; have HB := hid hb; have HS := hid hS; have HN := hid hn; have HH := hid hh; have HF := hid hF; have Yn := hid hle; have eP := hid hln; have HIS := hid hIs; have Rf := hid fu; have UD := hid hlo0
 clear hr hok hxs hb hS hn hh hF hle hln hIs fu hlo0; go_enter Tryd.func55, Tryd.ntmps55; go_wp2_with fail; refine (wW Qy HIS _ xs w (HR.out.mono (by rw [UD.out]; exact HB.out) (fun _ _ _ h => h)) Re).mono ?_; rintro e wc ⟨v', Rh, rfl, ho, hrep, hsz, hbc⟩; obtain ⟨p1, c1, rfl⟩ := jH ho
 have hstart : Hid ((xs = [] /\ Below w.heap.size w wc) \/ ∃ g, p1 = some ⟨g, 0, none⟩ /\ g < wc.heap.size /\ w.heap.size <= g /\ xs.length <= c1 /\ (c1 : Int) <= 9223372036854775807 /\ ∃ YC us, zo lo b mt mh D 87 12 g wc.heap.size Qy Qs G H w hv n ρ hs xs 0 YC us wc) := by
  refine hid ?_
  rcases ho.2 with ⟨_, h0⟩ | ⟨g, cap, cur, hv2, _⟩
  . exact .inl ⟨JP h0, hbc⟩
  . injection hv2 with e1 _ e2
    subst e1; subst e2
    obtain ⟨k1, k2, k3, k4⟩ := VT ho hsz hrep.len; exact .inr ⟨g, rfl, k1.lt, k2, k3, k4, hv, Rh, zo.start HS hbc k1 k2 hrep⟩
 have HLEN := hid hrep.len; clear ho hrep hsz hbc; go_wp2_with fail
 go_loopw [11] (fun j wr => ∃ m : Nat, j = .int .i64 m /\ m <= xs.length /\ Hid ((xs = [] /\ Below w.heap.size w wr) \/ ∃ g, p1 = some ⟨g, 0, none⟩ /\ g < wc.heap.size /\ w.heap.size <= g /\ xs.length <= c1 /\ (c1 : Int) <= 9223372036854775807 /\ ∃ YC us, zo lo b mt mh D 87 12 g wc.heap.size Qy Qs G H w hv n ρ hs xs m YC us wr)) (fun j _ => xs.length - (intOf j).toNat)
 case atStart => exact ⟨0, rfl, jh _, hstart⟩
 case round =>
  clear hstart; obtain ⟨m, rfl, hm, HI⟩ := hrel; by_cases hlt : m < xs.length
  case neg =>
   obtain rfl : m = xs.length := by omega
   have hk4 : ¬ (xs.length : Int) < (xs.length : Int) := by omega
   go_wp2_with fail; go_ret
   rcases HI.out with ⟨h0, hbr⟩ | ⟨g, rfl, hgB, hgw, hc1, hc2, YC, us, hI⟩
   . subst h0; exact Yz HS hbr
   . exact hI.done hgB hgw hc1 hc2
  rcases HI.out with ⟨h0, hbr⟩ | ⟨g, rfl, hgB, hgw, hc1, hc2, YC, us, hI⟩
  . rw [h0] at hlt; simp at hlt
  obtain ⟨y, hy⟩ : ∃ y, xs[m]? = some y := ⟨_, jA hlt⟩
  obtain ⟨u, hu⟩ : ∃ u, us[m]? = some u := ⟨_, jA (by rw [hI.len]; exact hlt)⟩
  have hin := hI.ins m u y (jB _) hu hy; obtain ⟨r1, r2⟩ := Yy (D := D) (ρ := ρ) Yn eP HN HH hy; obtain ⟨a0, a1, a2, a3, p4, n4, c4, a5, a6, a7, a8, p9, n9, c9, Ip, n10, c10, Iq, n11, c11, rfl⟩ := HIS.out _ _ hin; have Nl : Below wr.heap.size wr (wr.alloc (.cells #[.int .i64 a0, .int .i64 a1, .string a2, .int .i64 a3, .slice p4 n4 c4, .int .i64 a5, .int .i64 a6, .string a7, .int .i64 a8, .slice p9 n9 c9, .slice Ip n10 c10, .slice Iq n11 c11] 87)) := (jD _ _).alloc (jB _) _; have hI2 := hI.below Nl hgB; clear Nl; have HC := hid (HF.out y _ (wr.alloc (.cells #[.int .i64 a0, .int .i64 a1, .string a2, .int .i64 a3, .slice p4 n4 c4, .int .i64 a5, .int .i64 a6, .string a7, .int .i64 a8, .slice p9 n9 c9, .slice Ip n10 c10, .slice Iq n11 c11] 87)) YC _ _ _ hin (ve.out y (jI hy)) (HB.out.trans hI2.Xz.below) hI2.st r1 r2); have d0 := hI.half.cell hu 0 _ rfl; have d1 := hI.half.cell hu 1 _ rfl; have d2 := hI.half.cell hu 2 _ rfl; have d3 := hI.half.cell hu 3 _ rfl; have d4 := hI.half.cell hu 4 _ rfl; have d5 := hI.half.cell hu 5 _ rfl; have d6 := hI.half.cell hu 6 _ rfl; have d7 := hI.half.cell hu 7 _ rfl; have d8 := hI.half.cell hu 8 _ rfl; have d9 := hI.half.cell hu 9 _ rfl; have d10 := hI.half.cell hu 10 _ rfl; have d11 := hI.half.cell hu 11 _ rfl
  simp only [jZ, qX] at d0; have U5 := hid hI2; have HY := hid hy; have HU := hid hu; have HG := hid (⟨hgB, hgw, hc1, hc2⟩ : g < wc.heap.size /\ w.heap.size <= g /\ xs.length <= c1 /\ (c1 : Int) <= 9223372036854775807)
  have hk1 : (m : Int) < (xs.length : Int) := by omega
  have hk2 : (xs.length : Int) <= (c1 : Int) := by omega
  have hk3 := hc2; clear hin r1 r2 hy hu hI hI2 hgB hgw hc1 hc2 HI; go_wp2_with fail; clear d0 d1 d2 d3 d4 d5 d6 d7 d8 d9 d10 d11; refine HC.out.mono ?_; rintro e w2 ⟨out, hv2, rfl, h1, h2, h3⟩; obtain ⟨Ab, Ac, jBX, Ad, jBY, jBZ, jC0, jFE, jFF, jIC, jID, jFG, jFH, jFI, jFJ, jFK, jFL, jFM, jFN, jFO, rfl⟩ := Rf.out _ _ _ h3.now; have hnext := U5.out.next HG.out.1 HG.out.2.1 (jS HS.out.low.2.2.2 HG.out.2.1) HY.out (by rfl) h1 h2 h3; have hf2 := U5.out.half.keep (h2.stay g (Jo HG.out.1 U5.out.big) U5.out.gf); have hu := HU.out; have e0 := hf2.cell hu 0 _ rfl; have e1 := hf2.cell hu 1 _ rfl; have e2 := hf2.cell hu 2 _ rfl; have e3 := hf2.cell hu 3 _ rfl; have e4 := hf2.cell hu 4 _ rfl; have e5 := hf2.cell hu 5 _ rfl; have e6 := hf2.cell hu 6 _ rfl; have e7 := hf2.cell hu 7 _ rfl; have e8 := hf2.cell hu 8 _ rfl; have e9 := hf2.cell hu 9 _ rfl; have e10 := hf2.cell hu 10 _ rfl; have e11 := hf2.cell hu 11 _ rfl
  have f0 := hf2.free (m * 12 + 0); have f1 := hf2.free (m * 12 + 1); have f2 := hf2.free (m * 12 + 2); have f3 := hf2.free (m * 12 + 3); have f4 := hf2.free (m * 12 + 4); have f5 := hf2.free (m * 12 + 5); have f6 := hf2.free (m * 12 + 6); have f7 := hf2.free (m * 12 + 7); have f8 := hf2.free (m * 12 + 8); have f9 := hf2.free (m * 12 + 9); have f10 := hf2.free (m * 12 + 10); have f11 := hf2.free (m * 12 + 11)
  simp only [jZ, qX] at e0 f0; have dX := hid hnext; clear hnext hf2 hu h1 h2 h3 HC; go_wp2_with fail
  go_roundw
  case rel => exact ⟨m + 1, by go_num, by omega, hid (.inr ⟨g, rfl, HG.out.1, HG.out.2.1, HG.out.2.2.1, HG.out.2.2.2, hv2, _, dX.out⟩)⟩
  case measure => simp [intOf]; omega
end Fr
end Go.Proofs.YtlnjdclmopblcaaDoor
