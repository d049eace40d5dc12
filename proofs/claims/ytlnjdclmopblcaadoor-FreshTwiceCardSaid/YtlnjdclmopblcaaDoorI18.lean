import Derived.Test.YtlnjdclmopblcaaDoorI13
import Derived.BigQuiet
import Derived.Deep.QuietTactic
set_option linter.unusedVariables false
set_option linter.unusedSimpArgs false
set_option maxHeartbeats 40000000
set_option maxRecDepth 100000
namespace Go.Proofs.YtlnjdclmopblcaaDoor
open Go Go.RowKit
open Go.Lib (hid)
namespace Px
theorem Ap {t : List UInt8} {n : Nat} (h : Lx.Jp t = (3, n)) : uQ t = true := by
 unfold Lx.Jp Lx.num Lx.one Lx.single at h; unfold uQ; unfold Lx.ql at h; simp only at h
 repeat' split at h
 all_goals first | assumption | (simp at h; done) | (simp only [Jr] at h; omega) | skip
theorem Aq {t : List UInt8} {n : Nat} (h : Lx.Jp t = (4, n)) : Uu t = true := by
 unfold Lx.Jp Lx.num Lx.one Lx.single at h; unfold Uu; unfold Lx.QP at h; simp only at h
 repeat' split at h
 all_goals first | assumption | (simp at h; done) | (simp only [Jr] at h; omega) | skip
theorem BU {n : Node} {s : List UInt8} (h : name n = .ok s) (hg : jq n) : uQ s = true /\ s ≠ [] := by
 unfold name at h
 split at h
 . rename_i hn; simp only [jJ] at h; subst h; unfold qR at hn; simp only [Ji, qd] at hn; have hk : n.tok.kind = 3 := hn.1.2; cases hg with
   | leaf t ho h0 h1 =>
     have hw := ho.word h0 h1 (by rw [show t.kind = 3 from hk]; decide); have hi := hw.is [] Lx.Kq; rw [Jl, show t.kind = 3 from hk] at hi; exact ⟨Ap hi, hw.ne⟩
   | list t l ho h0 hl => rw [show t.kind = 3 from hk] at h0; cases h0
 . cases h
theorem BV {n : Node} (hk : qY n = true) (hg : jq n) : Uu n.text = true /\ n.text ≠ [] := by
 unfold qY at hk; simp only [qd] at hk; cases hg with
 | leaf t ho h0 h1 =>
   have hw := ho.word h0 h1 (by rw [show t.kind = 4 from hk]; decide); have hi := hw.is [] Lx.Kq; rw [Jl, show t.kind = 4 from hk] at hi; exact ⟨Aq hi, hw.ne⟩
 | list t l ho h0 hl => rw [show t.kind = 4 from hk] at h0; cases h0
theorem ko {n : Node} {s : List UInt8} (h : qD n = .ok s) (hg : jq n) : Uu s = true /\ s ≠ [] := by
 unfold qD at h
 split at h
 . rename_i hn; simp only [jJ] at h; subst h; exact BV hn hg
 . cases h
theorem ZN {α : Type} {g : Node -> R α} {Q : α -> Prop} : ∀ {l : List Node} {xs : List α}, (∀ n ∈ l, ∀ x, g n = .ok x -> Q x) -> each g l = .ok xs -> ∀ x ∈ xs, Q x := by
 intro l
 induction l with
 | nil => intro xs _ h; simp only [each, jJ] at h; subst h; intro x hx; cases hx
 | cons n r ih =>
   intro xs hg h; simp only [each] at h; cases hf : g n with
   | error p => rw [hf] at h; cases h
   | ok y =>
     rw [hf] at h; cases hr : each g r with
     | error p => rw [hr] at h; cases h
     | ok ys =>
       rw [hr] at h; simp only [jJ] at h; subst h; intro x hx
       rcases jf.1 hx with rfl | hx
       . exact hg n (by simp) _ hf
       . exact ih (fun m hm => hg m (by simp [hm])) hr x hx
theorem XK {l : List Node} (h : 1 <= l.length) (n : Node) : l.headD n ∈ l := by
 cases l with
 | nil => simp at h
 | cons a r => simp
theorem ZW {l : List Node} {k : Nat} (h : k < l.length) (n : Node) : l.getD k n ∈ l := by
 rw [jL, jA h]; exact dG h
theorem eY : ∀ (f : Nat) (n : Node) (t : zR), Q9 f n = .ok t -> jq n -> UF f t := by
 intro f
 induction f with
 | zero => intro n t h; cases h
 | succ f ih =>
   intro n t h hg; rw [Q9] at h; by_cases h1 : (qY n || qR n) = true
   . rw [if_pos h1] at h; simp only [jJ] at h; subst h; rw [UF]
     rcases Bool.or_eq_true _ _ ▸ h1 with hc | hn
     . have := BV hc hg; exact ⟨.inr (.inl this.1), this.2, fun x hx => by cases hx⟩
     . have := BU (show name n = .ok n.text by unfold name; rw [if_pos hn]) hg; exact ⟨.inl this.1, this.2, fun x hx => by cases hx⟩
   . rw [if_neg h1] at h; cases hq : nodes n 2 9 with
     | error p => rw [hq] at h; cases h
     | ok l =>
       rw [hq] at h; simp only at h; obtain ⟨rfl, hl⟩ := JJ hq
       have fin : ∀ {nm : List UInt8}, (uQ nm = true \/ Uu nm = true \/ (nm = TM /\ n.list.tail.length = 2)) /\ nm ≠ [] -> (match each (Q9 f) n.list.tail with | .error p => (.error p : R zR) | .ok xs => .ok (.mk n.pos nm xs)) = .ok t -> UF (f + 1) t := by
        intro nm hnm e; cases he : each (Q9 f) n.list.tail with
        | error p => rw [he] at e; cases e
        | ok xs =>
          rw [he] at e; simp only [jJ] at e; subst e; rw [UF]; rw [<- vg he] at hnm; exact ⟨hnm.1, hnm.2, ZN (fun m hm x hx => ih m x hx (hg.kid (Ql hm))) he⟩
       by_cases hA : word n = [45, 62]
       . simp only [if_pos hA] at h; cases hh : hold n 3 3 with
         | error p => rw [hh] at h; cases h
         | ok u =>
           rw [hh] at h; refine fin ⟨.inr (.inr ⟨rfl, ?_⟩), by decide⟩ h; unfold hold at hh
           split at hh
           . cases hh
           . rename_i h3
             split at hh
             . cases hh
             . rename_i h4; have := List.getElem?_eq_none_iff.1 h4; rw [ZF]; omega
       . simp only [if_neg hA] at h; cases hc : qD (n.list.headD n) with
         | error p => rw [hc] at h; cases h
         | ok nm =>
           rw [hc] at h; have := ko hc (hg.kid (XK (by omega) n)); exact fin ⟨.inr (.inl this.1), this.2⟩ h
theorem Nw : ∀ (f : Nat) (n : Node) (t : QJ), pat f n = .ok t -> Zw f t := by
 intro f
 induction f with
 | zero => intro n t h; cases h
 | succ f ih =>
   intro n t h; rw [pat] at h; by_cases h1 : jR n = true
   . rw [if_pos h1] at h; cases hq : nodes n 2 9 with
     | error p => rw [hq] at h; cases h
     | ok l =>
       rw [hq] at h; simp only at h; cases hc : qD (l.headD n) with
       | error p => rw [hc] at h; cases h
       | ok nm =>
         rw [hc] at h; simp only at h; cases he : each (pat f) l.tail with
         | error p => rw [he] at h; cases h
         | ok xs =>
           rw [he] at h; simp only [jJ] at h; subst h; rw [Zw]; exact ⟨fun e => by omega, ZN (fun m _ x hx => ih m x hx) he⟩
   . rw [if_neg h1] at h
     have fin : ∀ {k p : Nat} {nm : List UInt8} {i : Int}, (Except.ok (QJ.mk k p nm i []) : R QJ) = .ok t -> Zw (f + 1) t := by
      intro k p nm i e; simp only [jJ] at e; subst e; rw [Zw]; exact ⟨fun _ => rfl, (fun x hx => by cases hx)⟩
     repeat' split at h
     all_goals first | exact fin h | cases h
theorem LY : ∀ (f : Nat) (n : Node) (t : Expr), expr f n = .ok t -> zC f t := by
 intro f
 induction f with
 | zero => intro n t h; cases h
 | succ f ih =>
   intro n t h; rw [expr] at h; by_cases h1 : jR n = true
   . rw [if_pos h1] at h; unfold listExpr at h; by_cases w1 : word n = [102, 110]
     . rw [if_pos w1] at h; unfold zU at h; cases hq : nodes n 3 3 with
       | error q => rw [hq] at h; cases h
       | ok l =>
         rw [hq] at h; simp only at h; cases hns : names (l.getD 1 n) 1 with
         | error q => rw [hns] at h; cases h
         | ok ns =>
           rw [hns] at h; simp only at h; cases he : expr f (l.getD 2 n) with
           | error q => rw [he] at h; cases h
           | ok y =>
             rw [he] at h; simp only [jJ] at h; subst h; rw [zC]; exact ⟨fun e => absurd rfl e, fun x hx => by simp at hx; subst hx; exact ih _ _ he, fun a ha => by cases ha⟩
     . rw [if_neg w1] at h; by_cases w2 : word n = [108, 101, 116]
       . rw [if_pos w2] at h; unfold letExpr at h; cases hq : nodes n 3 3 with
         | error q => rw [hq] at h; cases h
         | ok l =>
           rw [hq] at h; simp only at h; cases hps : nodes (l.getD 1 n) 1 8 with
           | error q => rw [hps] at h; cases h
           | ok ps =>
             rw [hps] at h; simp only at h; cases hbs : each (pair (expr f)) ps with
             | error q => rw [hbs] at h; cases h
             | ok bs =>
               rw [hbs] at h; simp only at h; cases he : expr f (l.getD 2 n) with
               | error q => rw [he] at h; cases h
               | ok y =>
                 rw [he] at h; simp only [jJ] at h; subst h
                 have hb := ZN (Q := fun b : List UInt8 × Expr => zC f b.2) (fun m hm x hx => by
                  unfold pair at hx; cases hz2 : nodes m 2 2 with
                  | error q => rw [hz2] at hx; cases hx
                  | ok l2 =>
                    rw [hz2] at hx; simp only at hx; cases hz3 : name (l2.headD m) with
                    | error q => rw [hz3] at hx; cases hx
                    | ok s =>
                      rw [hz3] at hx; simp only at hx; cases KR : expr f (l2.getD 1 m) with
                      | error q => rw [KR] at hx; cases hx
                      | ok e =>
                        rw [KR] at hx; simp only [jJ] at hx; subst hx
                        exact ih _ _ KR) hbs
                 rw [zC]; refine ⟨fun _ e => absurd rfl e, fun x hx => ?_, fun a ha => by cases ha⟩
                 rcases jW.1 hx with hx | hx
                 . obtain ⟨b, h1, rfl⟩ := ZB.1 hx; exact hb b h1
                 . simp at hx; subst hx; exact ih _ _ he
       . rw [if_neg w2] at h; by_cases w3 : word n = [99, 97, 115, 101]
         . rw [if_pos w3] at h; unfold qm at h; cases hq : nodes n 3 18 with
           | error q => rw [hq] at h; cases h
           | ok l =>
             rw [hq] at h; simp only at h; cases he : expr f (l.getD 1 n) with
             | error q => rw [he] at h; cases h
             | ok y =>
               rw [he] at h; simp only at h; cases hbs : each (alt f (expr f)) (l.drop 2) with
               | error q => rw [hbs] at h; cases h
               | ok bs =>
                 rw [hbs] at h; simp only [jJ] at h; subst h
                 have hb := ZN (Q := fun b : QJ × Expr => Zw f b.1 /\ zC f b.2) (fun m hm x hx => by
                  unfold alt at hx; cases hz2 : nodes m 2 2 with
                  | error q => rw [hz2] at hx; cases hx
                  | ok l2 =>
                    rw [hz2] at hx; simp only at hx; cases hz3 : pat f (l2.headD m) with
                    | error q => rw [hz3] at hx; cases hx
                    | ok s =>
                      rw [hz3] at hx; simp only at hx; cases KR : expr f (l2.getD 1 m) with
                      | error q => rw [KR] at hx; cases hx
                      | ok e =>
                        rw [KR] at hx; simp only [jJ] at hx; subst hx
                        exact ⟨Nw _ _ _ hz3, ih _ _ KR⟩) hbs
                 rw [zC]; exact ⟨fun _ _ => rfl, fun x hx => by simp at hx; subst hx; exact ih _ _ he, hb⟩
         . rw [if_neg w3] at h; unfold J2 at h; cases hq : nodes n 2 9 with
           | error q => rw [hq] at h; cases h
           | ok l =>
             rw [hq] at h; simp only at h
             have fin : ∀ {k p : Nat} {nm : List UInt8} {l : List Node}, (match each (expr f) l with | .error p => (.error p : R Expr) | .ok xs => .ok (.mk k p nm 0 [] xs [])) = .ok t -> zC (f + 1) t := by
              intro k p nm l e; cases he : each (expr f) l with
              | error q => rw [he] at e; cases e
              | ok xs =>
                rw [he] at e; simp only [jJ] at e; subst e; rw [zC]; exact ⟨fun _ _ => rfl, ZN (fun m _ x hx => ih m x hx) he, fun a ha => by cases ha⟩
             split at h
             . split at h
               . cases h
               . exact fin h
             . split at h
               . exact fin h
               . exact fin h
   . rw [if_neg h1] at h
     have fin : ∀ {k p : Nat} {nm : List UInt8} {i : Int}, (Except.ok (Expr.mk k p nm i [] [] []) : R Expr) = .ok t -> zC (f + 1) t := by
      intro k p nm i e; simp only [jJ] at e; subst e; rw [zC]; exact ⟨fun _ _ => rfl, (fun x hx => by cases hx), (fun a ha => by cases ha)⟩
     repeat' split at h
     all_goals first | exact fin h | cases h
theorem LZ {n : Node} {a : Nat} {ns : List (List UInt8)} (h : names n a = .ok ns) (hg : jq n) : ∀ s ∈ ns, uQ s = true := by
 unfold names at h; cases hq : nodes n a 8 with
 | error p => rw [hq] at h; cases h
 | ok l =>
   rw [hq] at h; simp only at h; obtain ⟨rfl, _⟩ := JJ hq; exact ZN (fun m hm x hx => (BU hx (hg.kid hm)).1) h
theorem Ny (n : Node) (c : dJ) (h : KJ 50 n = .ok c) (hg : jq n) : ∀ t ∈ c.fields, UF 50 t := by
 unfold KJ at h; cases hq : nodes n 1 9 with
 | error p => rw [hq] at h; cases h
 | ok l =>
   rw [hq] at h; simp only at h; obtain ⟨rfl, hl⟩ := JJ hq; cases hc : qD (n.list.headD n) with
   | error p => rw [hc] at h; cases h
   | ok nm =>
     rw [hc] at h; simp only at h; cases he : each (Q9 50) n.list.tail with
     | error p => rw [he] at h; cases h
     | ok xs =>
       rw [he] at h; simp only [jJ] at h; subst h; exact ZN (fun m hm x hx => eY 50 m x hx (hg.kid (Ql hm))) he
theorem La (n : Node) (c : Data) (h : data 50 n = .ok c) (hg : jq n) : goodD c := by
 unfold data at h; cases hq : nodes n 4 103 with
 | error p => rw [hq] at h; cases h
 | ok l =>
   rw [hq] at h; simp only at h; obtain ⟨rfl, hl⟩ := JJ hq; cases hc : qD (n.list.getD 1 n) with
   | error p => rw [hc] at h; cases h
   | ok nm =>
     rw [hc] at h; simp only at h; cases hns : names (n.list.getD 2 n) 0 with
     | error q => rw [hns] at h; cases h
     | ok ps =>
       rw [hns] at h; simp only at h; cases he : each (KJ 50) (n.list.drop 3) with
       | error p => rw [he] at h; cases h
       | ok xs =>
         rw [he] at h; simp only [jJ] at h; subst h; exact ⟨(ko hc (hg.kid (ZW (by omega) n))).1, LZ hns (hg.kid (ZW (by omega) n)), ZN (fun m hm x hx => Ny m x hx (hg.kid (UY hm))) he⟩
theorem Lb (n : Node) (c : Def) (h : defn 50 n = .ok c) : zC 50 c.body := by
 unfold defn at h; cases hq : nodes n 4 4 with
 | error p => rw [hq] at h; cases h
 | ok l =>
   rw [hq] at h; simp only at h; cases hc : name (l.getD 1 n) with
   | error p => rw [hc] at h; cases h
   | ok nm =>
     rw [hc] at h; simp only at h; cases hns : names (l.getD 2 n) 0 with
     | error q => rw [hns] at h; cases h
     | ok ps =>
       rw [hns] at h; simp only at h; cases he : expr 50 (l.getD 3 n) with
       | error p => rw [he] at h; cases h
       | ok x =>
         rw [he] at h; simp only [jJ] at h; subst h; exact LY _ _ _ he
theorem Lc (stop : Nat) : ∀ (f c : Nat) (ts : List Lx.Tok) (p : Prog), (∀ t ∈ ts, MJ t) -> prog stop f c ts = .ok p -> xZ p := by
 intro f
 induction f with
 | zero => intro c ts p _ h; simp only [prog, jJ] at h; subst h; exact ⟨(fun d hd => by cases hd), (fun d hd => by cases hd)⟩
 | succ f ih =>
   intro c ts p ht h; cases ts with
   | nil => simp only [prog, jJ] at h; subst h; exact ⟨(fun d hd => by cases hd), (fun d hd => by cases hd)⟩
   | cons t ts =>
     rw [prog] at h
     . cases hn : node stop (2 * (t :: ts).length + 2) 0 (t :: ts) with
       | error q => rw [hn] at h; cases h
       | ok y =>
         obtain ⟨n, ts'⟩ := y; rw [hn] at h; simp only at h; obtain ⟨h1, h2⟩ := (Uc stop (2 * (t :: ts).length + 2) 0 (t :: ts) ht).1 n ts' hn; by_cases hc : c = 100
         . rw [if_pos hc] at h; cases h
         rw [if_neg hc] at h; by_cases hw1 : word n = [100, 97, 116, 97]
         . rw [if_pos hw1] at h; cases hd : data 50 n with
           | error q => rw [hd] at h; cases h
           | ok d =>
             rw [hd] at h; simp only at h; cases hr : prog stop f (c + 1) ts' with
             | error q => rw [hr] at h; cases h
             | ok q =>
               rw [hr] at h; simp only [jJ] at h; subst h; have e1 := ih _ _ _ h2 hr; have e2 := La _ _ hd h1; exact ⟨fun x hx => by rcases jf.1 hx with rfl | hx; exact e2; exact e1.1 x hx, e1.2⟩
         . rw [if_neg hw1] at h; by_cases hw2 : word n = [100, 101, 102]
           . rw [if_pos hw2] at h; cases hd : defn 50 n with
             | error q => rw [hd] at h; cases h
             | ok d =>
               rw [hd] at h; simp only at h; cases hr : prog stop f (c + 1) ts' with
               | error q => rw [hr] at h; cases h
               | ok q =>
                 rw [hr] at h; simp only [jJ] at h; subst h; have e1 := ih _ _ _ h2 hr; have e2 := Lb _ _ hd; exact ⟨e1.1, fun x hx => by rcases jf.1 hx with rfl | hx; exact e2; exact e1.2 x hx⟩
           . rw [if_neg hw2] at h; cases h
     . simp
theorem UO (l : List UInt8) (p : Prog) (h : program l = .done p) : xZ p := by
 unfold program parsed at h; by_cases h0 : 4096 < l.length
 . rw [if_pos h0] at h; cases h
 rw [if_neg h0] at h; have hw := Gh (l.length + 1) 0 l; cases ht : Lx.toks (l.length + 1) 0 l with
 | mk ts r =>
   rw [ht] at h hw; cases r with
   | some q => cases h
   | none =>
     simp only at h hw; cases hn : prog l.length (ts.length + 1) 0 ts with
     | error q => rw [hn] at h; cases h
     | ok y =>
       rw [hn] at h; simp only [Outcome.done.injEq] at h; subst h; exact Lc _ _ _ _ _ hw hn
end Px
namespace Px
theorem BX (t : List UInt8) : qQ t <= 2 := by
 unfold qQ
 repeat' split
 all_goals omega
theorem Ld {n : Node} (hg : jq n) : n.takes <= 2 := by
 cases hg with
 | leaf t ho h0 h1 => exact BX _
 | list t l ho h0 hl => exact jh _
theorem BZ {n : Node} {a : Nat} {ns : List (List UInt8)} (h : names n a = .ok ns) : a <= ns.length := by
 unfold names at h; cases hq : nodes n a 8 with
 | error p => rw [hq] at h; cases h
 | ok l =>
   rw [hq] at h; simp only at h; have := (JJ hq).2; rw [vg h]; omega
theorem Ba : ∀ (f : Nat) (n : Node) (t : Expr), expr f n = .ok t -> jq n -> Fr.J9 f t = true := by
 intro f
 induction f with
 | zero => intro n t h; cases h
 | succ f ih =>
   intro n t h hg; rw [expr] at h; by_cases h1 : jR n = true
   . rw [if_pos h1] at h; unfold listExpr at h; by_cases w1 : word n = [102, 110]
     . rw [if_pos w1] at h; unfold zU at h; cases hq : nodes n 3 3 with
       | error q => rw [hq] at h; cases h
       | ok l =>
         rw [hq] at h; simp only at h; cases hns : names (l.getD 1 n) 1 with
         | error q => rw [hns] at h; cases h
         | ok ns =>
           rw [hns] at h; simp only at h; cases he : expr f (l.getD 2 n) with
           | error q => rw [he] at h; cases h
           | ok y =>
             rw [he] at h; simp only [jJ] at h; subst h; obtain ⟨rfl, hl⟩ := JJ hq; have hnl : 1 <= ns.length := BZ hns; have hy := ih _ _ he (hg.kid (ZW (by omega) n)); rw [Fr.J9, if_neg (by omega), if_pos rfl]; simp only [zF, List.all_cons, List.all_nil, hy, Bool.and_self, Y4, Qv]; exact ⟨trivial, by omega⟩
     . rw [if_neg w1] at h; by_cases w2 : word n = [108, 101, 116]
       . rw [if_pos w2] at h; unfold letExpr at h; cases hq : nodes n 3 3 with
         | error q => rw [hq] at h; cases h
         | ok l =>
           rw [hq] at h; simp only at h; cases hps : nodes (l.getD 1 n) 1 8 with
           | error q => rw [hps] at h; cases h
           | ok ps =>
             rw [hps] at h; simp only at h; cases hbs : each (pair (expr f)) ps with
             | error q => rw [hbs] at h; cases h
             | ok bs =>
               rw [hbs] at h; simp only at h; cases he : expr f (l.getD 2 n) with
               | error q => rw [he] at h; cases h
               | ok y =>
                 rw [he] at h; simp only [jJ] at h; subst h; obtain ⟨rfl, hl⟩ := JJ hq; obtain ⟨hpe, hpl⟩ := JJ hps; subst hpe; have hg1 := hg.kid (ZW (k := 1) (by omega) n)
                 have hb := ZN (Q := fun b : List UInt8 × Expr => Fr.J9 f b.2 = true) (fun m hm x hx => by
                  unfold pair at hx; cases hz2 : nodes m 2 2 with
                  | error q => rw [hz2] at hx; cases hx
                  | ok l2 =>
                    rw [hz2] at hx; simp only at hx; cases hz3 : name (l2.headD m) with
                    | error q => rw [hz3] at hx; cases hx
                    | ok s =>
                      rw [hz3] at hx; simp only at hx; cases KR : expr f (l2.getD 1 m) with
                      | error q => rw [KR] at hx; cases hx
                      | ok e =>
                        rw [KR] at hx; simp only [jJ] at hx; subst hx; obtain ⟨hle, hll⟩ := JJ hz2; subst hle
                        exact ih _ _ KR ((hg1.kid hm).kid (ZW (by omega) m))) hbs
                 have hy := ih _ _ he (hg.kid (ZW (by omega) n)); have hbl := vg hbs; rw [Fr.J9, if_neg (by omega), if_neg (by omega), if_pos rfl]
                 have h1 : (bs.map (·.2) ++ [y]).all (Fr.J9 f) = true := by
                  rw [Ju]; intro x hx
                  rcases jW.1 hx with hx | hx
                  . obtain ⟨b, h1, rfl⟩ := ZB.1 hx; exact hb b h1
                  . simp at hx; subst hx; exact hy
                 have hd2 : (bs.map (·.2) ++ [y]).length = (bs.map (·.1)).length + 1 /\ 2 <= (bs.map (·.2) ++ [y]).length := by
                  rw [jE, Jv, Jv, zF]; exact ⟨rfl, by omega⟩
                 rw [h1, JL hd2]; rfl
       . rw [if_neg w2] at h; by_cases w3 : word n = [99, 97, 115, 101]
         . rw [if_pos w3] at h; unfold qm at h; cases hq : nodes n 3 18 with
           | error q => rw [hq] at h; cases h
           | ok l =>
             rw [hq] at h; simp only at h; cases he : expr f (l.getD 1 n) with
             | error q => rw [he] at h; cases h
             | ok y =>
               rw [he] at h; simp only at h; cases hbs : each (alt f (expr f)) (l.drop 2) with
               | error q => rw [hbs] at h; cases h
               | ok bs =>
                 rw [hbs] at h; simp only [jJ] at h; subst h; obtain ⟨rfl, hl⟩ := JJ hq
                 have hb := ZN (Q := fun b : QJ × Expr => Fr.J9 f b.2 = true) (fun m hm x hx => by
                  unfold alt at hx; cases hz2 : nodes m 2 2 with
                  | error q => rw [hz2] at hx; cases hx
                  | ok l2 =>
                    rw [hz2] at hx; simp only at hx; cases hz3 : pat f (l2.headD m) with
                    | error q => rw [hz3] at hx; cases hx
                    | ok s =>
                      rw [hz3] at hx; simp only at hx; cases KR : expr f (l2.getD 1 m) with
                      | error q => rw [KR] at hx; cases hx
                      | ok e =>
                        rw [KR] at hx; simp only [jJ] at hx; subst hx; obtain ⟨hle, hll⟩ := JJ hz2; subst hle
                        exact ih _ _ KR ((hg.kid (UY hm)).kid (ZW (by omega) m))) hbs
                 have hy := ih _ _ he (hg.kid (ZW (by omega) n)); have hbl := vg hbs; rw [ja] at hbl; have hd1 : ([y] : List Expr).length = 1 /\ bs.length ≠ 0 := ⟨rfl, by omega⟩; rw [Fr.J9, if_neg (by omega), if_neg (by omega), if_neg (by omega), if_pos rfl, JL hd1]
                 have h1 : (bs.all fun a => Fr.J9 f a.2) = true := by
                  rw [Ju]; exact hb
                 simp only [List.all_cons, List.all_nil, hy, h1, Bool.and_self, Y4]
         . rw [if_neg w3] at h; unfold J2 at h; cases hq : nodes n 2 9 with
           | error q => rw [hq] at h; cases h
           | ok l =>
             rw [hq] at h; simp only at h; obtain ⟨rfl, hl⟩ := JJ hq
             have fin : ∀ {k p : Nat} {nm : List UInt8} {l : List Node}, (∀ m ∈ l, m ∈ n.list) -> ((k = 7 /\ (l.length = 1 \/ l.length = 2)) \/ k = 2 \/ (k = 6 /\ 2 <= l.length)) -> (match each (expr f) l with | .error p => (.error p : R Expr) | .ok xs => .ok (.mk k p nm 0 [] xs [])) = .ok t -> Fr.J9 (f + 1) t = true := by
              intro k p nm l hm hk e; cases he : each (expr f) l with
              | error q => rw [he] at e; cases e
              | ok xs =>
                rw [he] at e; simp only [jJ] at e; subst e; have hxl := vg he
                have h1 : xs.all (Fr.J9 f) = true := by
                 rw [Ju]; exact ZN (fun m hm2 x hx => ih m x hx (hg.kid (hm m hm2))) he
                rw [Fr.J9, h1]
                rcases hk with ⟨rfl, hk⟩ | rfl | ⟨rfl, hk⟩
                . rw [if_neg (by omega), if_neg (by omega), if_neg (by omega), if_neg (by omega), if_neg (by omega), if_pos rfl, JL (by rw [hxl]; exact hk)]; rfl
                . rw [if_neg (by omega), if_neg (by omega), if_neg (by omega), if_neg (by omega), if_neg (by omega), if_neg (by omega), if_pos rfl]; rfl
                . rw [if_neg (by omega), if_neg (by omega), if_neg (by omega), if_neg (by omega), if_pos rfl, JL (by omega)]; rfl
             split at h
             . rename_i ht
               split at h
               . cases h
               . rename_i hh; have h2 := Ld (hg.kid (XK (by omega) n))
                 have h3 : n.list.length = 1 + (n.list.headD n).takes := by
                  unfold hold at hh
                  split at hh
                  . cases hh
                  . rename_i h3
                    split at hh
                    . cases hh
                    . rename_i h4; have := List.getElem?_eq_none_iff.1 h4; omega
                 exact fin (fun m hm => Ql hm) (.inl ⟨rfl, by rw [ZF]; omega⟩) h
             . split at h
               . exact fin (fun m hm => Ql hm) (.inr (.inl rfl)) h
               . exact fin (fun m hm => hm) (.inr (.inr ⟨rfl, hl⟩)) h
   . rw [if_neg h1] at h
     have fin : ∀ {k p : Nat} {nm : List UInt8} {i : Int}, (k = 0 \/ k = 1 \/ k = 2) -> (Except.ok (Expr.mk k p nm i [] [] []) : R Expr) = .ok t -> Fr.J9 (f + 1) t = true := by
      intro k p nm i hk e; simp only [jJ] at e; subst e
      rcases hk with rfl | rfl | rfl <;> rfl
     repeat' split at h
     all_goals first | exact fin (by decide) h | cases h
theorem Bb (n : Node) (c : Def) (h : defn 50 n = .ok c) (hg : jq n) : Fr.J9 50 c.body = true := by
 unfold defn at h; cases hq : nodes n 4 4 with
 | error p => rw [hq] at h; cases h
 | ok l =>
   rw [hq] at h; simp only at h; cases hc : name (l.getD 1 n) with
   | error p => rw [hc] at h; cases h
   | ok nm =>
     rw [hc] at h; simp only at h; cases hns : names (l.getD 2 n) 0 with
     | error q => rw [hns] at h; cases h
     | ok ps =>
       rw [hns] at h; simp only at h; cases he : expr 50 (l.getD 3 n) with
       | error p => rw [he] at h; cases h
       | ok x =>
         rw [he] at h; simp only [jJ] at h; subst h; obtain ⟨rfl, hl⟩ := JJ hq; exact Ba _ _ _ he (hg.kid (ZW (by omega) n))
theorem Bc (stop : Nat) : ∀ (f c : Nat) (ts : List Lx.Tok) (p : Prog), (∀ t ∈ ts, MJ t) -> prog stop f c ts = .ok p -> ∀ d ∈ p.defs, Fr.J9 50 d.body = true := by
 intro f
 induction f with
 | zero => intro c ts p _ h; simp only [prog, jJ] at h; subst h; exact (fun d hd => by cases hd)
 | succ f ih =>
   intro c ts p ht h; cases ts with
   | nil => simp only [prog, jJ] at h; subst h; exact (fun d hd => by cases hd)
   | cons t ts =>
     rw [prog] at h
     . cases hn : node stop (2 * (t :: ts).length + 2) 0 (t :: ts) with
       | error q => rw [hn] at h; cases h
       | ok y =>
         obtain ⟨n, ts'⟩ := y; rw [hn] at h; simp only at h; obtain ⟨h1, h2⟩ := (Uc stop (2 * (t :: ts).length + 2) 0 (t :: ts) ht).1 n ts' hn; by_cases hc : c = 100
         . rw [if_pos hc] at h; cases h
         rw [if_neg hc] at h; by_cases hw1 : word n = [100, 97, 116, 97]
         . rw [if_pos hw1] at h; cases hd : data 50 n with
           | error q => rw [hd] at h; cases h
           | ok d =>
             rw [hd] at h; simp only at h; cases hr : prog stop f (c + 1) ts' with
             | error q => rw [hr] at h; cases h
             | ok q =>
               rw [hr] at h; simp only [jJ] at h; subst h; have e1 := ih _ _ _ h2 hr; exact e1
         . rw [if_neg hw1] at h; by_cases hw2 : word n = [100, 101, 102]
           . rw [if_pos hw2] at h; cases hd : defn 50 n with
             | error q => rw [hd] at h; cases h
             | ok d =>
               rw [hd] at h; simp only at h; cases hr : prog stop f (c + 1) ts' with
               | error q => rw [hr] at h; cases h
               | ok q =>
                 rw [hr] at h; simp only [jJ] at h; subst h; have e1 := ih _ _ _ h2 hr; have e2 := Bb _ _ hd h1; exact fun x hx => by rcases jf.1 hx with rfl | hx; exact e2; exact e1 x hx
           . rw [if_neg hw2] at h; cases h
     . simp
theorem XL (l : List UInt8) (p : Prog) (h : program l = .done p) : ∀ d ∈ p.defs, Fr.J9 50 d.body = true := by
 unfold program parsed at h; by_cases h0 : 4096 < l.length
 . rw [if_pos h0] at h; cases h
 rw [if_neg h0] at h; have hw := Gh (l.length + 1) 0 l; cases ht : Lx.toks (l.length + 1) 0 l with
 | mk ts r =>
   rw [ht] at h hw; cases r with
   | some q => cases h
   | none =>
     simp only at h hw; cases hn : prog l.length (ts.length + 1) 0 ts with
     | error q => rw [hn] at h; cases h
     | ok y =>
       rw [hn] at h; simp only [Outcome.done.injEq] at h; subst h; exact Bc _ _ _ _ _ hw hn
end Px
namespace Px
def tw (ts : List Lx.Tok) : Nat := (ts.map fun t => t.text.length + 24).sum
theorem Kk (t : Lx.Tok) (ts : List Lx.Tok) : tw (t :: ts) = t.text.length + 24 + tw ts := by simp [tw]
inductive NW : Node -> Nat -> Prop
 | mk (t : Lx.Tok) (l : List Node) (k : Nat) (ws : List Nat) : qG NW l ws -> NW (.mk t l k) (t.text.length + 24 + ws.sum)
theorem Bd (stop : Nat) : ∀ (f d : Nat) (ts : List Lx.Tok),
 (∀ n ts', node stop f d ts = .ok (n, ts') -> ∃ W, NW n W /\ W + tw ts' <= tw ts) /\ (∀ l ts', rest stop f d ts = .ok (l, ts') -> ∃ ws, qG NW l ws /\ ws.sum + tw ts' <= tw ts) := by
 intro f
 induction f with
 | zero => intro d ts; exact ⟨fun n ts' h => (by cases h), fun l ts' h => (by cases h)⟩
 | succ f ih =>
   intro d ts; cases ts with
   | nil => exact ⟨fun n ts' h => (by cases h), fun l ts' h => (by cases h)⟩
   | cons t ts =>
     constructor
     . intro n ts' h; rw [node] at h; by_cases k1 : t.kind = 1
       . rw [if_pos k1] at h; cases h
       . rw [if_neg k1] at h; by_cases k0 : t.kind = 0
         . rw [if_pos k0] at h; by_cases hd : d = 40
           . rw [if_pos hd] at h; cases h
           . rw [if_neg hd] at h; cases hr : rest stop f (d + 1) ts with
             | error p => rw [hr] at h; cases h
             | ok x =>
               obtain ⟨l, dS⟩ := x; rw [hr] at h; simp only [jJ, Jr] at h; obtain ⟨rfl, rfl⟩ := h; obtain ⟨ws, h1, h2⟩ := (ih (d + 1) ts).2 _ _ hr; exact ⟨_, .mk _ _ _ ws h1, by rw [Kk]; omega⟩
         . rw [if_neg k0] at h; simp only [jJ, Jr] at h; obtain ⟨rfl, rfl⟩ := h; exact ⟨_, .mk _ _ _ [] .nil, by rw [Kk]; simp⟩
     . intro l ts' h; rw [rest] at h; by_cases k1 : t.kind = 1
       . rw [if_pos k1] at h; simp only [jJ, Jr] at h; obtain ⟨rfl, rfl⟩ := h; exact ⟨[], .nil, by rw [Kk]; simp⟩
       . rw [if_neg k1] at h; cases hn : node stop f d (t :: ts) with
         | error p => rw [hn] at h; cases h
         | ok x =>
           obtain ⟨n, dS⟩ := x; rw [hn] at h; simp only at h; obtain ⟨W, h1, h2⟩ := (ih d (t :: ts)).1 _ _ hn; cases hr : rest stop f d dS with
           | error p => rw [hr] at h; cases h
           | ok y =>
             obtain ⟨l', iB⟩ := y; rw [hr] at h; simp only [jJ, Jr] at h; obtain ⟨rfl, rfl⟩ := h; obtain ⟨ws, h3, h4⟩ := (ih d dS).2 _ _ hr; exact ⟨W :: ws, .cons h1 h3, by rw [jy]; omega⟩
theorem kr : ∀ (f p : Nat) (l : List UInt8), tw (Lx.toks f p l).1 <= 25 * l.length := by
 intro f
 induction f with
 | zero => intro p l; simp [Lx.toks, tw]
 | succ f ih =>
   intro p l; rw [Lx.yC]; by_cases h1 : l.length <= Lx.JD false l
   . rw [if_pos h1]; simp [tw]
   . rw [if_neg h1]; by_cases h2 : (Lx.Jp (l.drop (Lx.JD false l))).2 = 0
     . rw [if_pos h2]; simp [tw]
     . rw [if_neg h2]
       simp only
       rw [Kk]; have hi := ih (p + Lx.JD false l + (Lx.Jp (l.drop (Lx.JD false l))).2) ((l.drop (Lx.JD false l)).drop (Lx.Jp (l.drop (Lx.JD false l))).2); have hle := Lx.Wj (l.drop (Lx.JD false l)); rw [ja, ja] at hi; rw [ja] at hle
       have ht : (Lx.yo (p + Lx.JD false l) (Lx.Jp (l.drop (Lx.JD false l))).1 ((l.drop (Lx.JD false l)).take (Lx.Jp (l.drop (Lx.JD false l))).2)).text.length <= (Lx.Jp (l.drop (Lx.JD false l))).2 := by
        simp only [Lx.yo, Jh]; omega
       omega
theorem NW.split {n : Node} {W : Nat} (h : NW n W) : ∃ ws, qG NW n.list ws /\ W = n.text.length + 24 + ws.sum := by
 cases h with
 | mk t l k ws h1 => exact ⟨ws, h1, rfl⟩
theorem NW.ge {n : Node} {W : Nat} (h : NW n W) : n.text.length + 24 <= W := by
 obtain ⟨ws, _, rfl⟩ := h.split; omega
theorem WC {n : Node} {s : List UInt8} (h : name n = .ok s) : s = n.text := by
 unfold name at h; split at h
 . simp only [jJ] at h; exact h.symm
 . cases h
theorem vL {n : Node} {s : List UInt8} (h : qD n = .ok s) : s = n.text := by
 unfold qD at h; split at h
 . simp only [jJ] at h; exact h.symm
 . cases h
theorem qG.gL {S : Node -> Nat -> Prop} {l : List Node} {ws : List Nat} (h : qG S l ws) (hl : 1 <= l.length) (n : Node) : ∃ w, S (l.headD n) w /\ ws.sum = w + ws.tail.sum /\ qG S l.tail ws.tail := by
 cases h with
 | nil => simp at hl
 | @cons a b l ws h1 h2 => exact ⟨b, h1, by simp, h2⟩
theorem qG.three {S : Node -> Nat -> Prop} {l : List Node} {ws : List Nat} (h : qG S l ws) (hl : 3 <= l.length) (n : Node) : ∃ a b c, S (l.getD 0 n) a /\ S (l.getD 1 n) b /\ S (l.getD 2 n) c /\ ws.sum = a + b + c + (ws.drop 3).sum /\ qG S (l.drop 3) (ws.drop 3) := by
 cases h with
 | nil => simp at hl
 | @cons x a l ws h1 h2 =>
   cases h2 with
   | nil => simp at hl
   | @cons y b l ws h2 h3 =>
     cases h3 with
     | nil => simp at hl
     | @cons z c l ws h3 h4 => exact ⟨a, b, c, h1, h2, h3, by simp; omega, by simpa using h4⟩
theorem qG.two {S : Node -> Nat -> Prop} {l : List Node} {ws : List Nat} (h : qG S l ws) (hl : 2 <= l.length) (n : Node) : ∃ a b, S (l.headD n) a /\ S (l.getD 1 n) b /\ ws.sum = a + b + (ws.drop 2).sum /\ qG S (l.drop 2) (ws.drop 2) := by
 cases h with
 | nil => simp at hl
 | @cons x a l ws h1 h2 =>
   cases h2 with
   | nil => simp at hl
   | @cons y b l ws h2 h3 => exact ⟨a, b, h1, h2, by simp; omega, by simpa using h3⟩
theorem Yf {α : Type} {g : Node -> R α} {len : α -> Nat} : ∀ {l : List Node} {xs : List α} {ws : List Nat}, (∀ n ∈ l, ∀ x W, g n = .ok x -> NW n W -> len x <= W) -> each g l = .ok xs -> qG NW l ws -> (xs.map len).sum <= ws.sum := by
 intro l
 induction l with
 | nil =>
   intro xs ws _ h hw; simp only [each, jJ] at h; subst h; simp
 | cons n r ih =>
   intro xs ws hg h hw; cases hw with
   | @cons _ W _ ws h1 h2 =>
     simp only [each] at h; cases hf : g n with
     | error p => rw [hf] at h; cases h
     | ok x =>
       rw [hf] at h; cases hr : each g r with
       | error p => rw [hr] at h; cases h
       | ok ys =>
         rw [hr] at h; simp only [jJ] at h; subst h; have a := hg n (by simp) x W hf h1; have b := ih (fun m hm => hg m (by simp [hm])) hr h2; simp only [je, jy]; omega
theorem XM {n : Node} {a W : Nat} {ns : List (List UInt8)} (h : names n a = .ok ns) (hw : NW n W) : nw ns + 22 <= W := by
 unfold names at h; cases hq : nodes n a 8 with
 | error p => rw [hq] at h; cases h
 | ok l =>
   rw [hq] at h; simp only at h; obtain ⟨rfl, _⟩ := JJ hq; obtain ⟨ws, h1, rfl⟩ := hw.split; have : nw ns <= ws.sum := Yf (len := fun s : List UInt8 => s.length + 1) (fun m _ x W hx hW => by have := WC hx; have := hW.ge; subst x; omega) h h1; omega
theorem Tm : ∀ (f : Nat) (n : Node) (t : QJ) (W : Nat), pat f n = .ok t -> NW n W -> Sx.pw f t + 1 <= W := by
 intro f
 induction f with
 | zero => intro n t W h; cases h
 | succ f ih =>
   intro n t W h hw; have hge := hw.ge; rw [pat] at h; by_cases h1 : jR n = true
   . rw [if_pos h1] at h; cases hq : nodes n 2 9 with
     | error p => rw [hq] at h; cases h
     | ok l =>
       rw [hq] at h; simp only at h; obtain ⟨rfl, hl⟩ := JJ hq; obtain ⟨ws, h2, rfl⟩ := hw.split; obtain ⟨w0, h3, h4, h5⟩ := h2.gL (by omega) n; have Ar := h3.ge; cases hc : qD (n.list.headD n) with
       | error p => rw [hc] at h; cases h
       | ok nm =>
         rw [hc] at h; simp only at h; have hnm := vL hc; cases he : each (pat f) n.list.tail with
         | error p => rw [he] at h; cases h
         | ok xs =>
           rw [he] at h; simp only [jJ] at h; subst h; have hs := Yf (len := Sx.pw f) (fun m hm x W hx hW => by have := ih m x W hx hW; omega) he h5; subst hnm; rw [Sx.pw]; omega
   . rw [if_neg h1] at h
     have fin : ∀ {k : Nat} {nm : List UInt8} {i : Int}, nm.length <= n.text.length -> (Except.ok (QJ.mk k n.pos nm i []) : R QJ) = .ok t -> Sx.pw (f + 1) t + 1 <= W := by
      intro k nm i hl e; simp only [jJ] at e; subst e; rw [Sx.pw]; simp only [zO, Vd]; omega
     repeat' split at h
     all_goals first | exact fin (jB _) h | exact fin (jh _) h | cases h
theorem FH {f : Nat} {n : Node} {W k : Nat} {nm : List UInt8} {i : Int} {t : Expr} (hw : NW n W) (hl : nm.length <= n.text.length) (e : (Except.ok (Expr.mk k n.pos nm i [] [] []) : R Expr) = .ok t) : Sx.ew (f + 1) t + 1 <= W := by
 have hge := hw.ge; simp only [jJ] at e; subst e; rw [Sx.ew]; simp only [zO, Vd, nw]; omega
theorem sum_add {α : Type} (g h : α -> Nat) : ∀ l : List α, (l.map fun x => g x + h x).sum = (l.map g).sum + (l.map h).sum
 | [] => rfl
 | a :: r => by rw [je, jy, sum_add g h r, je, jy, je, jy]; omega
theorem Rj : ∀ (f : Nat) (n : Node) (t : Expr) (W : Nat), expr f n = .ok t -> NW n W -> Sx.ew f t + 1 <= W := by
 intro f
 induction f with
 | zero => intro n t W h; cases h
 | succ f ih =>
   intro n t W h hw; have hge := hw.ge; rw [expr] at h; by_cases h1 : jR n = true
   . rw [if_pos h1] at h; unfold listExpr at h; by_cases w1 : word n = [102, 110]
     . rw [if_pos w1] at h; unfold zU at h; cases hq : nodes n 3 3 with
       | error q => rw [hq] at h; cases h
       | ok l =>
         rw [hq] at h; simp only at h; obtain ⟨rfl, hl⟩ := JJ hq; obtain ⟨ws, h2, rfl⟩ := hw.split; obtain ⟨a, b, c, ha, hb, hc, hsum, _⟩ := h2.three (by omega) n; cases hns : names (n.list.getD 1 n) 1 with
         | error q => rw [hns] at h; cases h
         | ok ns =>
           rw [hns] at h; simp only at h; cases he : expr f (n.list.getD 2 n) with
           | error q => rw [he] at h; cases h
           | ok y =>
             rw [he] at h; simp only [jJ] at h; subst h; have e1 := XM hns hb; have e2 := ih _ _ _ he hc; rw [Sx.ew]; simp only [je, zO, jy, Vd, Qa]; omega
     . rw [if_neg w1] at h; by_cases w2 : word n = [108, 101, 116]
       . rw [if_pos w2] at h; unfold letExpr at h; cases hq : nodes n 3 3 with
         | error q => rw [hq] at h; cases h
         | ok l =>
           rw [hq] at h; simp only at h; obtain ⟨rfl, hl⟩ := JJ hq; obtain ⟨ws, h2, rfl⟩ := hw.split; obtain ⟨a, b, c, ha, hb, hc, hsum, _⟩ := h2.three (by omega) n; cases hps : nodes (n.list.getD 1 n) 1 8 with
           | error q => rw [hps] at h; cases h
           | ok ps =>
             rw [hps] at h; simp only at h; obtain ⟨hpe, hpl⟩ := JJ hps; cases hbs : each (pair (expr f)) ps with
             | error q => rw [hbs] at h; cases h
             | ok bs =>
               rw [hbs] at h; simp only at h; cases he : expr f (n.list.getD 2 n) with
               | error q => rw [he] at h; cases h
               | ok y =>
                 rw [he] at h; simp only [jJ] at h; subst h; have e2 := ih _ _ _ he hc; obtain ⟨wb, hwb, rfl⟩ := hb.split; rw [<- hpe] at hwb
                 have e1 := Yf (len := fun b : List UInt8 × Expr => (b.1.length + 1) + Sx.ew f b.2) (fun m hm x W hx hW => by
                  unfold pair at hx; cases hz2 : nodes m 2 2 with
                  | error q => rw [hz2] at hx; cases hx
                  | ok l2 =>
                    rw [hz2] at hx; simp only at hx; obtain ⟨rfl, h4⟩ := JJ hz2; obtain ⟨jFW, h5, rfl⟩ := hW.split; obtain ⟨a2, b2, ha2, hb2, hs2, _⟩ := h5.two (by omega) m; cases hz3 : name (m.list.headD m) with
                    | error q => rw [hz3] at hx; cases hx
                    | ok s =>
                      rw [hz3] at hx; simp only at hx; cases KR : expr f (m.list.getD 1 m) with
                      | error q => rw [KR] at hx; cases hx
                      | ok e =>
                        rw [KR] at hx; simp only [jJ] at hx; subst hx; have := WC hz3; have := ha2.ge; have := ih _ _ _ KR hb2; subst s
                        dsimp only
                        omega) hbs hwb
                 rw [sum_add] at e1; have e3 : nw (bs.map (·.1)) = (bs.map fun b : List UInt8 × Expr => b.1.length + 1).sum := by unfold nw; rw [List.map_map]; rfl
                 have e4 : ((bs.map (·.2) ++ [y]).map (Sx.ew f)).sum = (bs.map fun b : List UInt8 × Expr => Sx.ew f b.2).sum + Sx.ew f y := by rw [QN, List.sum_append, List.map_map]; simp; rfl
                 rw [Sx.ew, e3, e4]; simp only [zO, Vd, Qa]; omega
       . rw [if_neg w2] at h; by_cases w3 : word n = [99, 97, 115, 101]
         . rw [if_pos w3] at h; unfold qm at h; cases hq : nodes n 3 18 with
           | error q => rw [hq] at h; cases h
           | ok l =>
             rw [hq] at h; simp only at h; obtain ⟨rfl, hl⟩ := JJ hq; obtain ⟨ws, h2, rfl⟩ := hw.split; obtain ⟨a, b, ha, hb, hsum, hrest⟩ := h2.two (by omega) n; cases he : expr f (n.list.getD 1 n) with
             | error q => rw [he] at h; cases h
             | ok y =>
               rw [he] at h; simp only at h; cases hbs : each (alt f (expr f)) (n.list.drop 2) with
               | error q => rw [hbs] at h; cases h
               | ok bs =>
                 rw [hbs] at h; simp only [jJ] at h; subst h; have e2 := ih _ _ _ he hb
                 have e1 := Yf (len := fun b : QJ × Expr => Sx.pw f b.1 + Sx.ew f b.2) (fun m hm x W hx hW => by
                  unfold alt at hx; cases hz2 : nodes m 2 2 with
                  | error q => rw [hz2] at hx; cases hx
                  | ok l2 =>
                    rw [hz2] at hx; simp only at hx; obtain ⟨rfl, h4⟩ := JJ hz2; obtain ⟨jFW, h5, rfl⟩ := hW.split; obtain ⟨a2, b2, ha2, hb2, hs2, _⟩ := h5.two (by omega) m; cases hz3 : pat f (m.list.headD m) with
                    | error q => rw [hz3] at hx; cases hx
                    | ok s =>
                      rw [hz3] at hx; simp only at hx; cases KR : expr f (m.list.getD 1 m) with
                      | error q => rw [KR] at hx; cases hx
                      | ok e =>
                        rw [KR] at hx; simp only [jJ] at hx; subst hx; have := Tm _ _ _ _ hz3 ha2; have := ih _ _ _ KR hb2
                        dsimp only
                        omega) hbs hrest
                 rw [Sx.ew]; simp only [je, zO, jy, Vd, Qa, nw]; omega
         . rw [if_neg w3] at h; unfold J2 at h; cases hq : nodes n 2 9 with
           | error q => rw [hq] at h; cases h
           | ok l =>
             rw [hq] at h; simp only at h; obtain ⟨rfl, hl⟩ := JJ hq; obtain ⟨ws, h2, rfl⟩ := hw.split; obtain ⟨w0, h3, h4, h5⟩ := h2.gL (by omega) n; have Ar := h3.ge; have fin : ∀ {k : Nat} {nm : List UInt8} {l : List Node} {vs : List Nat}, nm.length <= (n.list.headD n).text.length -> qG NW l vs -> vs.sum + n.text.length + 24 <= n.text.length + 24 + ws.sum -> (l = n.list.tail /\ vs = ws.tail \/ l = n.list /\ vs = ws /\ nm = []) ->
              (match each (expr f) l with | .error p => (.error p : R Expr) | .ok xs => .ok (.mk k n.pos nm 0 [] xs [])) = .ok t -> Sx.ew (f + 1) t + 1 <= n.text.length + 24 + ws.sum := by
              intro k nm l vs hnm hv hvs hor e; cases he : each (expr f) l with
              | error q => rw [he] at e; cases e
              | ok xs =>
                rw [he] at e; simp only [jJ] at e; subst e; have e1 := Yf (len := Sx.ew f) (fun m hm x W hx hW => by have := ih m x W hx hW; omega) he hv; rw [Sx.ew]; simp only [zO, Vd, nw]
                rcases hor with ⟨_, rfl⟩ | ⟨_, rfl, rfl⟩
                . omega
                . simp only [Qa]; omega
             split at h
             . split at h
               . cases h
               . exact fin (jB _) h5 (by omega) (.inl ⟨rfl, rfl⟩) h
             . split at h
               . exact fin (jB _) h5 (by omega) (.inl ⟨rfl, rfl⟩) h
               . exact fin (jh _) h2 (by omega) (.inr ⟨rfl, rfl, rfl⟩) h
   . rw [if_neg h1] at h
     repeat' split at h
     all_goals first | exact FH hw (jB _) h | exact FH hw (jh _) h | cases h
end Px
namespace Px
theorem Nz : ∀ (f : Nat) (n : Node) (t : zR) (W : Nat), Q9 f n = .ok t -> NW n W -> Sx.KS f t + 1 <= W := by
 intro f
 induction f with
 | zero => intro n t W h; cases h
 | succ f ih =>
   intro n t W h hw; have hge := hw.ge; rw [Q9] at h; by_cases h1 : (qY n || qR n) = true
   . rw [if_pos h1] at h; simp only [jJ] at h; subst h; rw [Sx.KS]; simp only [zO, Vd]; omega
   . rw [if_neg h1] at h; cases hq : nodes n 2 9 with
     | error p => rw [hq] at h; cases h
     | ok l =>
       rw [hq] at h; simp only at h; obtain ⟨rfl, hl⟩ := JJ hq; obtain ⟨ws, h2, rfl⟩ := hw.split; obtain ⟨w0, h3, h4, h5⟩ := h2.gL (by omega) n; have Ar := h3.ge
       have fin : ∀ {nm : List UInt8}, nm.length <= (n.list.headD n).text.length + 2 -> (match each (Q9 f) n.list.tail with | .error p => (.error p : R zR) | .ok xs => .ok (.mk n.pos nm xs)) = .ok t -> Sx.KS (f + 1) t + 1 <= n.text.length + 24 + ws.sum := by
        intro nm hnm e; cases he : each (Q9 f) n.list.tail with
        | error p => rw [he] at e; cases e
        | ok xs =>
          rw [he] at e; simp only [jJ] at e; subst e; have hs := Yf (len := Sx.KS f) (fun m hm x W hx hW => by have := ih m x W hx hW; omega) he h5; rw [Sx.KS]; omega
       by_cases hA : word n = [45, 62]
       . simp only [if_pos hA] at h; cases hh : hold n 3 3 with
         | error p => rw [hh] at h; cases h
         | ok u => rw [hh] at h; exact fin (by simp) h
       . simp only [if_neg hA] at h; cases hc : qD (n.list.headD n) with
         | error p => rw [hc] at h; cases h
         | ok nm =>
           rw [hc] at h; have hnm := vL hc; subst hnm; exact fin (by omega) h
theorem Tn (n : Node) (c : dJ) (W : Nat) (h : KJ 50 n = .ok c) (hw : NW n W) : Sx.cw c + 1 <= W := by
 unfold KJ at h; cases hq : nodes n 1 9 with
 | error p => rw [hq] at h; cases h
 | ok l =>
   rw [hq] at h; simp only at h; obtain ⟨rfl, hl⟩ := JJ hq; obtain ⟨ws, h2, rfl⟩ := hw.split; obtain ⟨w0, h3, h4, h5⟩ := h2.gL (by omega) n; have Ar := h3.ge; cases hc : qD (n.list.headD n) with
   | error p => rw [hc] at h; cases h
   | ok nm =>
     rw [hc] at h; simp only at h; have hnm := vL hc; subst hnm; cases he : each (Q9 50) n.list.tail with
     | error p => rw [he] at h; cases h
     | ok xs =>
       rw [he] at h; simp only [jJ] at h; subst h; have hs := Yf (len := Sx.KS 50) (fun m hm x W hx hW => by have := Nz 50 m x W hx hW; omega) he h5; unfold Sx.cw
       dsimp only
       omega
theorem Rk (n : Node) (c : Data) (W : Nat) (h : data 50 n = .ok c) (hw : NW n W) : Sx.dw c + 1 <= W := by
 unfold data at h; cases hq : nodes n 4 103 with
 | error p => rw [hq] at h; cases h
 | ok l =>
   rw [hq] at h; simp only at h; obtain ⟨rfl, hl⟩ := JJ hq; obtain ⟨ws, h2, rfl⟩ := hw.split; obtain ⟨a, b, c', ha, hb, hc3, hsum, hrest⟩ := h2.three (by omega) n; have hbg := hb.ge; cases hc : qD (n.list.getD 1 n) with
   | error p => rw [hc] at h; cases h
   | ok nm =>
     rw [hc] at h; simp only at h; have hnm := vL hc; subst hnm; cases hns : names (n.list.getD 2 n) 0 with
     | error q => rw [hns] at h; cases h
     | ok ps =>
       rw [hns] at h; simp only at h; have e1 := XM hns hc3; cases he : each (KJ 50) (n.list.drop 3) with
       | error p => rw [he] at h; cases h
       | ok xs =>
         rw [he] at h; simp only [jJ] at h; subst h; have hs := Yf (len := Sx.cw) (fun m hm x W hx hW => by have := Tn m x W hx hW; omega) he hrest; unfold Sx.dw
         dsimp only
         omega
theorem Rl (n : Node) (c : Def) (W : Nat) (h : defn 50 n = .ok c) (hw : NW n W) : Sx.fw c + 1 <= W := by
 unfold defn at h; cases hq : nodes n 4 4 with
 | error p => rw [hq] at h; cases h
 | ok l =>
   rw [hq] at h; simp only at h; obtain ⟨rfl, hl⟩ := JJ hq; obtain ⟨ws, h2, rfl⟩ := hw.split; obtain ⟨a, b, c', ha, hb, hc3, hsum, hrest⟩ := h2.three (by omega) n; have hbg := hb.ge; cases hc : name (n.list.getD 1 n) with
   | error p => rw [hc] at h; cases h
   | ok nm =>
     rw [hc] at h; simp only at h; have hnm := WC hc; subst hnm; cases hns : names (n.list.getD 2 n) 0 with
     | error q => rw [hns] at h; cases h
     | ok ps =>
       rw [hns] at h; simp only at h; have e1 := XM hns hc3; cases he : expr 50 (n.list.getD 3 n) with
       | error p => rw [he] at h; cases h
       | ok x =>
         rw [he] at h; simp only [jJ] at h; subst h
         have hd : ∃ d, NW (n.list.getD 3 n) d /\ d <= (ws.drop 3).sum := by
          have hl3 : 1 <= (n.list.drop 3).length := by rw [ja]; omega
          obtain ⟨d, g1, g2, _⟩ := hrest.gL hl3 n; refine ⟨d, ?_, by omega⟩
          have : (n.list.drop 3).headD n = n.list.getD 3 n := by
           rw [jL, List.headD_eq_head?_getD, List.head?_drop]
          rw [<- this]; exact g1
         obtain ⟨d, g1, g2⟩ := hd; have e2 := Rj _ _ _ _ he g1; unfold Sx.fw
         dsimp only
         omega
theorem FI (stop : Nat) : ∀ (f c : Nat) (ts : List Lx.Tok) (p : Prog), prog stop f c ts = .ok p -> (p.jF.map Sx.dw).sum + (p.defs.map Sx.fw).sum <= tw ts := by
 intro f
 induction f with
 | zero => intro c ts p h; simp only [prog, jJ] at h; subst h; simp
 | succ f ih =>
   intro c ts p h; cases ts with
   | nil => simp only [prog, jJ] at h; subst h; simp
   | cons t ts =>
     rw [prog] at h
     . cases hn : node stop (2 * (t :: ts).length + 2) 0 (t :: ts) with
       | error q => rw [hn] at h; cases h
       | ok y =>
         obtain ⟨n, ts'⟩ := y; rw [hn] at h; simp only at h; obtain ⟨W, h1, h2⟩ := (Bd stop (2 * (t :: ts).length + 2) 0 (t :: ts)).1 n ts' hn; by_cases hc : c = 100
         . rw [if_pos hc] at h; cases h
         rw [if_neg hc] at h; by_cases hw1 : word n = [100, 97, 116, 97]
         . rw [if_pos hw1] at h; cases hd : data 50 n with
           | error q => rw [hd] at h; cases h
           | ok d =>
             rw [hd] at h; simp only at h; cases hr : prog stop f (c + 1) ts' with
             | error q => rw [hr] at h; cases h
             | ok q =>
               rw [hr] at h; simp only [jJ] at h; subst h; have e1 := ih _ _ _ hr; have e2 := Rk _ _ _ hd h1; simp only [je, jy]; omega
         . rw [if_neg hw1] at h; by_cases hw2 : word n = [100, 101, 102]
           . rw [if_pos hw2] at h; cases hd : defn 50 n with
             | error q => rw [hd] at h; cases h
             | ok d =>
               rw [hd] at h; simp only at h; cases hr : prog stop f (c + 1) ts' with
               | error q => rw [hr] at h; cases h
               | ok q =>
                 rw [hr] at h; simp only [jJ] at h; subst h; have e1 := ih _ _ _ hr; have e2 := Rl _ _ _ hd h1; simp only [je, jy]; omega
           . rw [if_neg hw2] at h; cases h
     . simp
theorem eZ (l : List UInt8) (p : Prog) (h : program l = .done p) : (p.jF.map Sx.dw).sum + (p.defs.map Sx.fw).sum <= 102400 := by
 unfold program parsed at h; by_cases h0 : 4096 < l.length
 . rw [if_pos h0] at h; cases h
 rw [if_neg h0] at h; have hw := kr (l.length + 1) 0 l; cases ht : Lx.toks (l.length + 1) 0 l with
 | mk ts r =>
   rw [ht] at h hw; cases r with
   | some q => cases h
   | none =>
     simp only at h hw; cases hn : prog l.length (ts.length + 1) 0 ts with
     | error q => rw [hn] at h; cases h
     | ok y =>
       rw [hn] at h; simp only [Outcome.done.injEq] at h; subst h; have := FI _ _ _ _ _ hn; omega
end Px
theorem Zk {f : Nat} {u : World} {v : Value} {p : Px.Prog} (h : ZZ f u v p) : ∃ q1 c1 q2 c2, v = .agg #[.slice q1 p.jF.length c1, .slice q2 p.defs.length c2] := by
 obtain ⟨dv, fv, rfl, h1, h2⟩ := h; obtain ⟨q1, c1, rfl⟩ := h1.len; obtain ⟨q2, c2, rfl⟩ := h2.len; exact ⟨_, _, _, _, rfl⟩
theorem Vr {ds : List Px.Data} {nm : Nm} {c : Int} (h : Dt ds nm = some c) : vJ ds nm = c := by rw [vJ, h]
theorem Le {ds : List Px.Data} {nm : Nm} (h : Dt ds nm = none) : vJ ds nm = -1 := by rw [vJ, h]
theorem ek {nm : Nm} (h1 : nm ≠ MX) (h2 : nm ≠ Hq) (h3 : nm ≠ MZ) : given nm = none := by simp [given, VD, h1, h2, h3]
theorem eu (f : Nat) (p : Px.Prog) (v : Value) (nm : Nm) (w : World) (hp : ZZ f w v p) (hw : (p.jF.map Sx.dw).sum <= 400000) :
 Calls Tryd.prog 68 #[v, .string ⟨nm.toArray⟩] w fun e w' => e = .returned (.int .i64 (vJ p.jF nm)) /\ Below w.heap.size w w' := by
 obtain ⟨dv, fv, rfl, h1, h2⟩ := hp; obtain ⟨q1, c1, rfl⟩ := h1.len; obtain ⟨q2, c2, rfl⟩ := h2.len; have HR := hid h1; have hdl : p.jF.length <= 400000 := jS (Sx.ZT Sx.dw _ (fun x _ => by unfold Sx.dw; omega)) hw; clear h1 h2 hw; go_enter Tryd.func68, Tryd.ntmps68; have EX := hid (jb w #[.slice q1 p.jF.length c1, .slice q2 p.defs.length c2] 26); have HB := hid (show Below w.heap.size w (w.alloc (.cells #[.slice q1 p.jF.length c1, .slice q2 p.defs.length c2] 26)) from (jD _ _).alloc (jB _) _); go_upto_region 1 with fail
 generalize w.alloc (.cells #[.slice q1 p.jF.length c1, .slice q2 p.defs.length c2] 26) = w1 at EX HB ⊢; obtain ⟨e0, e1⟩ := xQ2 EX; go_wp2_with fail
 go_loopw [5] (fun i wr => ∃ k : Nat, i = .int .i64 ((k : Int) - 1) /\ k <= p.jF.length /\ Hid (Dt p.jF nm = ((p.jF.take k).foldl yG given) nm) /\ wr = w1) (fun i _ => (intOf i + 1).toNat)
 case atStart => exact ⟨p.jF.length, by go_num, jB _, hid (by rw [jY]; rfl), rfl⟩
 case round =>
  obtain ⟨k, rfl, hk, HT, rfl⟩ := hrel; by_cases hk0 : k = 0
  . subst hk0; have hT : Dt p.jF nm = given nm := HT.out; by_cases hf : nm = MX
    . subst hf; have HV := hid (Vr (hT.trans (show given MX = some 0 by decide))); clear hT HT; go_wp2_with fail; go_ret; exact ⟨by rw [HV.out]; rfl, HB.out⟩
    . have ha : ¬ (⟨nm.toArray⟩ : ByteArray) = { data := #[73, 110, 116] } := Gn hf; have ha2 : (nm == [73, 110, 116]) = false := qF.2 hf; have Xt : ¬ nm.toArray = #[73, 110, 116] := fun e => hf (show nm = [73, 110, 116] by simpa using congrArg Array.toList e)
      by_cases ht : nm = Hq
      . subst ht; have HV := hid (Vr (hT.trans (show given Hq = some 0 by decide))); clear hT HT; go_wp2_with fail; go_ret; exact ⟨by rw [HV.out]; rfl, HB.out⟩
      . have hb : ¬ (⟨nm.toArray⟩ : ByteArray) = { data := #[66, 111, 111, 108] } := Gn ht; have hb2 : (nm == [66, 111, 111, 108]) = false := qF.2 ht; have hb3 : ¬ nm.toArray = #[66, 111, 111, 108] := fun e => ht (show nm = [66, 111, 111, 108] by simpa using congrArg Array.toList e)
        by_cases hc : nm = MZ
        . subst hc; have HV := hid (Vr (hT.trans (show given MZ = some 0 by decide))); clear hT HT; go_wp2_with fail; go_ret; exact ⟨by rw [HV.out]; rfl, HB.out⟩
        . skip
          have hd2 : (nm == [67, 112, 120]) = false := qF.2 hc; have HV := hid (Le (hT.trans (ek hf ht hc))); clear hT HT; go_wp2_with fail; go_ret; exact ⟨by rw [HV.out]; rfl, HB.out⟩
  . obtain ⟨m, rfl⟩ : ∃ m, k = m + 1 := ⟨k - 1, by omega⟩
    obtain ⟨d, hd⟩ : ∃ x, p.jF[m]? = some x := ⟨_, jA (by omega)⟩
    rcases HR.out with ⟨h0, _⟩ | ⟨g, of, c', hv, g1, g2, g3⟩
    . rw [h0] at hk; simp at hk
    injection hv with hq1 _ hq2
    subst hq1; subst hq2
    obtain ⟨u, hu, _, hcell⟩ := g3 m d hd; obtain ⟨q3, c3, q4, c4, rfl, _, hcr⟩ := Vl hu; have z1 := jC HB (hcell 1 _ rfl); have z2 := jC HB (hcell 2 _ rfl); have z3 := jC HB (hcell 3 _ rfl)
    have hk1 : (m : Int) < (p.jF.length : Int) := by omega
    have hk2 : (p.jF.length : Int) <= (c1 : Int) := by omega
    have hk3 := g2; have hm1 : ((m + 1 : Nat) : Int) - 1 = (m : Int) := by omega
    rw [hm1]; have HT2 : Hid (Dt p.jF nm = yG ((p.jF.take m).foldl yG given) d nm) := hid (by rw [HT.out, Us yG p.jF m d hd]); clear g1 g2 g3 hcell hu hd hcr HT; by_cases he : d.name = nm
    . have HV := hid (Vr (show Dt p.jF nm = some (d.params.length : Int) by rw [HT2.out, yG, VD, if_pos he.symm])); rw [he] at z1; clear HT2; go_wp2_with fail; go_ret; exact ⟨by rw [HV.out]; rfl, HB.out⟩
    . have hne : (d.name == nm) = false := qF.2 he; have rR := hid (HT2.out.trans (by rw [yG, VD, if_neg (fun e => he e.symm)])); clear HT2; go_wp2_with fail
      go_roundw
      case rel => exact ⟨m, by go_num, by omega, rR, trivial⟩
      case measure => first | (simp [intOf]; done) | (simp [intOf]; omega)
def GJ (w : World) (l : List Nat) (e : Ending) (w' : World) : Prop := ∃ v, e = .returned v /\ Below w.heap.size w w' /\ zW w' w.heap.size v l
theorem XN {w : World} {g b p : Nat} (h : w.heap[g]? = some (.cells #[encI p] 3 (0, 0))) (hb : b <= g) : zW w b (.slice (some ⟨g, 0, none⟩) 1 1) [p] :=
 ⟨rfl, .inr ⟨g, 1, #[encI p], rfl, hb, h, jB _, by unfold maxLen; omega, rfl, rfl⟩⟩
theorem Y0 (w : World) (b : Nat) : zW w b (.slice none 0 0) [] := jo _ _ _ _
theorem YR {w : World} {b : Nat} {v : Value} {l : List Nat} (h : zW w b v l) : rW w v l := Ml h rfl
theorem zx {w : World} {b b' : Nat} {v : Value} {l : List Nat} (h : zW w b v l) (hb : b' <= b) : zW w b' v l := by
 refine ⟨h.1, ?_⟩
 rcases h.2 with h | ⟨g, cap, cur, h1, h2, h3⟩
 . exact .inl h
 . exact .inr ⟨g, cap, cur, h1, jS hb h2, h3⟩
theorem zg {w w' : World} {b b' : Nat} {v v' iv : Value} {l l0 : List Nat} {li : List Nm} (h : uP encI 3 w b v l v' w') (ho : zW w b v l0) (hi : QW w b' iv li) : QW w' b' iv li :=
 Qp hi fun g hg => h.2.1.block g (hi.lt g hg).2 (fun e => yO ho hi (by decide) g e.symm hg)
theorem XO (f : Nat) (p : Px.Prog) (v : Value) (nm : Nm) (n : Int) (pos : Nat) (w : World) (hp : ZZ f w v p) (hw : (p.jF.map Sx.dw).sum <= 400000) :
 Calls Tryd.prog 49 #[v, .string ⟨nm.toArray⟩, .int .i64 n, .int .i64 pos] w (GJ w (YV p.jF nm n pos)) := by
 obtain ⟨q1, c1, q2, c2, rfl⟩ := Zk hp; have HP := hid hp; have HW := hid hw; clear hp hw; go_enter Tryd.func49, Tryd.ntmps49; have EX := hid (jb w #[.slice q1 p.jF.length c1, .slice q2 p.defs.length c2] 26); have HB := hid (show Below w.heap.size w (w.alloc (.cells #[.slice q1 p.jF.length c1, .slice q2 p.defs.length c2] 26)) from (jD _ _).alloc (jB _) _); go_upto_region 1 with fail
 generalize w.alloc (.cells #[.slice q1 p.jF.length c1, .slice q2 p.defs.length c2] 26) = w1 at EX HB ⊢; obtain ⟨e0, e1⟩ := xQ2 EX; go_wp2_with fail; clear e0 e1 EX; refine (NG f p _ nm _ (qz HP HB) HW).mono ?_; rintro e w2 ⟨rfl, hb2⟩; have HB2 := bT HB hb2; clear hb2 HP HW HB; have hs2 := HB2.out.size; cases hc : ZU p.jF nm with
 | none =>
   have HC := hid (show YV p.jF nm n pos = [pos] by rw [YV, fD, hc]; rfl); rw [xY hc]; clear hc; have E3 := hid (jb w2 #[encI pos] 3); go_wp2_with fail; go_ret; rw [HC.out]; exact ⟨_, rfl, HB2.out.alloc HB2.out.size _, XN E3 hs2⟩
 | some c =>
   rw [vH hc]; by_cases hn : c.2.2 = n
   . have HC := hid (show YV p.jF nm n pos = [] by rw [YV, fD, hc]; simp [one, hn]); rw [hn]; clear hc; go_wp2_with fail; go_ret; rw [HC.out]; exact ⟨_, rfl, HB2.out, Y0 _ _⟩
   . have HC := hid (show YV p.jF nm n pos = [pos] by rw [YV, fD, hc]; simp [one, hn]); have hn2 : (c.2.2 != n) = true := by simp [hn]
     clear hc; have E3 := hid (jb w2 #[encI pos] 3); go_wp2_with fail; go_ret; rw [HC.out]; exact ⟨_, rfl, HB2.out.alloc HB2.out.size _, XN E3 hs2⟩
theorem GK : ∀ (a b : List Nm) (c : Nm -> Int), yR c (a ++ b) = true -> yR c a = true
 | [], b, c, _ => rfl
 | s :: r, b, c, h => by
   rw [JQ, yR, Ji] at h; rw [yR, Ji]; exact ⟨h.1, GK r b _ h.2⟩
theorem EE {l : List Nm} {k : Nat} {s : Nm} (h : l[k]? = some s) : yR (fun _ => 0) (l.take (k + 1)) = (yR (fun _ => 0) (l.take k) && !Qi (l.take k) s) := by
 rw [JC, h, zM, dZ, Ho]
 congr 1
 rw [Y7]; simp only [Qv, Bool.not_eq_true', Qi]; rw [<- Bool.not_eq_true, uL, <- List.count_pos_iff]; omega
theorem pE {α : Type} {sz : Nat} {Js : Value -> α -> Prop} {w : World} {q : Option Addr} {n c : Nat} {l : List α} (h : JO sz Js w (.slice q n c) l) (k : Nat) (hk : k <= l.length) : JO sz Js w (.slice q k c) (l.take k) := by
 by_cases h0 : k = 0
 . subst h0; exact .inl ⟨rfl, _, _, rfl⟩
 . rcases h with ⟨h1, _⟩ | ⟨g, o, c', hv, g1, g2, g3⟩
   . subst h1; simp at hk; omega
   . injection hv with e1 e2 e3
     subst e1; subst e3
     refine .inr ⟨g, o, c, by rw [Jh, Nat.min_eq_left hk], by rw [Jh]; omega, g2, fun i x hi => ?_⟩; rw [List.getElem?_take] at hi
     split at hi
     . exact g3 i x hi
     . cases hi
theorem Y1 (lv : Value) (l : List Nm) (w : World) (hr : Yk w lv l) (hl : l.length <= 400000) :
 Calls Tryd.prog 17 #[lv] w fun e w' => e = .returned (.bool (Qr l)) /\ Below w.heap.size w w' := by
 obtain ⟨q, cp, rfl⟩ := hr.len; have HR := hid hr; go_enter Tryd.func17, Tryd.ntmps17; go_wp2_with fail
 go_loopw [3] (fun i wr => ∃ k : Nat, i = .int .i64 k /\ k <= l.length /\ Hid (yR (fun _ => 0) (l.take k) = true) /\ Hid (Below w.heap.size w wr)) (fun i _ => l.length - (intOf i).toNat)
 case atStart => exact ⟨0, rfl, jh _, hid rfl, hid (jD _ _)⟩
 case round =>
  obtain ⟨k, rfl, hk, HN, HB⟩ := hrel; by_cases hlt : k < l.length
  . obtain ⟨x, hx⟩ : ∃ x, l[k]? = some x := ⟨_, jA hlt⟩
    rcases HR.out with ⟨h0, _⟩ | ⟨g, of, c', hv, g1, g2, g3⟩
    . rw [h0] at hlt; simp at hlt
    injection hv with hq1 _ hq2
    subst hq1; subst hq2
    obtain ⟨u, hu, _, hcell⟩ := g3 k x hx; have hu' : u = .string ⟨x.toArray⟩ := hu; subst hu'; have h0 := jC HB (hcell 0 _ rfl); simp only [qX, jZ] at h0; have hk1 : (k : Int) < (l.length : Int) := by omega
    have hk2 : (l.length : Int) <= (cp : Int) := by omega
    have hk4 : (k : Int) <= (cp : Int) := by omega
    have Lf := hid (EE hx); have uU := fun (w' : World) (hb : Below wr.heap.size wr w') => Qf _ (l.take k) x w' (pE (JM HR (HB.out.trans (hb.mono HB.out.size))) k hk)
    clear g1 g2 g3 hcell hu hx hr; go_wp2_with fail
    go_quiet ((go_at_call 19; exact Calls.quiet_of_same (uU _ (below_drewN (jD _ wr) _))))
    have Au := hid (below_drewN HB.out nq); generalize wr.drewN nq = w2 at Au ⊢; cases hh : Qi (l.take k) x with
    | true =>
      have HV := hid (show Qr l = true by
       have h1 := Lf.out; rw [hh, Bool.not_true, Bool.and_false] at h1; rw [Qr]; cases h2 : yR (fun _ => 0) l with
       | false => rfl
       | true =>
         rw [<- uK (k + 1) l] at h2; rw [GK _ _ _ h2] at h1
         cases h1)
      clear hh uU h0; go_wp2_with fail; go_ret; exact ⟨by rw [HV.out]; rfl, Au.out⟩
    | false =>
      have l9 := hid (show yR (fun _ => 0) (l.take (k + 1)) = true by rw [Lf.out, hh, HN.out]; rfl); clear hh uU h0; go_wp2_with fail
      go_roundw
      case rel => exact ⟨k + 1, by go_num, by omega, l9, Au⟩
      case measure => simp [intOf]; omega
  . obtain rfl : k = l.length := by omega
    have HV := hid (show Qr l = false by have := HN.out; rw [jY] at this; rw [Qr, this]; rfl); go_wp2_with fail; go_ret; exact ⟨by rw [HV.out]; rfl, HB.out⟩
end Go.Proofs.YtlnjdclmopblcaaDoor
