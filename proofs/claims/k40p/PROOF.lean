import PyProof.Rows.All
import Wide.All
import OpenK.AllK
import Wide.FinOn
import HandS.ForMost
import HandS.Wide
import HandS.Gcd
import HandS.Style
import HandS.More
import HandS.IsInst
import HandS.Evl
import HandS.ExcOwn
import PyProof.ReprLen
import PyProof.ReprRoads
import PyProof.StrReplace2
import PyProof.Rows.Digits
import PyProof.ReprNest
import PyProof.ReprDict
import HandS.Exc
import HandS.WordsExc
import HandS.RevRange
import PyProof.EqAt
import PyProof.NeKinds
import HandS.ExcIs
import HandS.TryOnly
import HandS.HotCalls
import HandS.ExcField
import HandS.ExcCtx
import KE.KExcIs
import HandS.ExcInit
import HandS.Nested
import KE.KExcSuper
import HandS.GenList
import PySem.Challenge.RW_sliders_k40_errors_of_moves
set_option Elab.async false
set_option linter.all false
set_option maxRecDepth 100000
set_option maxHeartbeats 4000000
namespace SL
open PySem PySem.Spec PyProof.Rows L2
/-! ### names for readings -/
def rAddI : R2 := rI0 fun i j => .int (i + j)
def rSubI : R2 := rI0 fun i j => .int (i - j)
def rMulI : R2 := rI CMulW fun i j => .int (i * j)
def rModI : R2 := rI (fun _ j => 0 < j) fun i j => .int (i % j)
def rDivI : R2 := rI CDivW fun i j => .int (i / j)
def CPowW (i j : Int) : Prop := 0 ≤ j ∧ (Builtin.Int.intBits i : Int) * j ≤ 2 ^ 27
def rPowI : R2 := rI CPowW fun i j => .int (i ^ j.toNat)
def rLtI : R2 := rI0 fun i j => .bl (decide (i < j))
def rLeI : R2 := rI0 fun i j => .bl (decide (i ≤ j))
def rGtI : R2 := rI0 fun i j => .bl (decide (j < i))
def rGeI : R2 := rI0 fun i j => .bl (decide (j ≤ i))
def rNegI : V → Hp → VK → Prop := rU fun i => .int (-i)
def rIsTyp : R2 := fun x y H Q => ∃ m n, x = .ty m ∧ y = .ty n ∧ Q (.bl (decide (m = n))) H
def rNotTyp : R2 := fun x y H Q => ∃ m n, x = .ty m ∧ y = .ty n ∧ Q (.bl (!decide (m = n))) H
def rIsNon : R2 := fun x y H Q => y = .non ∧ Q (.bl (decide (x = .non))) H
def rNotNon : R2 := fun x y H Q => y = .non ∧ Q (.bl (!decide (x = .non))) H
def rMin2 : List V → Hp → VK → Prop := fun xs H Q => ∃ i j, xs = [.int i, .int j] ∧ Q (.int (if j < i then j else i)) H
section
variable {X : Cx}
theorem op_powW : OpR X (binaryOp .Pow) rPowI := opI fun _ _ _ _ _ _ _ hc q => pow_int hc.1 hc.2 q
end
theorem intBits_le {i : Int} {a : Nat} (h : i.natAbs < 2 ^ a) (h0 : 0 < a) : Builtin.Int.intBits i ≤ a := by
  have x := PySem.Flt.log2_lt_of h0 h
  unfold Builtin.Int.intBits
  split <;> omega
theorem cpow_of {i j : Int} {a : Nat} (h : i.natAbs < 2 ^ a) (h0 : 0 < a) (hj : 0 ≤ j) (hs : (a : Int) * j ≤ 2 ^ 27) : CPowW i j := by
  refine ⟨hj, ?_⟩
  have := intBits_le h h0
  have h2 : (Builtin.Int.intBits i : Int) ≤ a := by omega
  exact Int.le_trans (Int.mul_le_mul_of_nonneg_right h2 hj) hs
/-! ### heaps -/
open Evl (Ex Ev EvL EvU EvT EvA EvO SpV SpL RetV RetL)
/-- a list of ints at a -/
def LI (H : Hp) (a : Addr) (ns : List Int) : Prop := H a = some (.lst (ns.map V.int))
/-- a tuple of ints at a -/
def TI3 (K : PySem.W.Frag) (H : Hp) (a : Addr) (ns : List Int) : Prop := SqT K H a (ns.map V.int)
theorem LI.ex {H H' : Hp} {a : Addr} {ns : List Int} (h : LI H a ns) (e : Ex H H') : LI H' a ns := e _ _ h
theorem LI.sq {K : PySem.W.Frag} {H : Hp} {a : Addr} {ns : List Int} (h : LI H a ns) : SqL K H a (ns.map V.int) := .inl (.inl h)
def RetU (xs : List V) (H : Hp) (Q : VK) : Prop := ∀ p H2, H p = none → Ex H H2 → H2 p = some (.tup xs) → Q (.ref p) H2
def SpU (sp : Sp) (vs : List V) (H : Hp) (xs : List V) : Prop := ∀ H1, Ex H H1 → ∀ Q : VK, (∀ p H2, H1 p = none → Ex H1 H2 → H2 p = some (.tup xs) → Q (.ref p) H2) → ∀ E : XK, sp vs H1 Q E
end SL

/-! values without a heap (D), what they stand for (Rp), slots at rest (Rep) -/
namespace PD
open PySem PySem.Spec PyProof.Rows L2 Evl
inductive D where
  | non | bl (b : Bool) | int (i : Int) | str (x : Str) | ty (n : String) | ad (a : Addr) | dk (kvs : List (Int × Int)) | cls (n : Str) | exc (n : Str) (ix : Option Int) | scr (ns : List Int) | lst (xs : List D) | tup (xs : List D) | ml (i : Int) (ms : List D)
abbrev D.emp : D := .dk []
/-- a dict of whole numbers, as it is tracked -/
def kvD (kvs : List (Int × Int)) : List (Key × V) := kvs.map fun p => (.inl p.1, .int p.2)
abbrev AS := Addr → Prop
/-- a class of the program, by its name at the top -/
def exV (K : PySem.W.Frag) (n : Str) : Value := match PySem.W.nsIn K mainGlobals n with
  | some (some v) => v
  | _ => .none
def adE (K : PySem.W.Frag) (n : Str) : Addr := match exV K n with
  | .ref a => a
  | _ => 0
/-- an exception that was caught: its class, its dict; its context is None -/
def exO (a : Addr) (c : Value) (dd : Option Addr) : HO := .ext fun h => ∃ o fv, h.get? a = some o ∧ o.cls = c ∧ o.dict = dd ∧ o.data = .fields fv ∧ fv[2]? = some .none
def QB (K : PySem.W.Frag) (H : Hp) (B : AS) (a : Addr) (xs : List V) : Prop :=
  (Rd H a (.lst xs) ∧ ¬ B a) ∨ ∃ (o : Obj) (its : Array Value) (n : Nat), K.lookup a = some o ∧ o.cls = .type "list" ∧ o.dict = none ∧ o.data = .seq its n ∧ its.size ≤ sizeLine ∧ Vals xs its.toList
def LB (K : PySem.W.Frag) (H : Hp) (B : AS) (a : Addr) (xs : List V) : Prop := H a = some (.lst xs) ∧ ¬ B a
def TB (K : PySem.W.Frag) (H : Hp) (B : AS) (a : Addr) (xs : List V) : Prop := H a = some (.tup xs) ∧ ¬ B a
theorem QB.sq {K : PySem.W.Frag} {H : Hp} {B : AS} {a : Addr} {xs : List V} (h : QB K H B a xs) : SqL K H a xs := h.imp And.left id
theorem LB.sq {K : PySem.W.Frag} {H : Hp} {B : AS} {a : Addr} {xs : List V} (h : LB K H B a xs) : SqL K H a xs := .inl (.inl h.1)
theorem TB.sq {K : PySem.W.Frag} {H : Hp} {B : AS} {a : Addr} {xs : List V} (h : TB K H B a xs) : SqT K H a xs := .inl (.inl h.1)
inductive Rp (K : PySem.W.Frag) (H : Hp) (B : AS) : V → D → Prop
  | non : Rp K H B .non .non
  | bl (b : Bool) : Rp K H B (.bl b) (.bl b)
  | int (i : Int) : Rp K H B (.int i) (.int i)
  | str (x : Str) : Rp K H B (.str x) (.str x)
  | ty (n : String) : Rp K H B (.ty n) (.ty n)
  | ad (a : Addr) : Rp K H B (.ref a) (.ad a)
  | cls (n : Str) : Rp K H B (.ref (adE K n)) (.cls n)
  | exc0 {a : Addr} {n : Str} : H a = some (exO a (exV K n) none) → ¬ B a → Rp K H B (.ref a) (.exc n none)
  | exc1 {a p : Addr} {n : Str} {j : Int} : H a = some (exO a (exV K n) (some p)) → ¬ B a → H p = some (.xd [("index", .int j)]) → ¬ B p → Rp K H B (.ref a) (.exc n (some j))
  | scr {a : Addr} {ns : List Int} : QB K H B a (ns.map V.int) → Rp K H B (.ref a) (.scr ns)
  | dk {a : Addr} {kvs : List (Int × Int)} : H a = some (.dK (kvD kvs)) → ¬ B a → Rp K H B (.ref a) (.dk kvs)
  | lst {a : Addr} {xs : List V} {ds : List D} : LB K H B a xs → Paired (Rp K H B) xs ds → Rp K H B (.ref a) (.lst ds)
  | tup {a : Addr} {xs : List V} {ds : List D} : TB K H B a xs → Paired (Rp K H B) xs ds → Rp K H B (.ref a) (.tup ds)
  | ml {a dx l : Addr} {i : Int} {xs : List V} {ds : List D} : H a = some (.ins (adE K "MoveList") dx [("_sliders", .int i), ("_moves", .ref l)]) → ¬ B a → LB K H B l xs → Paired (Rp K H B) xs ds → Rp K H B (.ref a) (.ml i ds)
abbrev RpA (K : PySem.W.Frag) (H : Hp) (B : AS) : List V → List D → Prop := Paired (Rp K H B)
section
variable {K : PySem.W.Frag} {H H' : Hp} {B B' : AS}
theorem rd_keep {a : Addr} {u : HO} (g : ∀ o, H a = some o → H' a = some o) (h : Rd H a u) : Rd H' a u := by
  rcases h with h | ⟨o, h⟩
  · exact .inl (g _ h)
  · exact .inr ⟨o, g _ h⟩
theorem rd_some {a : Addr} {u : HO} (h : Rd H a u) : ∃ o, H a = some o := by
  rcases h with h | ⟨o, h⟩
  · exact ⟨_, h⟩
  · exact ⟨_, h⟩
theorem QB.mono {a : Addr} {xs : List V} (g : ∀ a o, H a = some o → ¬ B a → H' a = some o ∧ ¬ B' a) (h : QB K H B a xs) : QB K H' B' a xs := by
  rcases h with ⟨h, n⟩ | h
  · obtain ⟨o, ho⟩ := rd_some h
    exact .inl ⟨rd_keep (fun o ho => (g a o ho n).1) h, (g a o ho n).2⟩
  · exact .inr h
theorem LB.mono {a : Addr} {xs : List V} (g : ∀ a o, H a = some o → ¬ B a → H' a = some o ∧ ¬ B' a) (h : LB K H B a xs) : LB K H' B' a xs := g a _ h.1 h.2
theorem TB.mono {a : Addr} {xs : List V} (g : ∀ a o, H a = some o → ¬ B a → H' a = some o ∧ ¬ B' a) (h : TB K H B a xs) : TB K H' B' a xs := g a _ h.1 h.2
mutual
theorem Rp.mono (g : ∀ a o, H a = some o → ¬ B a → H' a = some o ∧ ¬ B' a) : ∀ (d : D) (v : V), Rp K H B v d → Rp K H' B' v d
  | .non, _, h => by cases h; exact .non
  | .bl b, _, h => by cases h; exact .bl b
  | .int i, _, h => by cases h; exact .int i
  | .str x, _, h => by cases h; exact .str x
  | .ty x, _, h => by cases h; exact .ty x
  | .ad x, _, h => by cases h; exact .ad x
  | .cls x, _, h => by cases h; exact .cls x
  | .exc x ix, _, h => by
    cases h with
    | exc0 h n => exact .exc0 (g _ _ h n).1 (g _ _ h n).2
    | exc1 h n h2 n2 => exact .exc1 (g _ _ h n).1 (g _ _ h n).2 (g _ _ h2 n2).1 (g _ _ h2 n2).2
  | .dk kvs, _, h => by cases h with | dk h n => exact .dk (g _ _ h n).1 (g _ _ h n).2
  | .scr ns, _, h => by cases h with | scr h => exact .scr (h.mono g)
  | .lst ds, _, h => by
    cases h with
    | lst h1 h2 => exact .lst (h1.mono g) (RpA.mono g ds _ h2)
  | .tup ds, _, h => by
    cases h with
    | tup h1 h2 => exact .tup (h1.mono g) (RpA.mono g ds _ h2)
  | .ml i ds, _, h => by
    cases h with
    | ml h n h3 h4 => exact .ml (g _ _ h n).1 (g _ _ h n).2 (h3.mono g) (RpA.mono g ds _ h4)
theorem RpA.mono (g : ∀ a o, H a = some o → ¬ B a → H' a = some o ∧ ¬ B' a) : ∀ (ds : List D) (xs : List V), Paired (Rp K H B) xs ds → Paired (Rp K H' B') xs ds
  | [], _, h => by cases h; exact .nil
  | d :: ds, _, h => by
    cases h with
    | cons h1 h2 => exact .cons (Rp.mono g d _ h1) (RpA.mono g ds _ h2)
end
/-- fewer addresses are avoided -/
theorem Rp.less {v : V} {d : D} (g : ∀ a, B' a → B a) (h : Rp K H B v d) : Rp K H B' v d := Rp.mono (fun a o e n => ⟨e, fun z => n (g a z)⟩) d v h
theorem RpA.less {v : List V} {d : List D} (g : ∀ a, B' a → B a) (h : RpA K H B v d) : RpA K H B' v d := RpA.mono (fun a o e n => ⟨e, fun z => n (g a z)⟩) d v h
end
/-! no list within: nothing of one's own can be reached -/
mutual
def D.lf : D → Bool
  | .lst _ => false
  | .dk _ => false
  | .scr _ => false
  | .ml _ _ => false
  | .tup ds => D.lfA ds
  | .non => true
  | .bl _ => true
  | .int _ => true
  | .str _ => true
  | .ty _ => true
  | .ad _ => true
  | .cls _ => true
  | .exc _ _ => true
def D.lfA : List D → Bool
  | [] => true
  | d :: ds => d.lf && D.lfA ds
end
section
variable {K : PySem.W.Frag} {H : Hp} {B B' : AS}
mutual
theorem Rp.lf (g : ∀ a, B' a → ∃ xs, H a = some (.lst xs)) : ∀ (d : D) (v : V), d.lf = true → Rp K H B v d → Rp K H B' v d
  | .non, _, _, h => by cases h; exact .non
  | .bl b, _, _, h => by cases h; exact .bl b
  | .int i, _, _, h => by cases h; exact .int i
  | .str x, _, _, h => by cases h; exact .str x
  | .ty x, _, _, h => by cases h; exact .ty x
  | .ad x, _, _, h => by cases h; exact .ad x
  | .cls x, _, _, h => by cases h; exact .cls x
  | .exc x ix, _, _, h => by
    have no : ∀ {a : Addr} {o : HO}, H a = some o → (∀ xs, o ≠ .lst xs) → ¬ B' a := fun {a o} e n z => by
      obtain ⟨xs, e2⟩ := g a z
      rw [e] at e2
      exact n xs (Option.some.inj e2)
    cases h with
    | exc0 h n => exact .exc0 h (no h fun xs z => by cases z)
    | exc1 h n h2 n2 => exact .exc1 h (no h fun xs z => by cases z) h2 (no h2 fun xs z => by cases z)
  | .dk _, _, e, h => by simp [D.lf] at e
  | .scr ns, _, e, h => by simp [D.lf] at e
  | .lst ds, _, e, h => by simp [D.lf] at e
  | .ml _ _, _, e, h => by simp [D.lf] at e
  | .tup ds, _, e, h => by
    cases h with
    | tup h1 h2 =>
      refine .tup ⟨h1.1, fun z => ?_⟩ (RpA.lf g ds _ (by simpa [D.lf] using e) h2)
      obtain ⟨xs, g⟩ := g _ z
      rw [h1.1] at g; cases g
theorem RpA.lf (g : ∀ a, B' a → ∃ xs, H a = some (.lst xs)) : ∀ (ds : List D) (xs : List V), D.lfA ds = true → Paired (Rp K H B) xs ds → Paired (Rp K H B') xs ds
  | [], _, _, h => by cases h; exact .nil
  | d :: ds, _, e, h => by
    cases h with
    | cons h1 h2 =>
      simp only [D.lfA, Bool.and_eq_true] at e
      exact .cons (Rp.lf g d _ e.1 h1) (RpA.lf g ds _ e.2 h2)
end
end
/-! ### slots -/
inductive Wd where
  | d (x : D) | o (xs : List D) | s
abbrev Env := List (Option Wd)
def OwnW : Option (Option Wd) → Prop
  | some (some (.o _)) => True
  | some (some .s) => True
  | _ => False
def Own (ρ : Env) (σ : L2.St) : AS := fun a => ∃ i : Nat, OwnW ρ[i]? ∧ σ[i]? = some (some (.ref a))
def Sa (ρ : Env) (σ : L2.St) : AS := fun a => ∃ i : Nat, ρ[i]? = some (some .s) ∧ σ[i]? = some (some (.ref a))
structure Gx where
  K : PySem.W.Frag
  Wf : Nat → List V → Prop
  wm : ∀ n m vs, n ≤ m → Wf n vs → Wf m vs
structure Cf where
  g : Gx
  F : AS
  P0 : AS
  H0 : Hp
  kd : List (V × D)
def Bs (c : Cf) (ρ : Env) (σ : L2.St) : AS := fun a => c.F a ∨ c.P0 a ∨ Own ρ σ a
def SrcAt (c : Cf) (a : Addr) (N : Nat) (H : Hp) : Prop := ∃ vs, H a = some (.lst vs) ∧ c.g.Wf N vs
theorem SrcAt.mono {c : Cf} {a : Addr} {N M : Nat} {H : Hp} (h : SrcAt c a N H) (e : N ≤ M) : SrcAt c a M H := by
  obtain ⟨vs, h, w⟩ := h
  exact ⟨vs, h, c.g.wm _ _ _ e w⟩
def Ext (P : AS) (H H' : Hp) : Prop := ∀ a o, H a = some o → ¬ P a → H' a = some o
theorem Ext.refl {P : AS} {H : Hp} : Ext P H H := fun _ _ h _ => h
theorem Ext.trans {P : AS} {H H1 H2 : Hp} (x : Ext P H H1) (y : Ext P H1 H2) : Ext P H H2 := fun a o h n => y a o (x a o h n) n
theorem Ext.of {P : AS} {H H' : Hp} (e : Ex H H') : Ext P H H' := fun a o h _ => e a o h
structure Rep (c : Cf) (N : Nat) (ρ : Env) (σ : L2.St) (H : Hp) : Prop where
  len : ρ.length = σ.length
  d : ∀ (i : Nat) x, ρ[i]? = some (some (.d x)) → ∃ v, σ[i]? = some (some v) ∧ Rp c.g.K H (Bs c ρ σ) v x
  o : ∀ (i : Nat) xs, ρ[i]? = some (some (.o xs)) → ∃ a vs, σ[i]? = some (some (.ref a)) ∧ H a = some (.lst vs) ∧ RpA c.g.K H (Bs c ρ σ) vs xs ∧ c.H0 a = none
  s : ∀ i : Nat, ρ[i]? = some (some .s) → ∃ a, σ[i]? = some (some (.ref a)) ∧ SrcAt c a N H ∧ (c.P0 a ∨ c.H0 a = none)
  dis : ∀ (i j : Nat) a, OwnW ρ[i]? → OwnW ρ[j]? → σ[i]? = some (some (.ref a)) → σ[j]? = some (some (.ref a)) → i = j
  ext : ∀ a o, c.H0 a = some o → ¬ c.P0 a → H a = some o
  p0 : ∀ a, c.P0 a → (∃ o, c.H0 a = some o) ∧ SrcAt c a N H
  fr : ∀ a, c.F a → ¬ Own ρ σ a ∧ ¬ c.P0 a ∧ ∃ xs, H a = some (.lst xs)
  kd : ∀ p ∈ c.kd, Rp c.g.K H (Bs c ρ σ) p.1 p.2
section
variable {c : Cf} {N M : Nat} {ρ : Env} {σ : L2.St} {H H' : Hp}
theorem own_cases {x : Option (Option Wd)} (h : OwnW x) : (∃ xs, x = some (some (.o xs))) ∨ x = some (some .s) := by
  match x, h with
  | some (some (.o xs)), _ => exact .inl ⟨xs, rfl⟩
  | some (some .s), _ => exact .inr rfl
theorem sa_own {a : Addr} (h : Sa ρ σ a) : Own ρ σ a := by
  obtain ⟨i, h1, h2⟩ := h
  exact ⟨i, by rw [h1]; trivial, h2⟩
theorem sa_bs {a : Addr} (h : Sa ρ σ a) : Bs c ρ σ a := .inr (.inr (sa_own h))
theorem Rep.ownAt (r : Rep c N ρ σ H) {a : Addr} (h : Own ρ σ a) : ∃ xs, H a = some (.lst xs) := by
  obtain ⟨i, h1, h2⟩ := h
  rcases own_cases h1 with ⟨xs, e⟩ | e
  · obtain ⟨b, vs, hb, hv, _⟩ := r.o i xs e
    rw [h2] at hb; cases hb
    exact ⟨vs, hv⟩
  · obtain ⟨b, hb, ⟨vs, hv, _⟩, _⟩ := r.s i e
    rw [h2] at hb; cases hb
    exact ⟨vs, hv⟩
theorem Rep.bsAt (r : Rep c N ρ σ H) {a : Addr} (h : Bs c ρ σ a) : ∃ xs, H a = some (.lst xs) := by
  rcases h with h | h | h
  · exact (r.fr a h).2.2
  · obtain ⟨_, vs, hv, _⟩ := r.p0 a h
    exact ⟨vs, hv⟩
  · exact r.ownAt h
theorem Rep.bs_ne (r : Rep c N ρ σ H) {a p : Addr} (h : Bs c ρ σ a) (hp : H p = none) : a ≠ p := by
  obtain ⟨xs, e⟩ := r.bsAt h
  exact ne_of_none e hp
theorem Rep.own_p0 (r : Rep c N ρ σ H) {i : Nat} {a : Addr} {xs : List D} (h : ρ[i]? = some (some (.o xs))) (e : σ[i]? = some (some (.ref a))) : ¬ c.P0 a := fun z => by
  obtain ⟨b, vs, hb, _, _, h0⟩ := r.o i xs h
  rw [e] at hb; cases hb
  obtain ⟨⟨o, h1⟩, _⟩ := r.p0 a z
  rw [h0] at h1; cases h1
theorem Rep.sa_h0 (r : Rep c N ρ σ H) {a : Addr} (h : Sa ρ σ a) : c.P0 a ∨ c.H0 a = none := by
  obtain ⟨i, h1, h2⟩ := h
  obtain ⟨b, hb, _, h0⟩ := r.s i h1
  rw [h2] at hb; cases hb
  exact h0
/-- the heap may grow, the source may turn -/
theorem Rep.step (r : Rep c N ρ σ H) (e : Ext (Sa ρ σ) H H') (hs : ∀ a, Sa ρ σ a → SrcAt c a M H') (hN : N ≤ M) : Rep c M ρ σ H' where
  len := r.len
  d := fun i x h => by
    obtain ⟨v, h1, h2⟩ := r.d i x h
    exact ⟨v, h1, Rp.mono (fun a o e' n => ⟨e a o e' fun z => n (sa_bs z), n⟩) _ _ h2⟩
  o := fun i xs h => by
    obtain ⟨a, vs, h1, h2, h3, h4⟩ := r.o i xs h
    refine ⟨a, vs, h1, e a _ h2 ?_, RpA.mono (fun a o e' n => ⟨e a o e' fun z => n (sa_bs z), n⟩) _ _ h3, h4⟩
    rintro ⟨j, hj, hj'⟩
    have := r.dis i j a (by rw [h]; trivial) (by rw [hj]; trivial) h1 hj'
    subst this
    rw [h] at hj; cases hj
  s := fun i h => by
    obtain ⟨a, h1, h2, h3⟩ := r.s i h
    exact ⟨a, h1, hs a ⟨i, h, h1⟩, h3⟩
  dis := r.dis
  ext := fun a o h n => e a o (r.ext a o h n) fun z => by
    rcases r.sa_h0 z with g | g
    · exact n g
    · rw [g] at h; cases h
  p0 := fun a h => by
    obtain ⟨h1, vs, h2, h3⟩ := r.p0 a h
    refine ⟨h1, ?_⟩
    by_cases z : Sa ρ σ a
    · exact hs a z
    · exact ⟨vs, e a _ h2 z, c.g.wm _ _ _ hN h3⟩
  fr := fun a h => by
    obtain ⟨h1, h2, xs, h3⟩ := r.fr a h
    exact ⟨h1, h2, xs, e a _ h3 fun z => h1 (sa_own z)⟩
  kd := fun p hp => Rp.mono (fun a o e' n => ⟨e a o e' fun z => n (sa_bs z), n⟩) _ _ (r.kd p hp)
theorem Rep.srcs (r : Rep c N ρ σ H) : ∀ a, Sa ρ σ a → SrcAt c a N H := fun a ⟨i, h1, h2⟩ => by
  obtain ⟨b, hb, h, _⟩ := r.s i h1
  rw [h2] at hb; cases hb
  exact h
theorem Rep.mono (r : Rep c N ρ σ H) (hN : N ≤ M) : Rep c M ρ σ H := r.step Ext.refl (fun a h => (r.srcs a h).mono hN) hN
theorem Rep.ex (r : Rep c N ρ σ H) (e : Ex H H') : Rep c N ρ σ H' := r.step (.of e) (fun a h => by
  obtain ⟨vs, h1, h2⟩ := r.srcs a h
  exact ⟨vs, e _ _ h1, h2⟩) (Nat.le_refl _)
theorem Rep.new (r : Rep c N ρ σ H) {p : Addr} {o : HO} (h : H p = none) : Rep c N ρ σ (upd H p o) := r.ex (Ex.new h)
/-! ### a new list, kept apart -/
def Cf.addF (c : Cf) (p : Addr) : Cf := { c with F := fun a => c.F a ∨ a = p }
theorem bs_addF {a p : Addr} (h : Bs c ρ σ a) : Bs (c.addF p) ρ σ a := h.imp .inl id
theorem bs_addF_cases {a p : Addr} (h : Bs (c.addF p) ρ σ a) : a = p ∨ Bs c ρ σ a := by
  rcases h with (h | h) | h
  · exact .inr (.inl h)
  · exact .inl h
  · exact .inr (.inr h)
theorem Rep.dropF {p : Addr} (r : Rep (c.addF p) N ρ σ H) : Rep c N ρ σ H where
  len := r.len
  d := fun i x h => by
    obtain ⟨v, h1, h2⟩ := r.d i x h
    exact ⟨v, h1, h2.less fun a => bs_addF⟩
  o := fun i xs h => by
    obtain ⟨a, vs, h1, h2, h3, h4⟩ := r.o i xs h
    exact ⟨a, vs, h1, h2, h3.less fun a => bs_addF, h4⟩
  s := r.s
  dis := r.dis
  ext := r.ext
  p0 := r.p0
  fr := fun a h => r.fr a (.inl h)
  kd := fun p hp => (r.kd p hp).less fun a => bs_addF
theorem Rep.addF (r : Rep c N ρ σ H) {p : Addr} {vs : List V} (h : H p = none) (e : Ext (Sa ρ σ) H H') (hs : ∀ a, Sa ρ σ a → SrcAt c a M H') (hN : N ≤ M) (hv : H' p = some (.lst vs)) : Rep (c.addF p) M ρ σ H' := by
  have r' := r.step e hs hN
  have g : ∀ a o, H a = some o → ¬ Bs c ρ σ a → H' a = some o ∧ ¬ Bs (c.addF p) ρ σ a := fun a o e' n => by
    have np := ne_of_none e' h
    refine ⟨e a o e' fun z => n (sa_bs z), fun z => ?_⟩
    rcases bs_addF_cases z with z | z
    · exact np z
    · exact n z
  refine ⟨r'.len, ?_, ?_, r'.s, r'.dis, r'.ext, r'.p0, ?_, ?_⟩
  · intro i x hx
    obtain ⟨v, h1, h2⟩ := r.d i x hx
    exact ⟨v, h1, Rp.mono g _ _ h2⟩
  · intro i xs hx
    obtain ⟨a, us, h1, h2, h3, h4⟩ := r.o i xs hx
    obtain ⟨a', us', h1', h2', h3', h4'⟩ := r'.o i xs hx
    rw [h1] at h1'; cases h1'
    refine ⟨a, us', h1, h2', ?_, h4⟩
    have : us = us' := by
      have q := e a _ h2 fun ⟨j, z1, z2⟩ => by
        have := r.dis i j a (by rw [hx]; trivial) (by rw [z1]; trivial) h1 z2
        subst this
        rw [hx] at z1; cases z1
      rw [h2'] at q
      injection q with q
      injection q with q
      exact q.symm
    subst this
    exact RpA.mono g _ _ h3
  · rintro a (ha | ha)
    · exact r'.fr a ha
    · subst ha
      refine ⟨fun z => ?_, fun z => ?_, vs, hv⟩
      · exact r.bs_ne (.inr (.inr z)) h rfl
      · exact r.bs_ne (.inr (.inl z)) h rfl
  · intro q hq
    exact Rp.mono g _ _ (r.kd q hq)
theorem Rep.addNew (r : Rep c N ρ σ H) {p : Addr} {vs : List V} (h : H p = none) : Rep (c.addF p) N ρ σ (upd H p (.lst vs)) :=
  r.addF h (.of (Ex.new h)) (fun a ha => (r.new h).srcs a ha) (Nat.le_refl _) upd_same
theorem Rep.freshH0 (r : Rep c N ρ σ H) {p : Addr} (h : H p = none) : c.H0 p = none := by
  cases e : c.H0 p with
  | none => rfl
  | some o =>
    by_cases z : c.P0 p
    · exact absurd rfl (r.bs_ne (.inr (.inl z)) h)
    · rw [r.ext p o e z] at h; cases h
/-- a list that is kept apart changes -/
theorem Rep.updF (r : Rep c N ρ σ H) {p : Addr} {vs : List V} (hp : c.F p) (h0 : c.H0 p = none) : Rep c N ρ σ (upd H p (.lst vs)) := by
  obtain ⟨n1, n2, us, hu⟩ := r.fr p hp
  have g : ∀ a o, H a = some o → ¬ Bs c ρ σ a → upd H p (.lst vs) a = some o ∧ ¬ Bs c ρ σ a := fun a o e n => by
    have np : a ≠ p := fun z => n (.inl (z ▸ hp))
    exact ⟨by rw [upd_ne np]; exact e, n⟩
  refine ⟨r.len, ?_, ?_, ?_, r.dis, ?_, ?_, ?_, ?_⟩
  · intro i x hx
    obtain ⟨v, h1, h2⟩ := r.d i x hx
    exact ⟨v, h1, Rp.mono g _ _ h2⟩
  · intro i xs hx
    obtain ⟨a, us, h1, h2, h3, h4⟩ := r.o i xs hx
    have np : a ≠ p := fun z => n1 ⟨i, by rw [hx]; trivial, z ▸ h1⟩
    exact ⟨a, us, h1, by rw [upd_ne np]; exact h2, RpA.mono g _ _ h3, h4⟩
  · intro i hx
    obtain ⟨a, h1, ⟨us, h2, h3⟩, h4⟩ := r.s i hx
    have np : a ≠ p := fun z => n1 ⟨i, by rw [hx]; trivial, z ▸ h1⟩
    exact ⟨a, h1, ⟨us, by rw [upd_ne np]; exact h2, h3⟩, h4⟩
  · intro a o ha n
    have np : a ≠ p := fun z => by rw [z, h0] at ha; cases ha
    rw [upd_ne np]; exact r.ext a o ha n
  · intro a ha
    obtain ⟨h1, us, h2, h3⟩ := r.p0 a ha
    have np : a ≠ p := fun z => n2 (z ▸ ha)
    exact ⟨h1, us, by rw [upd_ne np]; exact h2, h3⟩
  · intro a ha
    obtain ⟨h1, h2, us, h3⟩ := r.fr a ha
    by_cases z : a = p
    · exact ⟨h1, h2, vs, by rw [z]; exact upd_same⟩
    · exact ⟨h1, h2, us, by rw [upd_ne z]; exact h3⟩
  · intro q hq
    exact Rp.mono g _ _ (r.kd q hq)
/-! ### values under way -/
def Cf.addK (c : Cf) (v : V) (x : D) : Cf := { c with kd := (v, x) :: c.kd }
theorem bs_addK {v : V} {x : D} : Bs (c.addK v x) ρ σ = Bs c ρ σ := rfl
theorem Rep.addK {v : V} {x : D} (r : Rep c N ρ σ H) (h : Rp c.g.K H (Bs c ρ σ) v x) : Rep (c.addK v x) N ρ σ H :=
  ⟨r.len, r.d, r.o, r.s, r.dis, r.ext, r.p0, r.fr, fun p hp => by
    rcases List.mem_cons.mp hp with e | e
    · subst e; exact h
    · exact r.kd p e⟩
theorem Rep.dropK {v : V} {x : D} (r : Rep (c.addK v x) N ρ σ H) : Rep c N ρ σ H ∧ Rp c.g.K H (Bs c ρ σ) v x :=
  ⟨⟨r.len, r.d, r.o, r.s, r.dis, r.ext, r.p0, r.fr, fun p hp => r.kd p (List.mem_cons_of_mem _ hp)⟩, r.kd (v, x) (List.mem_cons_self ..)⟩
/-! ### slots are set -/
theorem get_set {α : Type} (l : List α) (i j : Nat) (x : α) : (l.set i x)[j]? = if i = j then (if i < l.length then some x else none) else l[j]? := by
  rw [List.getElem?_set]
theorem own_set {w : Option Wd} {u : Option V} {i : Nat} (hl : ρ.length = σ.length) (hw : ¬ OwnW (some w)) : ∀ a, Own (ρ.set i w) (σ.set i u) a → Own ρ σ a := by
  rintro a ⟨j, h1, h2⟩
  rw [get_set] at h1 h2
  by_cases e : i = j
  · subst e
    rw [if_pos rfl] at h1 h2
    by_cases l : i < ρ.length
    · rw [if_pos l] at h1; exact absurd h1 hw
    · rw [if_neg l] at h1; exact absurd h1 (fun z => z)
  · rw [if_neg e] at h1 h2
    exact ⟨j, h1, h2⟩
theorem sa_set {w : Option Wd} {u : Option V} {i : Nat} (hl : ρ.length = σ.length) (hw : ¬ OwnW (some w)) : ∀ a, Sa (ρ.set i w) (σ.set i u) a → Sa ρ σ a := by
  rintro a ⟨j, h1, h2⟩
  rw [get_set] at h1 h2
  by_cases e : i = j
  · subst e
    rw [if_pos rfl] at h1 h2
    by_cases l : i < ρ.length
    · rw [if_pos l] at h1; cases h1; exact absurd trivial hw
    · rw [if_neg l] at h1; cases h1
  · rw [if_neg e] at h1 h2
    exact ⟨j, h1, h2⟩
theorem bs_of_own {ρ' : Env} {σ' : L2.St} (h : ∀ a, Own ρ' σ' a → Own ρ σ a) : ∀ a, Bs c ρ' σ' a → Bs c ρ σ a := fun a z => z.imp id (Or.imp id (h a))
theorem Rep.setW (r : Rep c N ρ σ H) {i : Nat} {w : Option Wd} {u : Option V} (hw : ¬ OwnW (some w)) (hd : ∀ x, w = some (.d x) → ∃ v, u = some v ∧ Rp c.g.K H (Bs c ρ σ) v x) : Rep c N (ρ.set i w) (σ.set i u) H := by
  have hB := bs_of_own (c := c) (own_set (i := i) (u := u) r.len hw)
  have split : ∀ {j : Nat} {z : Option Wd}, (ρ.set i w)[j]? = some z → (i = j ∧ i < ρ.length ∧ z = w) ∨ (i ≠ j ∧ ρ[j]? = some z) := fun {j z} h => by
    rw [get_set] at h
    by_cases e : i = j
    · rw [if_pos e] at h
      by_cases l : i < ρ.length
      · rw [if_pos l] at h; exact .inl ⟨e, l, (Option.some.inj h).symm⟩
      · rw [if_neg l] at h; cases h
    · rw [if_neg e] at h; exact .inr ⟨e, h⟩
  have there : ∀ {j : Nat}, i ≠ j → (σ.set i u)[j]? = σ[j]? := fun e => by rw [get_set, if_neg e]
  refine ⟨by rw [List.length_set, List.length_set]; exact r.len, ?_, ?_, ?_, ?_, r.ext, r.p0, ?_, ?_⟩
  · intro j x h
    rcases split h with ⟨e, l, ew⟩ | ⟨e, h⟩
    · obtain ⟨v, hu, hv⟩ := hd x ew.symm
      refine ⟨v, ?_, hv.less hB⟩
      rw [get_set, if_pos e, if_pos (by rw [← r.len]; exact l), hu]
    · obtain ⟨v, h1, h2⟩ := r.d j x h
      exact ⟨v, by rw [there e]; exact h1, h2.less hB⟩
  · intro j x h
    rcases split h with ⟨e, l, ew⟩ | ⟨e, h⟩
    · rw [← ew] at hw; exact absurd trivial hw
    · obtain ⟨a, vs, h1, h2, h3, h4⟩ := r.o j x h
      exact ⟨a, vs, by rw [there e]; exact h1, h2, h3.less hB, h4⟩
  · intro j h
    rcases split h with ⟨e, l, ew⟩ | ⟨e, h⟩
    · rw [← ew] at hw; exact absurd trivial hw
    · obtain ⟨a, h1, h2⟩ := r.s j h
      exact ⟨a, by rw [there e]; exact h1, h2⟩
  · intro j k a h1 h2 h3 h4
    have side : ∀ {m : Nat}, OwnW (ρ.set i w)[m]? → i ≠ m ∧ OwnW ρ[m]? := fun {m} h => by
      rw [get_set] at h
      by_cases e : i = m
      · rw [if_pos e] at h
        by_cases l : i < ρ.length
        · rw [if_pos l] at h; exact absurd h hw
        · rw [if_neg l] at h; exact absurd h (fun z => z)
      · rw [if_neg e] at h; exact ⟨e, h⟩
    obtain ⟨e1, g1⟩ := side h1
    obtain ⟨e2, g2⟩ := side h2
    rw [there e1] at h3
    rw [there e2] at h4
    exact r.dis j k a g1 g2 h3 h4
  · intro a ha
    obtain ⟨h1, h2, h3⟩ := r.fr a ha
    exact ⟨fun z => h1 (own_set r.len hw a z), h2, h3⟩
  · intro p hp
    exact (r.kd p hp).less hB
theorem Rep.setD (r : Rep c N ρ σ H) {i : Nat} {v : V} {x : D} (h : Rp c.g.K H (Bs c ρ σ) v x) : Rep c N (ρ.set i (some (.d x))) (σ.set i (some v)) H :=
  r.setW (fun z => z) fun y e => by cases e; exact ⟨v, rfl, h⟩
theorem Rep.setN (r : Rep c N ρ σ H) {i : Nat} {u : Option V} : Rep c N (ρ.set i none) (σ.set i u) H := r.setW (fun z => z) fun y e => by cases e
/-- a new list (or a new source) of one's own -/
theorem Rep.setOwn {w : Wd} {a : Addr} (r : Rep (c.addF a) N ρ σ H) {i : Nat} (ow : OwnW (some (some w))) (h0 : c.H0 a = none)
    (ho : ∀ xs, w = .o xs → ∃ vs, H a = some (.lst vs) ∧ RpA c.g.K H (Bs (c.addF a) ρ σ) vs xs) (hs : w = .s → SrcAt c a N H) (hnF : ¬ c.F a) : Rep c N (ρ.set i (some w)) (σ.set i (some (.ref a))) H := by
  have r0 := r.dropF
  by_cases l : i < ρ.length
  case neg =>
    rw [List.set_eq_of_length_le (by omega), List.set_eq_of_length_le (by have := r.len; omega)]
    exact r0
  have l2 : i < σ.length := by have := r.len; omega
  obtain ⟨nO, nP, us, hus⟩ := r.fr a (.inr rfl)
  have hO : ∀ b, Own (ρ.set i (some w)) (σ.set i (some (.ref a))) b → b = a ∨ Own ρ σ b := by
    rintro b ⟨j, h1, h2⟩
    rw [get_set] at h1 h2
    by_cases e : i = j
    · rw [if_pos e, if_pos l2] at h2; cases h2; exact .inl rfl
    · rw [if_neg e] at h1 h2; exact .inr ⟨j, h1, h2⟩
  have hB : ∀ b, Bs c (ρ.set i (some w)) (σ.set i (some (.ref a))) b → Bs (c.addF a) ρ σ b := by
    rintro b (h | h | h)
    · exact .inl (.inl h)
    · exact .inr (.inl h)
    · rcases hO b h with h | h
      · exact .inl (.inr h)
      · exact .inr (.inr h)
  have there : ∀ {j : Nat}, i ≠ j → (σ.set i (some (.ref a)))[j]? = σ[j]? := fun e => by rw [get_set, if_neg e]
  have here : (σ.set i (some (.ref a)))[i]? = some (some (.ref a)) := by rw [get_set, if_pos rfl, if_pos l2]
  have split : ∀ {j : Nat} {z : Option Wd}, (ρ.set i (some w))[j]? = some z → (i = j ∧ z = some w) ∨ (i ≠ j ∧ ρ[j]? = some z) := fun {j z} h => by
    rw [get_set] at h
    by_cases e : i = j
    · rw [if_pos e, if_pos l] at h; exact .inl ⟨e, (Option.some.inj h).symm⟩
    · rw [if_neg e] at h; exact .inr ⟨e, h⟩
  refine ⟨by rw [List.length_set, List.length_set]; exact r.len, ?_, ?_, ?_, ?_, r.ext, r.p0, ?_, ?_⟩
  · intro j x h
    rcases split h with ⟨e, ew⟩ | ⟨e, h⟩
    · cases ew; exact absurd ow (fun z => z)
    · obtain ⟨v, h1, h2⟩ := r.d j x h
      exact ⟨v, by rw [there e]; exact h1, h2.less hB⟩
  · intro j x h
    rcases split h with ⟨e, ew⟩ | ⟨e, h⟩
    · cases ew
      obtain ⟨vs, g1, g2⟩ := ho x rfl
      subst e
      exact ⟨a, vs, here, g1, g2.less hB, h0⟩
    · obtain ⟨b, vs, h1, h2, h3, h4⟩ := r.o j x h
      exact ⟨b, vs, by rw [there e]; exact h1, h2, h3.less hB, h4⟩
  · intro j h
    rcases split h with ⟨e, ew⟩ | ⟨e, h⟩
    · cases ew
      subst e
      exact ⟨a, here, hs rfl, .inr h0⟩
    · obtain ⟨b, h1, h2⟩ := r.s j h
      exact ⟨b, by rw [there e]; exact h1, h2⟩
  · have side : ∀ {m : Nat} {b : Addr}, OwnW (ρ.set i (some w))[m]? → (σ.set i (some (.ref a)))[m]? = some (some (.ref b)) → (i = m ∧ b = a) ∨ (i ≠ m ∧ b ≠ a ∧ OwnW ρ[m]? ∧ σ[m]? = some (some (.ref b))) := fun {m b} h h2 => by
      by_cases e : i = m
      · subst e; rw [here] at h2; cases h2; exact .inl ⟨rfl, rfl⟩
      · rw [get_set, if_neg e] at h
        rw [there e] at h2
        exact .inr ⟨e, fun z => nO ⟨m, h, z ▸ h2⟩, h, h2⟩
    intro j k b h1 h2 h3 h4
    rcases side h1 h3 with ⟨e1, q1⟩ | ⟨e1, q1, g1, g2⟩
    · rcases side h2 h4 with ⟨e2, q2⟩ | ⟨e2, q2, g3, g4⟩
      · rw [← e1, ← e2]
      · exact absurd q1 q2
    · rcases side h2 h4 with ⟨e2, q2⟩ | ⟨e2, q2, g3, g4⟩
      · exact absurd q2 q1
      · exact r.dis j k b g1 g3 g2 g4
  · intro b hb
    obtain ⟨h1, h2, h3⟩ := r.fr b (.inl hb)
    refine ⟨fun z => ?_, h2, h3⟩
    rcases hO b z with z | z
    · exact hnF (z ▸ hb)
    · exact h1 z
  · intro p hp
    exact (r.kd p hp).less hB
/-- one's own list changes -/
theorem Rep.updO (r : Rep c N ρ σ H) {i : Nat} {xs ys : List D} {a : Addr} {vs : List V} (h : ρ[i]? = some (some (.o xs))) (ha : σ[i]? = some (some (.ref a))) (hv : RpA c.g.K H (Bs c ρ σ) vs ys) : Rep c N (ρ.set i (some (.o ys))) σ (upd H a (.lst vs)) := by
  have oi : Own ρ σ a := ⟨i, by rw [h]; trivial, ha⟩
  obtain ⟨b, us, hb, hu, _, h0⟩ := r.o i xs h
  rw [ha] at hb; cases hb
  have l : i < ρ.length := (List.getElem?_eq_some_iff.mp h).1
  have ow : ∀ j : Nat, OwnW (ρ.set i (some (.o ys)))[j]? → OwnW ρ[j]? := fun j z => by
    rw [get_set] at z
    by_cases e : i = j
    · subst e; rw [h]; trivial
    · rw [if_neg e] at z; exact z
  have hO : ∀ b, Own (ρ.set i (some (.o ys))) σ b → Own ρ σ b := fun b ⟨j, h1, h2⟩ => ⟨j, ow j h1, h2⟩
  have hB := bs_of_own (c := c) hO
  have g : ∀ x o, H x = some o → ¬ Bs c ρ σ x → upd H a (.lst vs) x = some o ∧ ¬ Bs c (ρ.set i (some (.o ys))) σ x := fun x o e n => by
    have np : x ≠ a := fun z => n (z ▸ .inr (.inr oi))
    exact ⟨by rw [upd_ne np]; exact e, fun z => n (hB x z)⟩
  have split : ∀ {j : Nat} {z : Option Wd}, (ρ.set i (some (.o ys)))[j]? = some z → (i = j ∧ z = some (.o ys)) ∨ (i ≠ j ∧ ρ[j]? = some z) := fun {j z} h => by
    rw [get_set] at h
    by_cases e : i = j
    · rw [if_pos e, if_pos l] at h; exact .inl ⟨e, (Option.some.inj h).symm⟩
    · rw [if_neg e] at h; exact .inr ⟨e, h⟩
  have apart : ∀ {j : Nat} {b : Addr}, i ≠ j → OwnW ρ[j]? → σ[j]? = some (some (.ref b)) → b ≠ a := fun {j b} e h1 h2 z => e (r.dis i j a (by rw [h]; trivial) h1 ha (z ▸ h2))
  have nP := r.own_p0 h ha
  refine ⟨by rw [List.length_set]; exact r.len, ?_, ?_, ?_, fun j k b h1 h2 => r.dis j k b (ow j h1) (ow k h2), ?_, ?_, ?_, ?_⟩
  · intro j x hx
    rcases split hx with ⟨e, ew⟩ | ⟨e, hx⟩
    · cases ew
    · obtain ⟨v, h1, h2⟩ := r.d j x hx
      exact ⟨v, h1, Rp.mono g _ _ h2⟩
  · intro j x hx
    rcases split hx with ⟨e, ew⟩ | ⟨e, hx⟩
    · cases ew
      subst e
      exact ⟨a, vs, ha, upd_same, RpA.mono g _ _ hv, h0⟩
    · obtain ⟨b, ws, h1, h2, h3, h4⟩ := r.o j x hx
      exact ⟨b, ws, h1, by rw [upd_ne (apart e (by rw [hx]; trivial) h1)]; exact h2, RpA.mono g _ _ h3, h4⟩
  · intro j hx
    rcases split hx with ⟨e, ew⟩ | ⟨e, hx⟩
    · cases ew
    · obtain ⟨b, h1, ⟨ws, h2, h3⟩, h4⟩ := r.s j hx
      exact ⟨b, h1, ⟨ws, by rw [upd_ne (apart e (by rw [hx]; trivial) h1)]; exact h2, h3⟩, h4⟩
  · intro x o hx n
    have np : x ≠ a := fun z => by rw [z, h0] at hx; cases hx
    rw [upd_ne np]; exact r.ext x o hx n
  · intro x hx
    obtain ⟨h1, ws, h2, h3⟩ := r.p0 x hx
    have np : x ≠ a := fun z => nP (z ▸ hx)
    exact ⟨h1, ws, by rw [upd_ne np]; exact h2, h3⟩
  · intro x hx
    obtain ⟨h1, h2, ws, h3⟩ := r.fr x hx
    have np : x ≠ a := fun z => h1 (z ▸ oi)
    exact ⟨fun z => h1 (hO x z), h2, ws, by rw [upd_ne np]; exact h3⟩
  · intro p hp
    exact Rp.mono g _ _ (r.kd p hp)
/-- one's own list is shared from now on -/
theorem Rep.demote (r : Rep c N ρ σ H) {i : Nat} {xs : List D} (h : ρ[i]? = some (some (.o xs))) : Rep c N (ρ.set i (some (.d (.lst xs)))) σ H := by
  obtain ⟨a, vs, ha, hv, hr, h0⟩ := r.o i xs h
  have l : i < ρ.length := (List.getElem?_eq_some_iff.mp h).1
  have hnew : ¬ Bs c (ρ.set i (some (.d (.lst xs)))) σ a := by
    rintro (z | z | ⟨j, z1, z2⟩)
    · exact (r.fr a z).1 ⟨i, by rw [h]; trivial, ha⟩
    · exact r.own_p0 h ha z
    · rw [get_set] at z1
      by_cases e : i = j
      · rw [if_pos e, if_pos l] at z1; exact z1
      · rw [if_neg e] at z1
        exact e (r.dis i j a (by rw [h]; trivial) z1 ha z2)
  have ow : ∀ j : Nat, OwnW (ρ.set i (some (.d (.lst xs))))[j]? → i ≠ j ∧ OwnW ρ[j]? := fun j z => by
    rw [get_set] at z
    by_cases e : i = j
    · rw [if_pos e, if_pos l] at z; exact absurd z (fun q => q)
    · rw [if_neg e] at z; exact ⟨e, z⟩
  have hB := bs_of_own (c := c) (ρ := ρ) (σ := σ) (ρ' := ρ.set i (some (.d (.lst xs)))) (σ' := σ) fun b ⟨j, h1, h2⟩ => ⟨j, (ow j h1).2, h2⟩
  have split : ∀ {j : Nat} {z : Option Wd}, (ρ.set i (some (.d (.lst xs))))[j]? = some z → (i = j ∧ z = some (.d (.lst xs))) ∨ (i ≠ j ∧ ρ[j]? = some z) := fun {j z} h => by
    rw [get_set] at h
    by_cases e : i = j
    · rw [if_pos e, if_pos l] at h; exact .inl ⟨e, (Option.some.inj h).symm⟩
    · rw [if_neg e] at h; exact .inr ⟨e, h⟩
  refine ⟨by rw [List.length_set]; exact r.len, ?_, ?_, ?_, fun j k b h1 h2 => r.dis j k b (ow j h1).2 (ow k h2).2, r.ext, r.p0, ?_, ?_⟩
  · intro j x hx
    rcases split hx with ⟨e, ew⟩ | ⟨e, hx⟩
    · cases ew
      subst e
      exact ⟨.ref a, ha, .lst ⟨hv, hnew⟩ (hr.less hB)⟩
    · obtain ⟨v, h1, h2⟩ := r.d j x hx
      exact ⟨v, h1, h2.less hB⟩
  · intro j x hx
    rcases split hx with ⟨e, ew⟩ | ⟨e, hx⟩
    · cases ew
    · obtain ⟨b, ws, h1, h2, h3, h4⟩ := r.o j x hx
      exact ⟨b, ws, h1, h2, h3.less hB, h4⟩
  · intro j hx
    rcases split hx with ⟨e, ew⟩ | ⟨e, hx⟩
    · cases ew
    · exact r.s j hx
  · intro x hx
    obtain ⟨h1, h2, h3⟩ := r.fr x hx
    exact ⟨fun ⟨j, z1, z2⟩ => h1 ⟨j, (ow j z1).2, z2⟩, h2, h3⟩
  · intro p hp
    exact (r.kd p hp).less hB
end
end PD

/-! expressions: what a reading does, told by values without a heap -/
namespace PD
open PySem PySem.Spec PyProof.Rows L2 Evl SL
structure Exn where
  cls : Str
  ix : Option Int
abbrev XW := Value → Option Addr → L2.St → Hp → Prop
abbrev PX := Env → (D → Prop) → (Exn → Prop) → Prop
abbrev PXs := Env → (List D → Prop) → (Exn → Prop) → Prop
abbrev PXb := Env → (Bool → Prop) → (Exn → Prop) → Prop
inductive Md | t | b | e | f
inductive Sc : V → D → Prop
  | non : Sc .non .non
  | bl (b : Bool) : Sc (.bl b) (.bl b)
  | int (i : Int) : Sc (.int i) (.int i)
  | str (x : Str) : Sc (.str x) (.str x)
  | ty (n : String) : Sc (.ty n) (.ty n)
def D.isL : D → Bool
  | .lst _ => true
  | _ => false
theorem Sc.rp {K : PySem.W.Frag} {H : Hp} {B : AS} {v : V} {d : D} (h : Sc v d) : Rp K H B v d := by cases h <;> constructor
theorem Sc.notL {v : V} {d : D} (h : Sc v d) : d.isL = false := by cases h <;> rfl
def XR (K : PySem.W.Frag) (H : Hp) (e : Exn) (cls : Value) (dd : Option Addr) : Prop := cls = exV K e.cls ∧ match e.ix with
  | none => dd = none
  | some i => ∃ a, dd = some a ∧ H a = some (.xd [("index", .int i)])
def NM : Nat := 2 ^ 250
def RV (c : Cf) (M : Nat) (ρ : Env) (σ : L2.St) (H : Hp) : Md → V → D → Prop
  | .t, v, d => Rp c.g.K H (Sa ρ σ) v d
  | .e, v, d => Rp c.g.K H (Bs c ρ σ) v d
  | .b, v, d => Rp c.g.K H (Bs c ρ σ) v d ∨ ∃ a vs ds, v = .ref a ∧ d = .lst ds ∧ H a = some (.lst vs) ∧ (¬ Sa ρ σ a ∧ ¬ c.F a) ∧ RpA c.g.K H (Bs c ρ σ) vs ds
  | .f, v, d => (d.isL = false ∧ Rp c.g.K H (Bs c ρ σ) v d) ∨ ∃ a vs ds, v = .ref a ∧ d = .lst ds ∧ H a = some (.lst vs) ∧ c.H0 a = none ∧ ¬ c.F a ∧ RpA c.g.K H (Bs (c.addF a) ρ σ) vs ds ∧ Rep (c.addF a) M ρ σ H
def Af (c : Cf) (N k : Nat) (ρ : Env) (σ : L2.St) (H : Hp) (md : Md) (po : D → Prop) (Q : VK) : Prop :=
  ∀ v H' d M, M ≤ N + k → po d → Rep c M ρ σ H' → Ext (Sa ρ σ) H H' → RV c M ρ σ H' md v d → Q v H'
def Xf (W : XW) (c : Cf) (N k : Nat) (ρ : Env) (σ : L2.St) (xx : Exn → Prop) : Prop :=
  ∀ e cls dd H' M, M ≤ N + k → xx e → XR c.g.K H' e cls dd → Rep c M ρ σ H' → W cls dd σ H'
def SX (g : Gx) (W : XW) (md : Md) (k : Nat) (t : TE) (p : PX) : Prop :=
  ∀ c, c.g = g → ∀ N σ H ρ, Rep c N ρ σ H → N + k ≤ NM → ∀ po xx, p ρ po xx → Xf W c N k ρ σ xx → ∀ Q, Af c N k ρ σ H md po Q → t σ H Q
/-- arguments -/
def AfA (c : Cf) (N k : Nat) (ρ : Env) (σ : L2.St) (H : Hp) (md : Md) (po : List D → Prop) (Q : List V → Hp → Prop) : Prop :=
  ∀ vs H' ds M, M ≤ N + k → po ds → Rep c M ρ σ H' → Ext (Sa ρ σ) H H' → Paired (RV c M ρ σ H' md) vs ds → Q vs H'
def SA (g : Gx) (W : XW) (md : Md) (k : Nat) (t : TA) (p : PXs) : Prop :=
  ∀ c, c.g = g → ∀ N σ H ρ, Rep c N ρ σ H → N + k ≤ NM → ∀ po xx, p ρ po xx → Xf W c N k ρ σ xx → ∀ Q, AfA c N k ρ σ H md po Q → t σ H Q
/-- tests -/
def SB (g : Gx) (W : XW) (k : Nat) (t : TT) (p : PXb) : Prop :=
  ∀ c, c.g = g → ∀ N σ H ρ, Rep c N ρ σ H → N + k ≤ NM → ∀ po xx, p ρ po xx → Xf W c N k ρ σ xx → ∀ Q : Bool → Hp → Prop, (∀ b H' M, M ≤ N + k → po b → Rep c M ρ σ H' → Ext (Sa ρ σ) H H' → Q b H') → t σ H Q
section
variable {g : Gx} {W : XW} {c : Cf} {N M M' k k1 k2 k3 : Nat} {ρ : Env} {σ : L2.St} {H H' : Hp} {md : Md} {v : V} {d : D} {ta tb tc : TE} {pa pb pc : PX}
theorem Xf.sub {xx : Exn → Prop} (h : Xf W c N k ρ σ xx) (e : M + k1 ≤ N + k) : Xf W c M k1 ρ σ xx := fun e' cls dd H' M' hM => h e' cls dd H' M' (by omega)
theorem Xf.addF {xx : Exn → Prop} {p : Addr} (h : Xf W c N k ρ σ xx) : Xf W (c.addF p) N k ρ σ xx := fun e' cls dd H' M' hM hx hr r => h e' cls dd H' M' hM hx hr r.dropF
theorem rp_ext {K : PySem.W.Frag} {B P : AS} (e : Ext P H H') (hp : ∀ a, P a → B a) (h : Rp K H B v d) : Rp K H' B v d := Rp.mono (fun a o e' n => ⟨e a o e' fun z => n (hp a z), n⟩) _ _ h
theorem rpA_ext {K : PySem.W.Frag} {B P : AS} {vs : List V} {ds : List D} (e : Ext P H H') (hp : ∀ a, P a → B a) (h : RpA K H B vs ds) : RpA K H' B vs ds := RpA.mono (fun a o e' n => ⟨e a o e' fun z => n (hp a z), n⟩) _ _ h
theorem RV.fe (h : RV c M ρ σ H .f v d) : RV c M' ρ σ H .e v d := by
  rcases h with ⟨_, h⟩ | ⟨a, vs, ds, rfl, rfl, h1, h2, h3, h4, h5⟩
  · exact h
  · refine .lst ⟨h1, ?_⟩ (h4.less fun _ => bs_addF)
    obtain ⟨q1, q2, _⟩ := h5.fr a (.inr rfl)
    rintro (z | z | z)
    · exact h3 z
    · exact q2 z
    · exact q1 z
theorem RV.eb (h : RV c M ρ σ H .e v d) : RV c M' ρ σ H .b v d := .inl h
theorem RV.bt (h : RV c M ρ σ H .b v d) : RV c M' ρ σ H .t v d := by
  rcases h with h | ⟨a, vs, ds, rfl, rfl, h1, h2, h3⟩
  · exact h.less fun a => sa_bs
  · exact .lst ⟨h1, h2.1⟩ (h3.less fun a => sa_bs)
theorem RV.et (h : RV c M ρ σ H .e v d) : RV c M' ρ σ H .t v d := Rp.less (fun a => sa_bs) h
theorem RV.ext (hm : md ≠ .f) (e : Ext (Sa ρ σ) H H') (h : RV c M ρ σ H md v d) : RV c M' ρ σ H' md v d := by
  cases md with
  | t => exact rp_ext e (fun _ z => z) h
  | e => exact rp_ext e (fun _ => sa_bs) h
  | f => exact absurd rfl hm
  | b =>
    rcases h with h | ⟨a, vs, ds, q1, q2, h1, h2, h3⟩
    · exact .inl (rp_ext e (fun _ => sa_bs) h)
    · exact .inr ⟨a, vs, ds, q1, q2, e a _ h1 h2.1, h2, rpA_ext e (fun _ => sa_bs) h3⟩
theorem RV.sc (h : Sc v d) : RV c M ρ σ H .f v d := .inl ⟨h.notL, h.rp⟩
theorem SX.to {md' : Md} (f : ∀ {c M ρ σ H v d}, RV c M ρ σ H md v d → RV c M ρ σ H md' v d) (h : SX g W md k ta pa) : SX g W md' k ta pa := fun c hc N σ H ρ r hk po xx hp hx Q q =>
  h c hc N σ H ρ r hk po xx hp hx Q fun v H' d M hM hd r' e hv => q v H' d M hM hd r' e (f hv)
theorem SX.fe (h : SX g W .f k ta pa) : SX g W .e k ta pa := h.to RV.fe
theorem SX.eb (h : SX g W .e k ta pa) : SX g W .b k ta pa := h.to RV.eb
theorem SX.bt (h : SX g W .b k ta pa) : SX g W .t k ta pa := h.to RV.bt
theorem SX.et (h : SX g W .e k ta pa) : SX g W .t k ta pa := h.to RV.et
theorem SX.fb (h : SX g W .f k ta pa) : SX g W .b k ta pa := h.fe.eb
theorem SX.ft (h : SX g W .f k ta pa) : SX g W .t k ta pa := h.fe.et
/-! constants, names -/
def pC (d : D) : PX := fun _ po _ => po d
theorem sx_c (h : Sc v d) : SX g W .f 0 (tC v) (pC d) := fun c hc N σ H ρ r hk po xx hp hx Q q => q v H d N (by omega) hp r Ext.refl (.sc h)
theorem sx_int {i : Int} : SX g W .f 0 (tC (.int i)) (pC (.int i)) := sx_c (.int i)
theorem sx_bl {i : Bool} : SX g W .f 0 (tC (.bl i)) (pC (.bl i)) := sx_c (.bl i)
theorem sx_str {i : Str} : SX g W .f 0 (tC (.str i)) (pC (.str i)) := sx_c (.str i)
theorem sx_non : SX g W .f 0 (tC .non) (pC .non) := sx_c .non
theorem sx_ty {i : String} : SX g W .f 0 (tC (.ty i)) (pC (.ty i)) := sx_c (.ty i)
def pV (i : Nat) : PX := fun ρ po _ => match ρ[i]? with
  | some (some (.d x)) => po x
  | _ => False
def pVb (i : Nat) : PX := fun ρ po _ => match ρ[i]? with
  | some (some (.d x)) => po x
  | some (some (.o xs)) => po (.lst xs)
  | _ => False
theorem sx_v {i : Nat} : SX g W .e 0 (tVar i) (pV i) := fun c hc N σ H ρ r hk po xx hp hx Q q => by
  unfold pV at hp
  split at hp
  · rename_i x e
    obtain ⟨v, h1, h2⟩ := r.d i x e
    exact ⟨v, h1, q v H x N (by omega) hp r Ext.refl h2⟩
  · exact hp.elim
theorem sx_vb {i : Nat} : SX g W .b 0 (tVar i) (pVb i) := fun c hc N σ H ρ r hk po xx hp hx Q q => by
  unfold pVb at hp
  split at hp
  · rename_i x e
    obtain ⟨v, h1, h2⟩ := r.d i x e
    exact ⟨v, h1, q v H x N (by omega) hp r Ext.refl (.inl h2)⟩
  · rename_i xs e
    obtain ⟨a, vs, h1, h2, h3, h4⟩ := r.o i xs e
    refine ⟨_, h1, q _ H _ N (by omega) hp r Ext.refl (.inr ⟨a, vs, xs, rfl, rfl, h2, ⟨?_, fun z => (r.fr a z).1 ⟨i, by rw [e]; trivial, h1⟩⟩, h3⟩)⟩
    rintro ⟨j, z1, z2⟩
    have := r.dis i j a (by rw [e]; trivial) (by rw [z1]; trivial) h1 z2
    subst this
    rw [e] at z1; cases z1
  · exact hp.elim
theorem sx_vt {i : Nat} : SX g W .t 0 (tVar i) (pVb i) := sx_vb.bt
/-! operations whose result is no object -/
abbrev P2 := D → D → (D → Prop) → Prop
def OpS (K : PySem.W.Frag) (r : R2) (pr : P2) : Prop := ∀ H B x y d e, Rp K H B x d → Rp K H B y e → ∀ (po : D → Prop) (Q : VK), pr d e po → (∀ z g, po g → Sc z g → Q z H) → r x y H Q
def pOp (pr : P2) (pa pb : PX) : PX := fun ρ po xx => pa ρ (fun u => pb ρ (fun w => pr u w po) xx) xx
theorem sx_op {r : R2} {pr : P2} (ha : SX g W .t k1 ta pa) (hb : SX g W .t k2 tb pb) (ho : OpS g.K r pr) : SX g W .f (k1 + k2) (tOp r ta tb) (pOp pr pa pb) := fun c hc N σ H ρ rp hk po xx hp hx Q q =>
  ha c hc N σ H ρ rp (by omega) _ xx hp (hx.sub (by omega)) _ fun x H1 d M1 hM1 hd r1 e1 hv1 =>
    hb c hc M1 σ H1 ρ r1 (by omega) _ xx hd (hx.sub (by omega)) _ fun y H2 e M2 hM2 he r2 e2 hv2 => by
      subst hc
      exact ho H2 (Sa ρ σ) x y d e (RV.ext (M := M1) (M' := M2) (by simp) e2 hv1) hv2 po Q he fun z g hg hs => q z H2 g M2 (by omega) hg r2 (e1.trans e2) (.sc hs)
def OpU (K : PySem.W.Frag) (r : V → Hp → VK → Prop) (pr : D → (D → Prop) → Prop) : Prop := ∀ H B x d, Rp K H B x d → ∀ (po : D → Prop) (Q : VK), pr d po → (∀ z g, po g → Sc z g → Q z H) → r x H Q
def pUn (pr : D → (D → Prop) → Prop) (pa : PX) : PX := fun ρ po xx => pa ρ (fun u => pr u po) xx
theorem sx_un {r : V → Hp → VK → Prop} {pr : D → (D → Prop) → Prop} (ha : SX g W .t k1 ta pa) (ho : OpU g.K r pr) : SX g W .f k1 (tUn r ta) (pUn pr pa) := fun c hc N σ H ρ rp hk po xx hp hx Q q =>
  ha c hc N σ H ρ rp hk _ xx hp hx _ fun x H1 d M1 hM1 hd r1 e1 hv1 => by
    subst hc
    exact ho H1 (Sa ρ σ) x d hv1 po Q hd fun z g hg hs => q z H1 g M1 hM1 hg r1 e1 (.sc hs)
/-! arguments -/
def pNil : PXs := fun _ po _ => po []
def pCons (pa : PX) (pr : PXs) : PXs := fun ρ po xx => pa ρ (fun u => pr ρ (fun us => po (u :: us)) xx) xx
variable {tr : TA} {pr : PXs}
theorem sa_nil : SA g W md 0 tNil pNil := fun c hc N σ H ρ rp hk po xx hp hx Q q => q [] H [] N (by omega) hp rp Ext.refl .nil
theorem sa_cons (hm : md ≠ .f) (ha : SX g W md k1 ta pa) (hr : SA g W md k2 tr pr) : SA g W md (k1 + k2) (tCons ta tr) (pCons pa pr) := fun c hc N σ H ρ rp hk po xx hp hx Q q =>
  ha c hc N σ H ρ rp (by omega) _ xx hp (hx.sub (by omega)) _ fun x H1 d M1 hM1 hd r1 e1 hv1 =>
    hr c hc M1 σ H1 ρ r1 (by omega) _ xx hd (hx.sub (by omega)) _ fun vs H2 ds M2 hM2 he r2 e2 hv2 =>
      q (x :: vs) H2 (d :: ds) M2 (by omega) he r2 (e1.trans e2) (.cons (RV.ext (M := M1) (M' := M2) hm e2 hv1) hv2)
theorem pd_map {α β : Type} {R R' : α → β → Prop} (h : ∀ a b, R a b → R' a b) : ∀ {xs : List α} {ys : List β}, Paired R xs ys → Paired R' xs ys
  | _, _, .nil => .nil
  | _, _, .cons a r => .cons (h _ _ a) (pd_map h r)
theorem pd_len {α β : Type} {R : α → β → Prop} : ∀ {xs : List α} {ys : List β}, Paired R xs ys → xs.length = ys.length
  | _, _, .nil => rfl
  | _, _, .cons a r => by simp [pd_len r]
theorem pd_app {α β : Type} {R : α → β → Prop} : ∀ {xs : List α} {ys : List β} {xs' : List α} {ys' : List β}, Paired R xs ys → Paired R xs' ys' → Paired R (xs ++ xs') (ys ++ ys')
  | _, _, _, _, .nil, s => s
  | _, _, _, _, .cons a r, s => .cons a (pd_app r s)
theorem pd_rev {α β : Type} {R : α → β → Prop} : ∀ {xs : List α} {ys : List β}, Paired R xs ys → Paired R xs.reverse ys.reverse
  | _, _, .nil => .nil
  | _, _, .cons a r => by
    rw [List.reverse_cons, List.reverse_cons]
    exact pd_app (pd_rev r) (.cons a .nil)
theorem pd_take {α β : Type} {R : α → β → Prop} : ∀ {xs : List α} {ys : List β} (n : Nat), Paired R xs ys → Paired R (xs.take n) (ys.take n)
  | _, _, 0, _ => .nil
  | _, _, _ + 1, .nil => .nil
  | _, _, n + 1, .cons a r => .cons a (pd_take n r)
theorem pd_drop {α β : Type} {R : α → β → Prop} : ∀ {xs : List α} {ys : List β} (n : Nat), Paired R xs ys → Paired R (xs.drop n) (ys.drop n)
  | _, _, 0, r => r
  | _, _, _ + 1, .nil => .nil
  | _, _, n + 1, .cons a r => pd_drop n r
theorem pd_get {α β : Type} {R : α → β → Prop} : ∀ {xs : List α} {ys : List β} {i : Nat} {x : α}, Paired R xs ys → xs[i]? = some x → ∃ y, ys[i]? = some y ∧ R x y
  | _, _, i, _, .nil, h => by simp at h
  | _, _, 0, _, .cons a r, h => by simp at h; subst h; exact ⟨_, rfl, a⟩
  | _, _, i + 1, _, .cons a r, h => by
    obtain ⟨y, h1, h2⟩ := pd_get (i := i) r (by simpa using h)
    exact ⟨y, by simpa using h1, h2⟩
theorem pd_get' {α β : Type} {R : α → β → Prop} : ∀ {xs : List α} {ys : List β} {i : Nat} {y : β}, Paired R xs ys → ys[i]? = some y → ∃ x, xs[i]? = some x ∧ R x y
  | _, _, i, _, .nil, h => by simp at h
  | _, _, 0, _, .cons a r, h => by simp at h; subst h; exact ⟨_, rfl, a⟩
  | _, _, i + 1, _, .cons a r, h => by
    obtain ⟨y, h1, h2⟩ := pd_get' (i := i) r (by simpa using h)
    exact ⟨y, by simpa using h1, h2⟩
theorem pd_set {α β : Type} {R : α → β → Prop} {x : α} {y : β} (h : R x y) : ∀ {xs : List α} {ys : List β} (i : Nat), Paired R xs ys → Paired R (xs.set i x) (ys.set i y)
  | _, _, _, .nil => by simp; exact .nil
  | _, _, 0, .cons a r => .cons h r
  | _, _, i + 1, .cons a r => .cons a (pd_set h i r)
theorem pd_dropLast {α β : Type} {R : α → β → Prop} {xs : List α} {ys : List β} (h : Paired R xs ys) : Paired R xs.dropLast ys.dropLast := by
  rw [List.dropLast_eq_take, List.dropLast_eq_take, pd_len h]
  exact pd_take _ h
theorem SA.et (h : SA g W .e k tr pr) : SA g W .t k tr pr := fun c hc N σ H ρ r hk po xx hp hx Q q =>
  h c hc N σ H ρ r hk po xx hp hx Q fun v H' d M hM hd r' e hv => q v H' d M hM hd r' e (pd_map (fun _ _ z => RV.et (M := M) z) hv)
/-- a built-in function whose result is no object -/
def OpA (K : PySem.W.Frag) (r : List V → Hp → VK → Prop) (pr : List D → (D → Prop) → Prop) : Prop := ∀ H B xs ds, RpA K H B xs ds → ∀ (po : D → Prop) (Q : VK), pr ds po → (∀ z g, po g → Sc z g → Q z H) → r xs H Q
def pCB (f : List D → (D → Prop) → Prop) (pr : PXs) : PX := fun ρ po xx => pr ρ (fun us => f us po) xx
theorem sx_cb {r : List V → Hp → VK → Prop} {f : List D → (D → Prop) → Prop} (ha : SA g W .t k tr pr) (ho : OpA g.K r f) : SX g W .f k (tCB r tr) (pCB f pr) := fun c hc N σ H ρ rp hk po xx hp hx Q q =>
  ha c hc N σ H ρ rp hk _ xx hp hx _ fun x H1 d M1 hM1 hd r1 e1 hv1 => by
    subst hc
    exact ho H1 (Sa ρ σ) x d hv1 po Q hd fun z g hg hs => q z H1 g M1 hM1 hg r1 e1 (.sc hs)
/-! displays -/
theorem rv_newL (r : Rep c M ρ σ H) {p : Addr} {vs : List V} {ds : List D} (hp : H p = none) (h : RpA c.g.K H (Bs c ρ σ) vs ds) : RV c M ρ σ (upd H p (.lst vs)) .f (.ref p) (.lst ds) := by
  refine .inr ⟨p, vs, ds, rfl, rfl, upd_same, r.freshH0 hp, fun z => r.bs_ne (.inl z) hp rfl, ?_, r.addNew hp⟩
  refine RpA.mono (fun a o e n => ⟨by rw [upd_ne (ne_of_none e hp)]; exact e, fun z => ?_⟩) _ _ h
  rcases bs_addF_cases z with z | z
  · exact ne_of_none e hp z
  · exact n z
theorem sz_pd {α β : Type} {R : α → β → Prop} {xs : List α} {ys : List β} (h : Paired R xs ys) {n : Nat} (hn : ys.length ≤ n) (z : n ≤ 100000) : xs.length ≤ sizeLine := sz_of (by rw [pd_len h]; omega)
def pLst (pr : PXs) : PX := fun ρ po xx => pr ρ (fun us => us.length ≤ 100000 ∧ po (.lst us)) xx
def pTup (pr : PXs) : PX := fun ρ po xx => pr ρ (fun us => us.length ≤ 100000 ∧ po (.tup us)) xx
theorem sx_lst (ha : SA g W .e k tr pr) : SX g W .f k (tLst tr) (pLst pr) := fun c hc N σ H ρ rp hk po xx hp hx Q q =>
  ha c hc N σ H ρ rp hk _ xx hp hx _ fun vs H1 ds M1 hM1 hd r1 e1 hv1 => ⟨sz_pd hv1 hd.1 (Nat.le_refl _), fun p hp =>
    q _ _ _ M1 hM1 hd.2 (r1.new hp) (e1.trans (.of (Ex.new hp))) (rv_newL r1 hp hv1)⟩
theorem sx_lstT (ha : SA g W .t k tr pr) : SX g W .t k (tLst tr) (pLst pr) := fun c hc N σ H ρ rp hk po xx hp hx Q q =>
  ha c hc N σ H ρ rp hk _ xx hp hx _ fun vs H1 ds M1 hM1 hd r1 e1 hv1 => ⟨sz_pd hv1 hd.1 (Nat.le_refl _), fun p hp =>
    q _ _ _ M1 hM1 hd.2 (r1.new hp) (e1.trans (.of (Ex.new hp))) (.lst ⟨upd_same, fun z => r1.bs_ne (sa_bs z) hp rfl⟩ (rpA_ext (.of (Ex.new hp)) (fun _ z => z) hv1))⟩
theorem sx_tup (ha : SA g W .e k tr pr) : SX g W .e k (tTup tr) (pTup pr) := fun c hc N σ H ρ rp hk po xx hp hx Q q =>
  ha c hc N σ H ρ rp hk _ xx hp hx _ fun vs H1 ds M1 hM1 hd r1 e1 hv1 => ⟨sz_pd hv1 hd.1 (Nat.le_refl _), fun p hp =>
    q _ _ _ M1 hM1 hd.2 (r1.new hp) (e1.trans (.of (Ex.new hp))) (.tup ⟨upd_same, fun z => r1.bs_ne z hp rfl⟩ (rpA_ext (.of (Ex.new hp)) (fun _ => sa_bs) hv1))⟩
theorem sx_tupT (ha : SA g W .t k tr pr) : SX g W .t k (tTup tr) (pTup pr) := fun c hc N σ H ρ rp hk po xx hp hx Q q =>
  ha c hc N σ H ρ rp hk _ xx hp hx _ fun vs H1 ds M1 hM1 hd r1 e1 hv1 => ⟨sz_pd hv1 hd.1 (Nat.le_refl _), fun p hp =>
    q _ _ _ M1 hM1 hd.2 (r1.new hp) (e1.trans (.of (Ex.new hp))) (.tup ⟨upd_same, fun z => r1.bs_ne (sa_bs z) hp rfl⟩ (rpA_ext (.of (Ex.new hp)) (fun _ z => z) hv1))⟩
/-! tests -/
variable {tt tu : TT} {ba bb : PXb}
def onB (d : D) (po : Bool → Prop) : Prop := match d with
  | .bl b => po b
  | _ => False
theorem onB_of {d : D} {po : Bool → Prop} (h : onB d po) : ∃ b, d = .bl b ∧ po b := by
  unfold onB at h
  split at h
  · exact ⟨_, rfl, h⟩
  · exact h.elim
def qTest (pa : PX) : PXb := fun ρ po xx => pa ρ (fun d => onB d po) xx
theorem rp_bl {K : PySem.W.Frag} {B : AS} {b : Bool} (h : Rp K H B v (.bl b)) : v = .bl b := by cases h; rfl
theorem rv_bl {b : Bool} (h : RV c M ρ σ H md v (.bl b)) : v = .bl b := by
  cases md with
  | t => exact rp_bl h
  | e => exact rp_bl h
  | b =>
    rcases h with h | ⟨_, _, _, _, h, _⟩
    · exact rp_bl h
    · cases h
  | f =>
    rcases h with h | ⟨_, _, _, _, h, _⟩
    · exact rp_bl h.2
    · cases h
theorem sb_test (ha : SX g W md k ta pa) : SB g W k (tTest ta) (qTest pa) := fun c hc N σ H ρ rp hk po xx hp hx Q q =>
  ha c hc N σ H ρ rp hk _ xx hp hx _ fun x H1 d M1 hM1 hd r1 e1 hv1 => by
    obtain ⟨b, e0, h0⟩ := onB_of hd
    clear hd
    subst e0
    have hd := h0
    exact ⟨_, rv_bl hv1, q _ H1 M1 hM1 hd r1 e1⟩
theorem sb_B (ha : SX g W md k ta pa) : SB g W k (tB ta) (qTest pa) := fun c hc N σ H ρ rp hk po xx hp hx Q q =>
  ha c hc N σ H ρ rp hk _ xx hp hx _ fun x H1 d M1 hM1 hd r1 e1 hv1 => by
    obtain ⟨b, e0, h0⟩ := onB_of hd
    clear hd
    subst e0
    have hd := h0
    exact ⟨_, rv_bl hv1, q _ H1 M1 hM1 hd r1 e1⟩
def qAnd (ba bb : PXb) : PXb := fun ρ po xx => ba ρ (fun b => if b = true then bb ρ po xx else po false) xx
def qOr (ba bb : PXb) : PXb := fun ρ po xx => ba ρ (fun b => if b = true then po true else bb ρ po xx) xx
def qNot (ba : PXb) : PXb := fun ρ po xx => ba ρ (fun b => po (!b)) xx
theorem sb_and (ha : SB g W k1 tt ba) (hb : SB g W k2 tu bb) : SB g W (k1 + k2) (tAnd tt tu) (qAnd ba bb) := fun c hc N σ H ρ rp hk po xx hp hx Q q =>
  ha c hc N σ H ρ rp (by omega) _ xx hp (hx.sub (by omega)) _ fun b H1 M1 hM1 hd r1 e1 => by
    cases b with
    | true =>
      rw [if_pos rfl] at hd ⊢
      exact hb c hc M1 σ H1 ρ r1 (by omega) po xx hd (hx.sub (by omega)) Q fun b H2 M2 hM2 hb r2 e2 => q b H2 M2 (by omega) hb r2 (e1.trans e2)
    | false =>
      rw [if_neg (by decide)] at hd ⊢
      exact q false H1 M1 (by omega) hd r1 e1
theorem sb_or (ha : SB g W k1 tt ba) (hb : SB g W k2 tu bb) : SB g W (k1 + k2) (tOr tt tu) (qOr ba bb) := fun c hc N σ H ρ rp hk po xx hp hx Q q =>
  ha c hc N σ H ρ rp (by omega) _ xx hp (hx.sub (by omega)) _ fun b H1 M1 hM1 hd r1 e1 => by
    cases b with
    | false =>
      rw [if_neg (by decide)] at hd ⊢
      exact hb c hc M1 σ H1 ρ r1 (by omega) po xx hd (hx.sub (by omega)) Q fun b H2 M2 hM2 hb r2 e2 => q b H2 M2 (by omega) hb r2 (e1.trans e2)
    | true =>
      rw [if_pos rfl] at hd ⊢
      exact q true H1 M1 (by omega) hd r1 e1
theorem sb_not (ha : SB g W k tt ba) : SB g W k (tNot tt) (qNot ba) := fun c hc N σ H ρ rp hk po xx hp hx Q q =>
  ha c hc N σ H ρ rp hk _ xx hp hx _ fun b H1 M1 hM1 hd r1 e1 => q _ H1 M1 hM1 hd r1 e1
theorem sb_yes : SB g W 0 tYes (fun _ po _ => po true) := fun c hc N σ H ρ rp hk po xx hp hx Q q => q true H N (by omega) hp rp Ext.refl
def pAndV (pa pb : PX) : PX := fun ρ po xx => pa ρ (fun d => onB d fun b => if b = true then pb ρ po xx else po (.bl false)) xx
def pOrV (pa pb : PX) : PX := fun ρ po xx => pa ρ (fun d => onB d fun b => if b = true then po (.bl true) else pb ρ po xx) xx
def pNotV (pa : PX) : PX := fun ρ po xx => pa ρ (fun d => onB d fun b => po (.bl (!b))) xx
theorem sx_andV (ha : SX g W .t k1 ta pa) (hb : SX g W .f k2 tb pb) : SX g W .f (k1 + k2) (tAndV ta tb) (pAndV pa pb) := fun c hc N σ H ρ rp hk po xx hp hx Q q =>
  ha c hc N σ H ρ rp (by omega) _ xx hp (hx.sub (by omega)) _ fun x H1 d M1 hM1 hd r1 e1 hv1 => by
    · obtain ⟨b, e0, h0⟩ := onB_of hd
      clear hd
      subst e0
      have hd := h0
      refine ⟨b, rv_bl hv1, ?_⟩
      cases b with
      | true =>
        rw [if_pos rfl] at hd ⊢
        exact hb c hc M1 σ H1 ρ r1 (by omega) po xx hd (hx.sub (by omega)) Q fun v H2 d M2 hM2 hb r2 e2 hv => q v H2 d M2 (by omega) hb r2 (e1.trans e2) hv
      | false =>
        rw [if_neg (by decide)] at hd ⊢
        exact q _ H1 _ M1 (by omega) hd r1 e1 (.sc (.bl false))
theorem sx_orV (ha : SX g W .t k1 ta pa) (hb : SX g W .f k2 tb pb) : SX g W .f (k1 + k2) (tOrV ta tb) (pOrV pa pb) := fun c hc N σ H ρ rp hk po xx hp hx Q q =>
  ha c hc N σ H ρ rp (by omega) _ xx hp (hx.sub (by omega)) _ fun x H1 d M1 hM1 hd r1 e1 hv1 => by
    · obtain ⟨b, e0, h0⟩ := onB_of hd
      clear hd
      subst e0
      have hd := h0
      refine ⟨b, rv_bl hv1, ?_⟩
      cases b with
      | false =>
        rw [if_neg (by decide)] at hd ⊢
        exact hb c hc M1 σ H1 ρ r1 (by omega) po xx hd (hx.sub (by omega)) Q fun v H2 d M2 hM2 hb r2 e2 hv => q v H2 d M2 (by omega) hb r2 (e1.trans e2) hv
      | true =>
        rw [if_pos rfl] at hd ⊢
        exact q _ H1 _ M1 (by omega) hd r1 e1 (.sc (.bl true))
theorem sx_notV (ha : SX g W .t k ta pa) : SX g W .f k (tNotV ta) (pNotV pa) := fun c hc N σ H ρ rp hk po xx hp hx Q q =>
  ha c hc N σ H ρ rp hk _ xx hp hx _ fun x H1 d M1 hM1 hd r1 e1 hv1 => by
    obtain ⟨b, e0, h0⟩ := onB_of hd
    clear hd
    subst e0
    have hd := h0
    exact ⟨_, rv_bl hv1, q _ H1 _ M1 hM1 hd r1 e1 (.sc (.bl _))⟩
def pIf (ba : PXb) (pa pb : PX) : PX := fun ρ po xx => ba ρ (fun b => if b = true then pa ρ po xx else pb ρ po xx) xx
theorem sx_if (hc' : SB g W k1 tt ba) (ha : SX g W md k2 ta pa) (hb : SX g W md k3 tb pb) : SX g W md (k1 + (k2 + k3)) (tIf tt ta tb) (pIf ba pa pb) := fun c hc N σ H ρ rp hk po xx hp hx Q q =>
  hc' c hc N σ H ρ rp (by omega) _ xx hp (hx.sub (by omega)) _ fun b H1 M1 hM1 hd r1 e1 => by
    cases b with
    | true =>
      rw [if_pos rfl] at hd ⊢
      exact ha c hc M1 σ H1 ρ r1 (by omega) po xx hd (hx.sub (by omega)) Q fun v H2 d M2 hM2 hb r2 e2 hv => q v H2 d M2 (by omega) hb r2 (e1.trans e2) hv
    | false =>
      rw [if_neg (by decide)] at hd ⊢
      exact hb c hc M1 σ H1 ρ r1 (by omega) po xx hd (hx.sub (by omega)) Q fun v H2 d M2 hM2 hb r2 e2 hv => q v H2 d M2 (by omega) hb r2 (e1.trans e2) hv
def pChain (r r' : P2) (pa pb pc : PX) : PX := fun ρ po xx => pa ρ (fun u => pb ρ (fun w => r u w fun z => onB z fun b => if b = true then pc ρ (fun y => r' w y po) xx else po (.bl false)) xx) xx
theorem sx_chain {r r' : R2} {pr pr' : P2} (ha : SX g W .t k1 ta pa) (hb : SX g W .t k2 tb pb) (hc' : SX g W .t k3 tc pc) (ho : OpS g.K r pr) (ho' : OpS g.K r' pr') : SX g W .f (k1 + (k2 + k3)) (tChain r r' ta tb tc) (pChain pr pr' pa pb pc) := fun c hc N σ H ρ rp hk po xx hp hx Q q =>
  ha c hc N σ H ρ rp (by omega) _ xx hp (hx.sub (by omega)) _ fun x H1 d M1 hM1 hd r1 e1 hv1 =>
    hb c hc M1 σ H1 ρ r1 (by omega) _ xx hd (hx.sub (by omega)) _ fun y H2 e M2 hM2 he r2 e2 hv2 => by
      subst hc
      refine ho H2 (Sa ρ σ) x y d e (RV.ext (M := M1) (M' := M2) (by simp) e2 hv1) hv2 _ _ he fun z g hg hs => ?_
      · obtain ⟨b, e0, h0⟩ := onB_of hg
        clear hg
        subst e0
        have hg := h0
        cases hs
        refine ⟨b, rfl, ?_⟩
        cases b with
        | true =>
          rw [if_pos rfl] at hg ⊢
          exact hc' c rfl M2 σ H2 ρ r2 (by omega) _ xx hg (hx.sub (by omega)) _ fun w H3 u M3 hM3 hu r3 e3 hv3 =>
            ho' H3 (Sa ρ σ) y w e u (RV.ext (M := M2) (M' := M3) (by simp) e3 hv2) hv3 po Q hu fun z g hg hs => q z H3 g M3 (by omega) hg r3 ((e1.trans e2).trans e3) (.sc hs)
        | false =>
          rw [if_neg (by decide)] at hg ⊢
          exact q _ H2 _ M2 (by omega) hg r2 (e1.trans e2) (.sc (.bl false))
end
end PD

/-! statements, loops -/
namespace PD
open PySem PySem.Spec PyProof.Rows L2 Evl SL
structure PK where
  nx : Env → Prop
  rt : D → Prop
  bk : Env → Prop
  ct : Env → Prop
  xx : Env → Exn → Prop
abbrev PS' := PK → Env → Prop
/-- what comes back: avoiding what the caller keeps, perhaps a new list -/
def RO (c : Cf) (M : Nat) (mr : Md) (v : V) (H : Hp) (d : D) : Prop :=
  (∀ a o, c.H0 a = some o → ¬ c.P0 a → H a = some o) ∧ (∀ a, c.P0 a → SrcAt c a M H) ∧ match mr with
  | .f => (d.isL = false ∧ Rp c.g.K H (fun a => c.F a ∨ c.P0 a) v d) ∨ ∃ a vs ds, v = .ref a ∧ d = .lst ds ∧ H a = some (.lst vs) ∧ c.H0 a = none ∧ ¬ c.F a ∧ RpA c.g.K H (fun b => (c.F b ∨ c.P0 b) ∨ b = a) vs ds
  | _ => Rp c.g.K H (fun a => c.F a ∨ c.P0 a) v d
structure EndsOk (c : Cf) (W : XW) (mr : Md) (L : Nat) (κ : PK) (D : Ends) : Prop where
  nx : ∀ ρ σ H M, M ≤ L → κ.nx ρ → Rep c M ρ σ H → D.nx σ H
  bk : ∀ ρ σ H M, M ≤ L → κ.bk ρ → Rep c M ρ σ H → D.bk σ H
  ct : ∀ ρ σ H M, M ≤ L → κ.ct ρ → Rep c M ρ σ H → D.ct σ H
  rt : ∀ v H d M, M ≤ L → κ.rt d → RO c M mr v H d → D.rt v H
  xx : ∀ ρ σ H M e cls dd, M ≤ L → κ.xx ρ e → XR c.g.K H e cls dd → Rep c M ρ σ H → W cls dd σ H
def SS (g : Gx) (W : XW) (mr : Md) (k : Nat) (t : TS) (p : PS') : Prop :=
  ∀ c, c.g = g → ∀ N σ H ρ, Rep c N ρ σ H → N + k ≤ NM → ∀ κ, p κ ρ → ∀ D, EndsOk c W mr (N + k) κ D → t D σ H
section
variable {g : Gx} {W : XW} {mr : Md} {c : Cf} {N M L L' k k1 k2 k3 : Nat} {ρ : Env} {σ : L2.St} {H : Hp} {md : Md} {v : V} {d : D} {ta tb : TE} {tr : TA} {pr : PXs} {tt : TT} {ba : PXb} {pa pb : PX} {t u : TS} {p q : PS'} {κ : PK} {DD : Ends}
theorem EndsOk.sub (h : EndsOk c W mr L κ DD) (e : L' ≤ L) : EndsOk c W mr L' κ DD :=
  ⟨fun ρ σ H M hM => h.nx ρ σ H M (by omega), fun ρ σ H M hM => h.bk ρ σ H M (by omega), fun ρ σ H M hM => h.ct ρ σ H M (by omega), fun v H d M hM => h.rt v H d M (by omega), fun ρ σ H M e cls dd hM => h.xx ρ σ H M e cls dd (by omega)⟩
theorem EndsOk.xf (h : EndsOk c W mr L κ DD) (e : N + k ≤ L) : Xf W c N k ρ σ (κ.xx ρ) := fun e' cls dd H' M hM hx hr r => h.xx ρ σ H' M e' cls dd (by omega) hx hr r
def kNext : PS' := fun κ ρ => κ.nx ρ
def kBreak : PS' := fun κ ρ => κ.bk ρ
def kCont : PS' := fun κ ρ => κ.ct ρ
def kNever : PS' := fun _ _ => False
def kSeq (p q : PS') : PS' := fun κ ρ => p { κ with nx := q κ } ρ
theorem ss_next : SS g W mr 0 tNext kNext := fun c hc N σ H ρ r hk κ hp D hD => hD.nx ρ σ H N (by omega) hp r
theorem ss_break : SS g W mr 0 tBreak kBreak := fun c hc N σ H ρ r hk κ hp D hD => hD.bk ρ σ H N (by omega) hp r
theorem ss_cont : SS g W mr 0 tCont kCont := fun c hc N σ H ρ r hk κ hp D hD => hD.ct ρ σ H N (by omega) hp r
theorem ss_never : SS g W mr 0 tNever kNever := fun c hc N σ H ρ r hk κ hp D hD => hp.elim
theorem ss_seq (h1 : SS g W mr k1 t p) (h2 : SS g W mr k2 u q) : SS g W mr (k1 + k2) (tSeq t u) (kSeq p q) := fun c hc N σ H ρ r hk κ hp D hD => by
  refine h1 c hc N σ H ρ r (by omega) _ hp _ ⟨fun ρ' σ' H' M hM hq r' => ?_, fun ρ σ H M hM => hD.bk ρ σ H M (by omega), fun ρ σ H M hM => hD.ct ρ σ H M (by omega), fun v H d M hM => hD.rt v H d M (by omega), fun ρ σ H M e cls dd hM => hD.xx ρ σ H M e cls dd (by omega)⟩
  exact h2 c hc M σ' H' ρ' r' (by omega) κ hq D (hD.sub (by omega))
/-- a list of one's own is shared from here on -/
def kDem (i : Nat) (p : PS') : PS' := fun κ ρ => match ρ[i]? with
  | some (some (.o xs)) => p κ (ρ.set i (some (.d (.lst xs))))
  | _ => p κ ρ
theorem ss_dem {i : Nat} (h : SS g W mr k t p) : SS g W mr k t (kDem i p) := fun c hc N σ H ρ r hk κ hp D hD => by
  unfold kDem at hp
  split at hp
  · rename_i xs e
    exact h c hc N σ H _ (r.demote e) hk κ hp D hD
  · exact h c hc N σ H ρ r hk κ hp D hD
/-- a slot is forgotten -/
def kAsgD (i : Nat) (pa : PX) : PS' := fun κ ρ => pa ρ (fun d => κ.nx (ρ.set i (some (.d d)))) (κ.xx ρ)
theorem ss_asgD {i : Nat} (ha : SX g W .e k ta pa) : SS g W mr k (tAsg ta (gName i)) (kAsgD i pa) := fun c hc N σ H ρ r hk κ hp D hD =>
  ha c hc N σ H ρ r hk _ _ hp (hD.xf (by omega)) _ fun v H1 d M1 hM1 hd r1 e1 hv1 => hD.nx _ _ H1 M1 hM1 hd (r1.setD hv1)
def asO (d : D) : Wd := match d with
  | .lst ds => .o ds
  | d => .d d
def kAsgF (i : Nat) (pa : PX) : PS' := fun κ ρ => pa ρ (fun d => κ.nx (ρ.set i (some (asO d)))) (κ.xx ρ)
theorem asO_d {d : D} (h : d.isL = false) : asO d = .d d := by
  cases d with
  | lst ds => cases h
  | _ => rfl
theorem ss_asgF {i : Nat} (ha : SX g W .f k ta pa) : SS g W mr k (tAsg ta (gName i)) (kAsgF i pa) := fun c hc N σ H ρ r hk κ hp D hD =>
  ha c hc N σ H ρ r hk _ _ hp (hD.xf (by omega)) _ fun v H1 d M1 hM1 hd r1 e1 hv1 => by
    rcases hv1 with ⟨hl, hv1⟩ | ⟨a, vs, ds, rfl, rfl, h1, h2, h3, h4, h5⟩
    · exact hD.nx _ _ H1 M1 hM1 hd (by rw [asO_d hl]; exact r1.setD hv1)
    · exact hD.nx _ _ H1 M1 hM1 hd (h5.setOwn (w := .o ds) trivial h2 (fun xs e => by cases e; exact ⟨vs, h1, h4⟩) (fun e => by cases e) h3)
def kIf (ba : PXb) (p q : PS') : PS' := fun κ ρ => ba ρ (fun b => if b = true then p κ ρ else q κ ρ) (κ.xx ρ)
theorem ss_if (hc' : SB g W k1 tt ba) (h1 : SS g W mr k2 t p) (h2 : SS g W mr k3 u q) : SS g W mr (k1 + (k2 + k3)) (tIfS tt t u) (kIf ba p q) := fun c hc N σ H ρ r hk κ hp D hD =>
  hc' c hc N σ H ρ r (by omega) _ _ hp (hD.xf (by omega)) _ fun b H1 M1 hM1 hd r1 e1 => by
    cases b with
    | true =>
      rw [if_pos rfl] at hd ⊢
      exact h1 c hc M1 σ H1 ρ r1 (by omega) κ hd D (hD.sub (by omega))
    | false =>
      rw [if_neg (by decide)] at hd ⊢
      exact h2 c hc M1 σ H1 ρ r1 (by omega) κ hd D (hD.sub (by omega))
def kDrop (pa : PX) : PS' := fun κ ρ => pa ρ (fun _ => κ.nx ρ) (κ.xx ρ)
theorem ss_drop (ha : SX g W md k ta pa) : SS g W mr k (tDrop ta) (kDrop pa) := fun c hc N σ H ρ r hk κ hp D hD =>
  ha c hc N σ H ρ r hk _ _ hp (hD.xf (by omega)) _ fun v H1 d M1 hM1 hd r1 e1 hv1 => hD.nx _ _ H1 M1 hM1 hd r1
theorem bs_fp {a : Addr} (h : c.F a ∨ c.P0 a) : Bs c ρ σ a := h.elim .inl fun z => .inr (.inl z)
def kRet (pa : PX) : PS' := fun κ ρ => pa ρ κ.rt (κ.xx ρ)
theorem ss_retE (ha : SX g W .e k ta pa) : SS g W .e k (tRet ta) (kRet pa) := fun c hc N σ H ρ r hk κ hp D hD =>
  ha c hc N σ H ρ r hk _ _ hp (hD.xf (by omega)) _ fun v H1 d M1 hM1 hd r1 e1 hv1 => hD.rt v H1 d M1 hM1 hd ⟨r1.ext, fun a h => (r1.p0 a h).2, Rp.less (fun a => bs_fp) hv1⟩
theorem ss_retF (ha : SX g W .f k ta pa) : SS g W .f k (tRet ta) (kRet pa) := fun c hc N σ H ρ r hk κ hp D hD =>
  ha c hc N σ H ρ r hk _ _ hp (hD.xf (by omega)) _ fun v H1 d M1 hM1 hd r1 e1 hv1 => hD.rt v H1 d M1 hM1 hd ⟨r1.ext, fun a h => (r1.p0 a h).2, by
    rcases hv1 with ⟨hl, hv1⟩ | ⟨a, vs, ds, rfl, rfl, h1, h2, h3, h4, h5⟩
    · exact .inl ⟨hl, Rp.less (fun a => bs_fp) hv1⟩
    · refine .inr ⟨a, vs, ds, rfl, rfl, h1, h2, h3, h4.less fun b z => ?_⟩
      rcases z with z | z
      · exact bs_addF (bs_fp z)
      · exact .inl (.inr z)⟩
def kRetO (i : Nat) : PS' := fun κ ρ => match ρ[i]? with
  | some (some (.o xs)) => κ.rt (.lst xs)
  | some (some (.d x)) => x.isL = false ∧ κ.rt x
  | _ => False
theorem ss_retO {i : Nat} : SS g W .f 0 (tRet (tVar i)) (kRetO i) := fun c hc N σ H ρ r hk κ hp D hD => by
  unfold kRetO at hp
  split at hp
  · rename_i xs e
    obtain ⟨a, vs, h1, h2, h3, h4⟩ := r.o i xs e
    refine ⟨_, h1, hD.rt _ H _ N (by omega) hp ⟨r.ext, fun a h => (r.p0 a h).2, .inr ⟨a, vs, xs, rfl, rfl, h2, h4, fun z => (r.fr a z).1 ⟨i, by rw [e]; trivial, h1⟩, h3.less fun b z => ?_⟩⟩⟩
    rcases z with z | z
    · exact bs_fp z
    · subst z; exact .inr (.inr ⟨i, by rw [e]; trivial, h1⟩)
  · rename_i x e
    obtain ⟨v, h1, h2⟩ := r.d i x e
    exact ⟨v, h1, hD.rt _ H _ N (by omega) hp.2 ⟨r.ext, fun a h => (r.p0 a h).2, .inl ⟨hp.1, h2.less fun a => bs_fp⟩⟩⟩
  · exact hp.elim
def kRetN : PS' := fun κ _ => κ.rt .non
theorem ro_non (r : Rep c N ρ σ H) (hm : mr = .e ∨ mr = .f) : RO c N mr .non H .non := ⟨r.ext, fun a h => (r.p0 a h).2, by
  rcases hm with h | h
  · subst h; exact .non
  · subst h; exact .inl ⟨rfl, .non⟩⟩
theorem ss_retN (hm : mr = .e ∨ mr = .f) : SS g W mr 0 tRetN kRetN := fun c hc N σ H ρ r hk κ hp D hD => hD.rt .non H .non N (by omega) hp (ro_non r hm)
/-! two, three names at once -/
def kPar (i j : Nat) (pa pb : PX) (fa fb : D → Wd) : PS' := fun κ ρ => pa ρ (fun x => pb ρ (fun y => κ.nx ((ρ.set i (some (fa x))).set j (some (fb y)))) (κ.xx ρ)) (κ.xx ρ)
def asD (d : D) : Wd := .d d
/-- what is stored by a mode: e as it is, f as one's own -/
def stW : Md → D → Wd
  | .f => asO
  | _ => asD
theorem Rep.put (r : Rep c M ρ σ H) {i : Nat} (hm : md = .e ∨ md = .f) (h : RV c M ρ σ H md v d) : Rep c M (ρ.set i (some (stW md d))) (σ.set i (some v)) H := by
  rcases hm with z | z
  · subst z; exact r.setD h
  · subst z
    rcases h with ⟨hl, hv1⟩ | ⟨a, vs, ds, rfl, rfl, h1, h2, h3, h4, h5⟩
    · show Rep c M (ρ.set i (some (asO d))) _ H
      rw [asO_d hl]
      exact r.setD hv1
    · exact h5.setOwn (w := .o ds) trivial h2 (fun xs e => by cases e; exact ⟨vs, h1, h4⟩) (fun e => by cases e) h3
end
end PD

/-! what is walked, targets, comprehensions, loops -/
namespace PD
open PySem PySem.Spec PyProof.Rows L2 Evl SL
/-- kept while it is walked: its items avoid B, perhaps itself does not -/
def Kt (K : PySem.W.Frag) (H : Hp) (B : AS) (v : V) (d : D) : Prop := Rp K H B v d ∨ ∃ a vs ds, v = .ref a ∧ d = .lst ds ∧ H a = some (.lst vs) ∧ RpA K H B vs ds
structure WalkOk (K : PySem.W.Frag) (kv : List (V × D)) (J : It) (ds : List D) : Prop where
  go : ∀ H B i, (∀ p ∈ kv, Kt K H B p.1 p.2) → i < ds.length → J.go i H
  stop : ∀ H B i, (∀ p ∈ kv, Kt K H B p.1 p.2) → ds.length ≤ i → J.stop i H
  yld : ∀ H B i x H', (∀ p ∈ kv, Kt K H B p.1 p.2) → (∀ a, B a → ∃ xs, H a = some (.lst xs)) → i < ds.length → J.yld i H x H' → ∃ d, ds[i]? = some d ∧ Ex H H' ∧ Rp K H' B x d
def SW (g : Gx) (W : XW) (md : Md) (k : Nat) (wi : TI) (p : PXs) : Prop :=
  ∀ c, c.g = g → ∀ N σ H ρ, Rep c N ρ σ H → N + k ≤ NM → ∀ po xx, p ρ po xx → Xf W c N k ρ σ xx → ∀ R : It → Hp → Prop,
    (∀ J kv H' ds M, M ≤ N + k → po ds → Rep c M ρ σ H' → Ext (Sa ρ σ) H H' → (∀ p ∈ kv, RV c M ρ σ H' md p.1 p.2) → WalkOk g.K kv J ds → R J H') → wi σ H R
abbrev PGt := D → Env → Option Env
def SG (g : Gx) (is : List Nat) (gt : TG) (pg : PGt) : Prop :=
  ∀ c, c.g = g → ∀ M ρ σ H v d ρ', Rep c M ρ σ H → Rp c.g.K H (Bs c ρ σ) v d → pg d ρ = some ρ' → ∀ Q : L2.St → Hp → Prop,
    (∀ σ', Rep c M ρ' σ' H → (∀ vs : List Nat, (∀ i ∈ is, i ∈ vs) → wipe σ' vs = wipe σ vs) → (∀ a, Bs c ρ' σ' a → Bs c ρ σ a) → (∀ a, Sa ρ' σ' a → Sa ρ σ a) → ((∀ i ∈ is, ¬ OwnW ρ[i]?) → (∀ a, Bs c ρ σ a → Bs c ρ' σ' a) ∧ ∀ a, Sa ρ σ a → Sa ρ' σ' a) → Q σ' H) → gt v σ H Q
section
variable {g : Gx} {W : XW} {mr : Md} {c : Cf} {N M M' L L' k k1 k2 k3 : Nat} {ρ ρ' : Env} {σ σ' : L2.St} {H H' : Hp} {md : Md} {v : V} {d : D} {ta tb te : TE} {tr : TA} {pr : PXs} {tt : TT} {ba : PXb} {pa pb pe : PX} {t u : TS} {p q : PS'} {κ : PK} {DD : Ends} {wi : TI} {pw : PXs} {gt : TG} {pg : PGt} {is : List Nat}
theorem RV.kt (h : RV c M ρ σ H .b v d) : Kt c.g.K H (Bs c ρ σ) v d := by
  rcases h with h | ⟨a, vs, ds, h1, h2, h3, _, h5⟩
  · exact .inl h
  · exact .inr ⟨a, vs, ds, h1, h2, h3, h5⟩
theorem kt_lst {K : PySem.W.Frag} {B : AS} {ds : List D} (h : Kt K H B v (.lst ds)) : ∃ a xs, v = .ref a ∧ SqL K H a xs ∧ RpA K H B xs ds := by
  rcases h with h | ⟨a, vs, es, rfl, e, h3, h4⟩
  · cases h with
    | lst h1 h2 => exact ⟨_, _, rfl, h1.sq, h2⟩
  · cases e
    exact ⟨a, vs, rfl, sq_of h3, h4⟩
/-! a list, a tuple, a range -/
def onL (d : D) (po : List D → Prop) : Prop := match d with
  | .lst ds => po ds
  | _ => False
def onT (d : D) (po : List D → Prop) : Prop := match d with
  | .tup ds => po ds
  | _ => False
def onI (d : D) (po : Int → Prop) : Prop := match d with
  | .int i => po i
  | _ => False
theorem onL_of {po : List D → Prop} (h : onL d po) : ∃ ds, d = .lst ds ∧ po ds := by
  unfold onL at h; split at h
  · exact ⟨_, rfl, h⟩
  · exact h.elim
theorem onT_of {po : List D → Prop} (h : onT d po) : ∃ ds, d = .tup ds ∧ po ds := by
  unfold onT at h; split at h
  · exact ⟨_, rfl, h⟩
  · exact h.elim
theorem onI_of {po : Int → Prop} (h : onI d po) : ∃ i, d = .int i ∧ po i := by
  unfold onI at h; split at h
  · exact ⟨_, rfl, h⟩
  · exact h.elim
theorem rp_int {K : PySem.W.Frag} {B : AS} {i : Int} (h : Rp K H B v (.int i)) : v = .int i := by cases h; rfl
theorem walk_list {K : PySem.W.Frag} {a : Addr} {ds : List D} : WalkOk K [(.ref a, .lst ds)] (Itl K a) ds where
  go := fun H B i h hi => by
    obtain ⟨b, xs, e, h1, h2⟩ := kt_lst (h _ (List.mem_cons_self ..))
    cases e
    obtain ⟨x, hx, _⟩ := pd_get' h2 (List.getElem?_eq_getElem hi)
    exact ⟨xs, x, h1, hx⟩
  stop := fun H B i h hi => by
    obtain ⟨b, xs, e, h1, h2⟩ := kt_lst (h _ (List.mem_cons_self ..))
    cases e
    exact ⟨xs, h1, by rw [pd_len h2]; exact hi⟩
  yld := fun H B i x H' h _ hi hy => by
    obtain ⟨b, xs, e, h1, h2⟩ := kt_lst (h _ (List.mem_cons_self ..))
    cases e
    obtain ⟨rfl, hy⟩ := hy
    obtain ⟨y, h3, h4⟩ := pd_get h2 (hy xs h1)
    exact ⟨y, h3, Ex.refl _, h4⟩
theorem kt_tup {K : PySem.W.Frag} {B : AS} {ds : List D} (h : Kt K H B v (.tup ds)) : ∃ a xs, v = .ref a ∧ SqT K H a xs ∧ RpA K H B xs ds := by
  rcases h with h | ⟨a, vs, es, rfl, e, h3, h4⟩
  · cases h with
    | tup h1 h2 => exact ⟨_, _, rfl, h1.sq, h2⟩
  · cases e
theorem walk_tup {K : PySem.W.Frag} {a : Addr} {ds : List D} : WalkOk K [(.ref a, .tup ds)] (Itt K a) ds where
  go := fun H B i h hi => by
    obtain ⟨b, xs, e, h1, h2⟩ := kt_tup (h _ (List.mem_cons_self ..))
    cases e
    obtain ⟨x, hx, _⟩ := pd_get' h2 (List.getElem?_eq_getElem hi)
    exact ⟨xs, x, h1, hx⟩
  stop := fun H B i h hi => by
    obtain ⟨b, xs, e, h1, h2⟩ := kt_tup (h _ (List.mem_cons_self ..))
    cases e
    exact ⟨xs, h1, by rw [pd_len h2]; exact hi⟩
  yld := fun H B i x H' h _ hi hy => by
    obtain ⟨b, xs, e, h1, h2⟩ := kt_tup (h _ (List.mem_cons_self ..))
    cases e
    obtain ⟨rfl, hy⟩ := hy
    obtain ⟨y, h3, h4⟩ := pd_get h2 (hy xs h1)
    exact ⟨y, h3, Ex.refl _, h4⟩
theorem RV.isLst {ds : List D} (hm : md = .e ∨ md = .b) (h : RV c M ρ σ H md v (.lst ds)) : ∃ a xs, v = .ref a ∧ SqL c.g.K H a xs ∧ RpA c.g.K H (Bs c ρ σ) xs ds := by
  rcases hm with z | z
  · subst z; exact kt_lst (.inl h)
  · subst z; exact kt_lst h.kt
theorem RV.isTup {ds : List D} (hm : md = .e ∨ md = .b) (h : RV c M ρ σ H md v (.tup ds)) : ∃ a xs, v = .ref a ∧ SqT c.g.K H a xs ∧ RpA c.g.K H (Bs c ρ σ) xs ds := by
  rcases hm with z | z
  · subst z; exact kt_tup (.inl h)
  · subst z; exact kt_tup h.kt
def pwL (pa : PX) : PXs := fun ρ po xx => pa ρ (fun d => onL d po) xx
def pwT (pa : PX) : PXs := fun ρ po xx => pa ρ (fun d => onT d po) xx
theorem sw_list (hm : md = .e ∨ md = .b) (ha : SX g W md k ta pa) : SW g W md k (iList g.K ta) (pwL pa) := fun c hc N σ H ρ r hk po xx hp hx R q =>
  ha c hc N σ H ρ r hk _ xx hp hx _ fun v H1 d M1 hM1 hd r1 e1 hv1 => by
    obtain ⟨ds, e0, h0⟩ := onL_of hd
    subst e0
    subst hc
    obtain ⟨a, xs, rfl, h1, h2⟩ := RV.isLst hm hv1
    exact ⟨a, rfl, ⟨xs, h1⟩, q _ [(.ref a, .lst ds)] H1 ds M1 hM1 h0 r1 e1 (fun p hp => by rw [List.mem_singleton.mp hp]; exact hv1) walk_list⟩
theorem sw_tup (hm : md = .e ∨ md = .b) (ha : SX g W md k ta pa) : SW g W md k (iTup g.K ta) (pwT pa) := fun c hc N σ H ρ r hk po xx hp hx R q =>
  ha c hc N σ H ρ r hk _ xx hp hx _ fun v H1 d M1 hM1 hd r1 e1 hv1 => by
    obtain ⟨ds, e0, h0⟩ := onT_of hd
    subst e0
    subst hc
    obtain ⟨a, xs, rfl, h1, h2⟩ := RV.isTup hm hv1
    exact ⟨a, rfl, ⟨xs, h1⟩, q _ [(.ref a, .tup ds)] H1 ds M1 hM1 h0 r1 e1 (fun p hp => by rw [List.mem_singleton.mp hp]; exact hv1) walk_tup⟩
def rngD (lo : Int) (n : Nat) : List D := (List.range n).map fun i : Nat => .int (lo + (i : Int))
theorem walk_rng {K : PySem.W.Frag} {lo : Int} {n : Nat} : WalkOk K [] (Itr lo n) (rngD lo n) where
  go := fun H B i h hi => by show i < n; simpa [rngD] using hi
  stop := fun H B i h hi => by show n ≤ i; simpa [rngD] using hi
  yld := fun H B i x H' h _ hi hy => by
    obtain ⟨rfl, rfl⟩ := hy
    have hi' : i < n := by simpa [rngD] using hi
    refine ⟨.int (lo + (i : Int)), ?_, Ex.refl _, .int _⟩
    unfold rngD
    rw [List.getElem?_map, List.getElem?_range hi']
    rfl
def pwR1 (pr : PXs) : PXs := fun ρ po xx => pr ρ (fun us => match us with
  | [.int n] => n ≤ 100000 ∧ -100000 ≤ n ∧ po (rngD 0 n.toNat)
  | _ => False) xx
def pwR2 (pr : PXs) : PXs := fun ρ po xx => pr ρ (fun us => match us with
  | [.int m, .int n] => (n ≤ 100000 ∧ -100000 ≤ n ∧ m ≤ 100000 ∧ -100000 ≤ m) ∧ po (rngD m (n - m).toNat)
  | _ => False) xx
theorem pd1 {α β : Type} {R : α → β → Prop} {xs : List α} {y : β} (h : Paired R xs [y]) : ∃ x, xs = [x] ∧ R x y := by
  cases h with
  | cons h r => cases r; exact ⟨_, rfl, h⟩
theorem pd2 {α β : Type} {R : α → β → Prop} {xs : List α} {y z : β} (h : Paired R xs [y, z]) : ∃ x w, xs = [x, w] ∧ R x y ∧ R w z := by
  cases h with
  | cons h r =>
    obtain ⟨w, rfl, hw⟩ := pd1 r
    exact ⟨_, w, rfl, h, hw⟩
theorem rv_int {i : Int} (h : RV c M ρ σ H md v (.int i)) : v = .int i := by
  cases md with
  | t => exact rp_int h
  | e => exact rp_int h
  | b =>
    rcases h with h | ⟨_, _, _, _, h, _⟩
    · exact rp_int h
    · cases h
  | f =>
    rcases h with h | ⟨_, _, _, _, h, _⟩
    · exact rp_int h.2
    · cases h
theorem sw_rng1 (ha : SA g W .t k tr pr) : SW g W md k (iRng1 tr) (pwR1 pr) := fun c hc N σ H ρ r hk po xx hp hx R q =>
  ha c hc N σ H ρ r hk _ xx hp hx _ fun vs H1 ds M1 hM1 hd r1 e1 hv1 => by
    match ds, hd, hv1 with
    | [.int n], hd, hv1 =>
      obtain ⟨x, rfl, hx1⟩ := pd1 hv1
      have := rv_int hx1
      subst this
      exact ⟨n, rfl, by omega, by omega, q _ [] H1 _ M1 hM1 hd.2.2 r1 e1 (fun p hp => by cases hp) walk_rng⟩
theorem sw_rng2 (ha : SA g W .t k tr pr) : SW g W md k (iRng2 tr) (pwR2 pr) := fun c hc N σ H ρ r hk po xx hp hx R q =>
  ha c hc N σ H ρ r hk _ xx hp hx _ fun vs H1 ds M1 hM1 hd r1 e1 hv1 => by
    match ds, hd, hv1 with
    | [.int m, .int n], hd, hv1 =>
      obtain ⟨x, y, rfl, hx1, hx2⟩ := pd2 hv1
      have := rv_int hx1
      subst this
      have := rv_int hx2
      subst this
      obtain ⟨h1, h2⟩ := hd
      exact ⟨m, n, rfl, by omega, q _ [] H1 _ M1 hM1 h2 r1 e1 (fun p hp => by cases hp) walk_rng⟩
/-! enumerate, zip -/
def enumD : Nat → List D → List D
  | _, [] => []
  | n, d :: ds => .tup [.int (n : Int), d] :: enumD (n + 1) ds
theorem enumD_len : ∀ (ds : List D) (n : Nat), (enumD n ds).length = ds.length
  | [], _ => rfl
  | d :: ds, n => by simp [enumD, enumD_len ds]
theorem enumD_get : ∀ (ds : List D) (n i : Nat) (d : D), ds[i]? = some d → (enumD n ds)[i]? = some (.tup [.int ((n + i : Nat) : Int), d])
  | [], _, i, _, h => by simp at h
  | d :: ds, n, 0, e, h => by simp at h; subst h; simp [enumD]
  | d :: ds, n, i + 1, e, h => by
    have := enumD_get ds (n + 1) i e (by simpa using h)
    simp only [enumD, List.getElem?_cons_succ]
    rw [this, show n + 1 + i = n + (i + 1) by omega]
theorem rp_tupNew {K : PySem.W.Frag} {B : AS} {T : Addr} {xs : List V} {ds : List D} (hB : ∀ a, B a → ∃ xs, H a = some (.lst xs)) (hT : H T = none) (h : RpA K H B xs ds) : Rp K (upd H T (.tup xs)) B (.ref T) (.tup ds) := by
  have nB : ¬ B T := fun z => by obtain ⟨ys, e⟩ := hB T z; rw [hT] at e; cases e
  refine .tup ⟨upd_same, nB⟩ (RpA.mono (fun a o e n => ⟨by rw [upd_ne (ne_of_none e hT)]; exact e, n⟩) _ _ h)
theorem walk_enum {K : PySem.W.Frag} {a : Addr} {ds : List D} : WalkOk K [(.ref a, .lst ds)] (Ite K a) (enumD 0 ds) where
  go := fun H B i h hi => by
    obtain ⟨b, xs, e, h1, h2⟩ := kt_lst (h _ (List.mem_cons_self ..))
    cases e
    rw [enumD_len] at hi
    obtain ⟨x, hx, _⟩ := pd_get' h2 (List.getElem?_eq_getElem hi)
    exact ⟨xs, x, h1, hx⟩
  stop := fun H B i h hi => by
    obtain ⟨b, xs, e, h1, h2⟩ := kt_lst (h _ (List.mem_cons_self ..))
    cases e
    rw [enumD_len] at hi
    exact ⟨xs, h1, by rw [pd_len h2]; exact hi⟩
  yld := fun H B i x H' h hB hi hy => by
    obtain ⟨b, xs, e, h1, h2⟩ := kt_lst (h _ (List.mem_cons_self ..))
    cases e
    obtain ⟨T, x, rfl, hT, rfl, hy⟩ := hy
    obtain ⟨y, h3, h4⟩ := pd_get h2 (hy xs h1)
    refine ⟨.tup [.int ((0 + i : Nat) : Int), y], enumD_get ds 0 i y h3, Ex.new hT, ?_⟩
    rw [Nat.zero_add]
    exact rp_tupNew hB hT (.cons (.int _) (.cons h4 .nil))
def pwEnum (pr : PXs) : PXs := fun ρ po xx => pr ρ (fun us => match us with
  | [.lst ds] => po (enumD 0 ds)
  | _ => False) xx
theorem sw_enum (hm : md = .e ∨ md = .b) (ha : SA g W md k tr pr) : SW g W md k (iEnum g.K tr) (pwEnum pr) := fun c hc N σ H ρ r hk po xx hp hx R q =>
  ha c hc N σ H ρ r hk _ xx hp hx _ fun vs H1 ds M1 hM1 hd r1 e1 hv1 => by
    match ds, hd, hv1 with
    | [.lst ds], hd, hv1 =>
      obtain ⟨x, rfl, hx1⟩ := pd1 hv1
      subst hc
      obtain ⟨a, xs, rfl, h1, h2⟩ := RV.isLst hm hx1
      exact ⟨a, xs, rfl, h1, q _ [(.ref a, .lst ds)] H1 _ M1 hM1 hd r1 e1 (fun p hp => by rw [List.mem_singleton.mp hp]; exact hx1) walk_enum⟩
def zipD : List D → List D → List D
  | d :: ds, e :: es => .tup [d, e] :: zipD ds es
  | _, _ => []
theorem zipD_len : ∀ (ds es : List D), (zipD ds es).length = min ds.length es.length
  | [], _ => by simp [zipD]
  | _ :: _, [] => by simp [zipD]
  | d :: ds, e :: es => by simp [zipD, zipD_len ds es]
theorem zipD_get : ∀ (ds es : List D) (i : Nat) (d e : D), ds[i]? = some d → es[i]? = some e → (zipD ds es)[i]? = some (.tup [d, e])
  | [], _, i, _, _, h, _ => by simp at h
  | _ :: _, [], i, _, _, _, h => by simp at h
  | d :: ds, e :: es, 0, _, _, h1, h2 => by simp at h1 h2; subst h1; subst h2; simp [zipD]
  | d :: ds, e :: es, i + 1, _, _, h1, h2 => by
    simp only [zipD, List.getElem?_cons_succ]
    exact zipD_get ds es i _ _ (by simpa using h1) (by simpa using h2)
theorem walk_zip {K : PySem.W.Frag} {a b : Addr} {ds es : List D} : WalkOk K [(.ref a, .lst ds), (.ref b, .lst es)] (Itz K a b) (zipD ds es) where
  go := fun H B i h hi => by
    obtain ⟨_, xs, e, h1, h2⟩ := kt_lst (h _ (List.mem_cons_self ..))
    cases e
    obtain ⟨_, ys, e, h3, h4⟩ := kt_lst (h _ (List.mem_cons_of_mem _ (List.mem_cons_self ..)))
    cases e
    rw [zipD_len] at hi
    obtain ⟨x, hx, _⟩ := pd_get' h2 (List.getElem?_eq_getElem (show i < ds.length by omega))
    obtain ⟨y, hy, _⟩ := pd_get' h4 (List.getElem?_eq_getElem (show i < es.length by omega))
    exact ⟨xs, ys, x, y, h1, h3, hx, hy⟩
  stop := fun H B i h hi => by
    obtain ⟨_, xs, e, h1, h2⟩ := kt_lst (h _ (List.mem_cons_self ..))
    cases e
    obtain ⟨_, ys, e, h3, h4⟩ := kt_lst (h _ (List.mem_cons_of_mem _ (List.mem_cons_self ..)))
    cases e
    rw [zipD_len] at hi
    refine ⟨xs, ys, h1, h3, ?_⟩
    rw [pd_len h2, pd_len h4]
    omega
  yld := fun H B i x H' h hB hi hy => by
    obtain ⟨_, xs, e, h1, h2⟩ := kt_lst (h _ (List.mem_cons_self ..))
    cases e
    obtain ⟨_, ys, e, h3, h4⟩ := kt_lst (h _ (List.mem_cons_of_mem _ (List.mem_cons_self ..)))
    cases e
    obtain ⟨T, x, y, rfl, hT, rfl, hx, hy⟩ := hy
    obtain ⟨d, h5, h6⟩ := pd_get h2 (hx xs h1)
    obtain ⟨e, h7, h8⟩ := pd_get h4 (hy ys h3)
    exact ⟨_, zipD_get ds es i d e h5 h7, Ex.new hT, rp_tupNew hB hT (.cons h6 (.cons h8 .nil))⟩
def pwZip (pr : PXs) : PXs := fun ρ po xx => pr ρ (fun us => match us with
  | [.lst ds, .lst es] => po (zipD ds es)
  | _ => False) xx
theorem sw_zip (hm : md = .e ∨ md = .b) (ha : SA g W md k tr pr) : SW g W md k (iZip g.K tr) (pwZip pr) := fun c hc N σ H ρ r hk po xx hp hx R q =>
  ha c hc N σ H ρ r hk _ xx hp hx _ fun vs H1 ds M1 hM1 hd r1 e1 hv1 => by
    match ds, hd, hv1 with
    | [.lst ds, .lst es], hd, hv1 =>
      obtain ⟨x, y, rfl, hx1, hx2⟩ := pd2 hv1
      subst hc
      obtain ⟨a, xs, rfl, h1, h2⟩ := RV.isLst hm hx1
      obtain ⟨b, ys, rfl, h3, h4⟩ := RV.isLst hm hx2
      exact ⟨a, b, xs, ys, rfl, h1, h3, q _ [(.ref a, .lst ds), (.ref b, .lst es)] H1 _ M1 hM1 hd r1 e1 (fun p hp => by
        rcases List.mem_cons.mp hp with e | hp
        · rw [e]; exact hx1
        · rw [List.mem_singleton.mp hp]; exact hx2) walk_zip⟩
/-! targets -/
def gvN (i : Nat) : PGt := fun d ρ => some (ρ.set i (some (.d d)))
theorem wipe_set {j : Nat} {x : Option V} : ∀ {vs : List Nat} {σ : L2.St}, j ∈ vs → wipe (σ.set j x) vs = wipe σ vs
  | v :: vs, σ, h => by
    unfold wipe
    by_cases e : j ∈ vs
    · rw [wipe_set e]
    · have : j = v := (List.mem_cons.mp h).resolve_right e
      subst this
      have out : ∀ {us : List Nat}, j ∉ us → wipe (σ.set j x) us = (wipe σ us).set j x := by
        intro us
        induction us with
        | nil => intro _; rfl
        | cons u us ih =>
          intro hu
          unfold wipe
          rw [ih fun z => hu (List.mem_cons_of_mem _ z)]
          exact List.set_comm _ _ fun z => hu (by rw [z]; exact List.mem_cons_self ..)
      rw [out e, List.set_set]
theorem sg_name {i : Nat} : SG g [i] (gName i) (gvN i) := fun c hc M ρ σ H v d ρ' r hv hp Q q => by
  cases hp
  refine q _ (r.setD hv) (fun vs hi => wipe_set (hi i (List.mem_cons_self ..))) (bs_of_own (own_set r.len fun z => z)) (sa_set r.len fun z => z) fun ho => ?_
  have no := ho i (List.mem_cons_self ..)
  have ne : ∀ j : Nat, OwnW ρ[j]? → i ≠ j := fun j h z => no (z ▸ h)
  constructor
  · rintro a (z | z | ⟨j, h1, h2⟩)
    · exact .inl z
    · exact .inr (.inl z)
    · exact .inr (.inr ⟨j, by rw [get_set, if_neg (ne j h1)]; exact h1, by rw [get_set, if_neg (ne j h1)]; exact h2⟩)
  · rintro a ⟨j, h1, h2⟩
    have := ne j (by rw [h1]; trivial)
    exact ⟨j, by rw [get_set, if_neg this]; exact h1, by rw [get_set, if_neg this]; exact h2⟩
/-- the items of a tuple, one target each -/
abbrev PGts := List D → Env → Option Env
def SGs (g : Gx) (is : List Nat) (gt : TGs) (pg : PGts) : Prop :=
  ∀ c, c.g = g → ∀ M ρ σ H vs ds ρ', Rep c M ρ σ H → RpA c.g.K H (Bs c ρ σ) vs ds → pg ds ρ = some ρ' → ∀ Q : L2.St → Hp → Prop,
    (∀ σ', Rep c M ρ' σ' H → (∀ vs : List Nat, (∀ i ∈ is, i ∈ vs) → wipe σ' vs = wipe σ vs) → (∀ a, Bs c ρ' σ' a → Bs c ρ σ a) → (∀ a, Sa ρ' σ' a → Sa ρ σ a) → ((∀ i ∈ is, ¬ OwnW ρ[i]?) → (∀ a, Bs c ρ σ a → Bs c ρ' σ' a) ∧ ∀ a, Sa ρ σ a → Sa ρ' σ' a) → Q σ' H) → gt vs σ H Q
def gvNil : PGts := fun ds ρ => match ds with
  | [] => some ρ
  | _ => none
theorem sgs_nil : SGs g [] gNil gvNil := fun c hc M ρ σ H vs ds ρ' r hv hp Q q => by
  cases hv with
  | nil => cases hp; exact ⟨rfl, q σ r (fun _ _ => rfl) (fun _ z => z) (fun _ z => z) fun _ => ⟨fun _ z => z, fun _ z => z⟩⟩
  | cons => cases hp
def gvCons (i : Nat) (ps : PGts) : PGts := fun ds ρ => match ds with
  | d :: ds => ps ds (ρ.set i (some (.d d)))
  | _ => none
theorem sgs_cons {i : Nat} {gs : TGs} {ps : PGts} (h : SGs g is gs ps) : SGs g (i :: is) (gCons (gName i) gs) (gvCons i ps) := fun c hc M ρ σ H vs ds ρ' r hv hp Q q => by
  cases hv with
  | nil => cases hp
  | cons h1 h2 =>
    rename_i v d vs ds
    refine ⟨v, vs, rfl, ?_⟩
    have own' : ∀ a, Own (ρ.set i (some (.d d))) (σ.set i (some v)) a → Own ρ σ a := own_set r.len fun z => z
    refine h c hc M _ _ H vs ds ρ' (r.setD h1) (RpA.less (bs_of_own own') h2) hp Q fun σ' r' hw hB hS hi => q σ' r' (fun us hu => ?_) (fun a z => bs_of_own own' a (hB a z)) (fun a z => sa_set (w := some (.d d)) (u := some v) r.len (fun z => z) a (hS a z)) fun ho => ?_
    · rw [hw us fun j hj => hu j (List.mem_cons_of_mem _ hj)]
      exact wipe_set (hu i (List.mem_cons_self ..))
    · have no := ho i (List.mem_cons_self ..)
      have ne : ∀ j : Nat, OwnW ρ[j]? → i ≠ j := fun j h z => no (z ▸ h)
      obtain ⟨g1, g2⟩ := hi fun j hj => by
        rw [get_set]
        by_cases e : i = j
        · rw [if_pos e]; split <;> exact fun z => z
        · rw [if_neg e]; exact ho j (List.mem_cons_of_mem _ hj)
      constructor
      · rintro a (z | z | ⟨j, h1, h2⟩)
        · exact g1 a (.inl z)
        · exact g1 a (.inr (.inl z))
        · exact g1 a (.inr (.inr ⟨j, by rw [get_set, if_neg (ne j h1)]; exact h1, by rw [get_set, if_neg (ne j h1)]; exact h2⟩))
      · rintro a ⟨j, h1, h2⟩
        have := ne j (by rw [h1]; trivial)
        exact g2 a ⟨j, by rw [get_set, if_neg this]; exact h1, by rw [get_set, if_neg this]; exact h2⟩
def gvT (n : Nat) (ps : PGts) : PGt := fun d ρ => match d with
  | .tup ds => if ds.length = n then ps ds ρ else none
  | _ => none
theorem sg_tup {n : Nat} {gs : TGs} {ps : PGts} (h : SGs g is gs ps) : SG g is (gTup g.K n gs) (gvT n ps) := fun c hc M ρ σ H v d ρ' r hv hp Q q => by
  cases hv with
  | tup h1 h2 =>
    rename_i a xs ds
    simp only [gvT] at hp
    by_cases e : ds.length = n
    · rw [if_pos e] at hp
      subst hc
      exact ⟨a, xs, rfl, h1.sq, by rw [pd_len h2]; exact e, h c rfl M ρ σ H xs ds ρ' r h2 hp Q q⟩
    · rw [if_neg e] at hp; cases hp
  | _ => cases hp
end
end PD

/-! comprehensions, loops -/
namespace PD
open PySem PySem.Spec PyProof.Rows L2 Evl SL
def wipeE (ρ : Env) : List Nat → Env
  | [] => ρ
  | v :: vs => (wipeE ρ vs).set v none
def ownB : Option (Option Wd) → Bool
  | some (some (.o _)) => true
  | some (some .s) => true
  | _ => false
def clr (ρ : Env) (vs : List Nat) : Bool := vs.all fun i => !ownB ρ[i]?
section
variable {g : Gx} {W : XW} {mr : Md} {c : Cf} {N M M' L L' k k1 k2 k3 : Nat} {ρ ρ' : Env} {σ σ' : L2.St} {H H' : Hp} {md : Md} {v : V} {d : D} {ta tb te : TE} {tr : TA} {pr : PXs} {tt : TT} {ba bt : PXb} {pa pb pe : PX} {t u : TS} {p q : PS'} {κ : PK} {DD : Ends} {wi : TI} {pw : PXs} {gt : TG} {pg : PGt} {is : List Nat}
theorem ownB_of {x : Option (Option Wd)} (h : ownB x = false) : ¬ OwnW x := by
  intro z
  rcases own_cases z with ⟨xs, e⟩ | e
  · rw [e] at h; cases h
  · rw [e] at h; cases h
theorem Rep.wipe (r : Rep c N ρ σ H) : ∀ vs : List Nat, Rep c N (wipeE ρ vs) (L2.wipe σ vs) H
  | [] => r
  | v :: vs => (r.wipe vs).setN
theorem wipeE_get {i : Nat} : ∀ {vs : List Nat}, i ∉ vs → (wipeE ρ vs)[i]? = ρ[i]?
  | [], _ => rfl
  | v :: vs, h => by
    unfold wipeE
    rw [get_set, if_neg fun z => h (by rw [← z]; exact List.mem_cons_self ..)]
    exact wipeE_get fun z => h (List.mem_cons_of_mem _ z)
theorem wipe_get {i : Nat} : ∀ {vs : List Nat}, i ∉ vs → (L2.wipe σ vs)[i]? = σ[i]?
  | [], _ => rfl
  | v :: vs, h => by
    unfold L2.wipe
    rw [get_set, if_neg fun z => h (by rw [← z]; exact List.mem_cons_self ..)]
    exact wipe_get fun z => h (List.mem_cons_of_mem _ z)
theorem wipeE_none {i : Nat} : ∀ {vs : List Nat}, i ∈ vs → ¬ OwnW (wipeE ρ vs)[i]?
  | v :: vs, h => by
    unfold wipeE
    rw [get_set]
    by_cases e : v = i
    · rw [if_pos e]; split <;> exact fun z => z
    · rw [if_neg e]; exact wipeE_none ((List.mem_cons.mp h).resolve_left fun z => e z.symm)
theorem own_wipe {vs : List Nat} (hc : clr ρ vs = true) (a : Addr) : Own (wipeE ρ vs) (L2.wipe σ vs) a ↔ Own ρ σ a := by
  have out : ∀ i : Nat, OwnW ρ[i]? → i ∉ vs := fun i h z => by
    have := List.all_eq_true.mp hc i z
    exact ownB_of (by simpa using this) h
  constructor
  · rintro ⟨i, h1, h2⟩
    have : i ∉ vs := fun z => wipeE_none z h1
    rw [wipeE_get this] at h1
    rw [wipe_get this] at h2
    exact ⟨i, h1, h2⟩
  · rintro ⟨i, h1, h2⟩
    exact ⟨i, by rw [wipeE_get (out i h1)]; exact h1, by rw [wipe_get (out i h1)]; exact h2⟩
theorem sa_wipe {vs : List Nat} (hc : clr ρ vs = true) (a : Addr) : Sa (wipeE ρ vs) (L2.wipe σ vs) a ↔ Sa ρ σ a := by
  have out : ∀ i : Nat, OwnW ρ[i]? → i ∉ vs := fun i h z => by
    have := List.all_eq_true.mp hc i z
    exact ownB_of (by simpa using this) h
  constructor
  · rintro ⟨i, h1, h2⟩
    have : i ∉ vs := fun z => wipeE_none z (by rw [h1]; trivial)
    rw [wipeE_get this] at h1
    rw [wipe_get this] at h2
    exact ⟨i, h1, h2⟩
  · rintro ⟨i, h1, h2⟩
    have := out i (by rw [h1]; trivial)
    exact ⟨i, by rw [wipeE_get this]; exact h1, by rw [wipe_get this]; exact h2⟩
theorem bs_wipe {vs : List Nat} (hc : clr ρ vs = true) (a : Addr) : Bs c (wipeE ρ vs) (L2.wipe σ vs) a ↔ Bs c ρ σ a := by
  unfold Bs
  rw [own_wipe hc]
theorem wipe_wipe {vs : List Nat} : ∀ us : List Nat, (∀ i ∈ us, i ∈ vs) → L2.wipe (L2.wipe σ us) vs = L2.wipe σ vs
  | [], _ => rfl
  | u :: us, h => by
    show L2.wipe ((L2.wipe σ us).set u none) vs = _
    rw [wipe_set (h u (List.mem_cons_self ..))]
    exact wipe_wipe us fun i hi => h i (List.mem_cons_of_mem _ hi)
/-- one turn of a comprehension: the item stored, the test, the element; Nx what is to hold of the list then -/
def pLcTurn (pg : PGt) (bt : PXb) (pe : PX) (ρ : Env) (d : D) (acc : List D) (Nx : List D → Prop) : Prop := match pg d ρ with
  | some ρ' => bt ρ' (fun b => if b = true then pe ρ' (fun y => Nx (acc ++ [y])) (fun _ => False) else Nx acc) (fun _ => False)
  | none => False
structure LcAll (pw : PXs) (pg : PGt) (bt : PXb) (pe : PX) (vs : List Nat) (ρ : Env) (po : D → Prop) (xx : Exn → Prop) : Prop where
  out : clr ρ vs = true ∧ pw ρ (fun ds => ds.length ≤ 90000 ∧ ∃ I : Nat → List D → Prop, I 0 [] ∧
  (∀ i d acc, ds[i]? = some d → acc.length ≤ i → I i acc → pLcTurn pg bt pe (wipeE ρ vs) d acc (I (i + 1))) ∧ ∀ acc, I ds.length acc → po (.lst acc)) xx
def pLc (pw : PXs) (pg : PGt) (bt : PXb) (pe : PX) (vs : List Nat) : PX := LcAll pw pg bt pe vs
theorem xf_no {xx : Exn → Prop} (h : ∀ e, ¬ xx e) : Xf W c N k ρ σ xx := fun e cls dd H' M _ hx => (h e hx).elim
theorem kt_addF {p : Addr} (hp : H p = none) (hv : Ext (Sa ρ σ) H H') (h : RV c M ρ σ H .b v d) : Kt c.g.K H' (Bs (c.addF p) ρ σ) v d := by
  have gg : ∀ a o, H a = some o → ¬ Bs c ρ σ a → H' a = some o ∧ ¬ Bs (c.addF p) ρ σ a := fun a o e n => ⟨hv a o e fun z => n (sa_bs z), fun z => by
    rcases bs_addF_cases z with z | z
    · exact ne_of_none e hp z
    · exact n z⟩
  rcases h with h | ⟨a, vs, ds, h1, h2, h3, h4, h5⟩
  · exact .inl (Rp.mono gg _ _ h)
  · exact .inr ⟨a, vs, ds, h1, h2, hv a _ h3 h4.1, RpA.mono gg _ _ h5⟩
/-- the place a list comprehension stands at -/
structure LcAt (c : Cf) (ρ : Env) (σ : L2.St) (k : Nat) (Dl : Addr) (M1 : Nat) (H1 : Hp) (i : Nat) (acc : List D) (H' : Hp) : Prop where
  ex : ∃ vs M', M' ≤ M1 + i * k ∧ H' Dl = some (.lst vs) ∧ RpA c.g.K H' (Bs (c.addF Dl) ρ σ) vs acc ∧ Rep (c.addF Dl) M' ρ σ H'
  len : acc.length ≤ i
  ext : Ext (Sa ρ σ) H1 H'
theorem sx_lc {vs : List Nat} (hw : SW g W .b k1 wi pw) (hg : SG g is gt pg) (his : ∀ i ∈ is, i ∈ vs) (ht : SB g W k2 tt bt) (he : SX g W .e k3 te pe) : SX g W .f (k1 + 90000 * (k2 + k3)) (tLc wi gt tt te vs) (pLc pw pg bt pe vs) := fun c hc N σ H ρ r hk po xx hp hx Q q => by
  obtain ⟨⟨hcl, hp⟩⟩ := hp
  refine hw c hc N σ H ρ r (by omega) _ xx hp (hx.sub (by omega)) _ fun J kv H1 ds M1 hM1 ⟨hlen, I, hI0, hIs, hId⟩ r1 e1 hkv hJ => ?_
  intro Dl hD
  have h0 := r1.freshH0 hD
  have nF : ¬ c.F Dl := fun z => r1.bs_ne (.inl z) hD rfl
  refine ⟨fun i m H' => m = ds.length - i ∧ i ≤ ds.length ∧ ∃ acc, LcAt c ρ σ (k2 + k3) Dl M1 H1 i acc H' ∧ I i acc, ⟨_, rfl, Nat.zero_le _, [], ⟨⟨[], M1, by omega, upd_same, .nil, r1.addNew hD⟩, Nat.le_refl _, .of (Ex.new hD)⟩, hI0⟩, ?_⟩
  rintro i m H' ⟨rfl, hi, acc, ⟨⟨us, M', hM', hDl, hus, r'⟩, hacc, hext⟩, hgo⟩
  have hBl : ∀ a, Bs (c.addF Dl) ρ σ a → ∃ xs, H' a = some (.lst xs) := fun a z => r'.bsAt z
  have hkt : ∀ p ∈ kv, Kt g.K H' (Bs (c.addF Dl) ρ σ) p.1 p.2 := fun p hp => by subst hc; exact kt_addF hD hext (hkv p hp)
  by_cases hlt : i < ds.length
  case neg =>
    left
    refine ⟨hJ.stop H' _ i hkt (by omega), ?_⟩
    have hieq : i = ds.length := by omega
    rw [hieq] at hgo
    have hkk : i * (k2 + k3) ≤ 90000 * (k2 + k3) := Nat.mul_le_mul_right _ (by omega)
    exact q _ H' _ M' (by omega) (hId acc hgo) r'.dropF (e1.trans hext) (.inr ⟨Dl, us, acc, rfl, rfl, hDl, h0, nF, hus, r'⟩)
  right
  refine ⟨hJ.go H' _ i hkt hlt, fun H2 => ∃ acc, LcAt c ρ σ (k2 + k3) Dl M1 H1 (i + 1) acc H2 ∧ I (i + 1) acc, fun H2 ⟨acc, h1, h2⟩ => ⟨ds.length - (i + 1), by omega, rfl, by omega, acc, h1, h2⟩, fun x H2 hy => ?_⟩
  obtain ⟨d, hd, e2, hx2⟩ := hJ.yld H' _ i x H2 hkt hBl hlt hy
  have hgo := hIs i d acc hd hacc hgo
  unfold pLcTurn at hgo
  split at hgo
  case h_2 => exact hgo.elim
  rename_i ρ' hρ'
  have r2 := r'.ex e2
  have bw : ∀ a, Bs (c.addF Dl) (wipeE ρ vs) (L2.wipe σ vs) a ↔ Bs (c.addF Dl) ρ σ a := bs_wipe hcl
  refine hg (c.addF Dl) hc M' (wipeE ρ vs) (L2.wipe σ vs) H2 x d ρ' (r2.wipe vs) (by subst hc; exact hx2.less fun a z => (bw a).mp z) hρ' _ fun σ2 r3 hwi hB1 hS1 hown => ?_
  obtain ⟨hB2, hS2⟩ := hown fun j hj => wipeE_none (his j hj)
  refine ⟨by rw [hwi vs his, wipe_wipe vs fun _ z => z], ?_⟩
  have hkk : (i + 1) * (k2 + k3) ≤ 90000 * (k2 + k3) := Nat.mul_le_mul_right _ (by omega)
  rw [Nat.succ_mul] at hkk
  have nSa : ¬ Sa ρ' σ2 Dl := fun z => (r'.fr Dl (.inr rfl)).1 (sa_own ((sa_wipe hcl Dl).mp (hS1 Dl z)))
  have sub : ∀ a, Sa ρ' σ2 a → Sa ρ σ a := fun a z => (sa_wipe hcl a).mp (hS1 a z)
  have extSub : ∀ {G G' : Hp}, Ext (Sa ρ' σ2) G G' → Ext (Sa ρ σ) G G' := fun e a o h n => e a o h fun z => n (sub a z)
  have srcs : ∀ {G : Hp} {m : Nat}, Rep (c.addF Dl) m ρ' σ2 G → ∀ a, Sa ρ σ a → SrcAt (c.addF Dl) a m G := fun r a z => r.srcs a (hS2 a ((sa_wipe hcl a).mpr z))
  refine ht (c.addF Dl) hc M' σ2 H2 ρ' r3 (by omega) _ _ hgo (xf_no fun _ z => z) _ fun b H3 M3 hM3 hb r4 e4 => ?_
  have e24 : Ext (Sa ρ σ) H' H3 := Ext.trans (.of e2) (extSub e4)
  cases b with
  | true =>
    rw [if_pos rfl] at hb ⊢
    refine he (c.addF Dl) hc M3 σ2 H3 ρ' r4 (by omega) _ _ hb (xf_no fun _ z => z) _ fun y H4 z M4 hM4 hz r5 e5 hvy => ?_
    have e25 : Ext (Sa ρ σ) H' H4 := e24.trans (extSub e5)
    have hD4 : H4 Dl = some (.lst us) := e25 Dl _ hDl fun z => nSa (hS2 Dl ((sa_wipe hcl Dl).mpr z))
    have r6 : Rep (c.addF Dl) (max M' M4) ρ σ H4 := r'.step e25 (fun a z => (srcs r5 a z).mono (Nat.le_max_right ..)) (Nat.le_max_left ..)
    have hvy' : Rp c.g.K H4 (Bs (c.addF Dl) ρ σ) y z := Rp.less (fun a z => hB2 a ((bw a).mpr z)) hvy
    have up : ∀ a o, H4 a = some o → ¬ Bs (c.addF Dl) ρ σ a → upd H4 Dl (.lst (us ++ [y])) a = some o ∧ ¬ Bs (c.addF Dl) ρ σ a := fun a o e n => ⟨by rw [upd_ne fun z => n (.inl (.inr z))]; exact e, n⟩
    refine ⟨us, hD4, sz_lt (by rw [pd_len hus]; omega), acc ++ [z], ⟨⟨us ++ [y], max M' M4, ?_, upd_same, pd_app (RpA.mono up _ _ (rpA_ext e25 (fun _ z => sa_bs z) hus)) (.cons (Rp.mono up _ _ hvy') .nil), r6.updF (.inr rfl) h0⟩, by simp; omega, ?_⟩, hz⟩
    · rw [Nat.succ_mul]; omega
    · intro a o ho hn
      have np : a ≠ Dl := ne_of_none ho hD
      rw [upd_ne np]
      exact e25 a o (hext a o ho hn) hn
  | false =>
    rw [if_neg (by decide)] at hb ⊢
    have r6 : Rep (c.addF Dl) (max M' M3) ρ σ H3 := r'.step e24 (fun a z => (srcs r4 a z).mono (Nat.le_max_right ..)) (Nat.le_max_left ..)
    refine ⟨acc, ⟨⟨us, max M' M3, ?_, e24 Dl _ hDl fun z => nSa (hS2 Dl ((sa_wipe hcl Dl).mpr z)), rpA_ext e24 (fun _ z => sa_bs z) hus, r6⟩, by omega, hext.trans e24⟩, hb⟩
    rw [Nat.succ_mul]; omega
/-! for, while -/
def Cf.addKs (c : Cf) (kv : List (V × D)) : Cf := { c with kd := kv ++ c.kd }
theorem Rep.addKs {kv : List (V × D)} (r : Rep c N ρ σ H) (h : ∀ p ∈ kv, Rp c.g.K H (Bs c ρ σ) p.1 p.2) : Rep (c.addKs kv) N ρ σ H :=
  ⟨r.len, r.d, r.o, r.s, r.dis, r.ext, r.p0, r.fr, fun p hp => by
    rcases List.mem_append.mp hp with e | e
    · exact h p e
    · exact r.kd p e⟩
theorem Rep.dropKs {kv : List (V × D)} (r : Rep (c.addKs kv) N ρ σ H) : Rep c N ρ σ H := ⟨r.len, r.d, r.o, r.s, r.dis, r.ext, r.p0, r.fr, fun p hp => r.kd p (List.mem_append_right _ hp)⟩
theorem Rep.kept {kv : List (V × D)} (r : Rep (c.addKs kv) N ρ σ H) : ∀ p ∈ kv, Rp c.g.K H (Bs c ρ σ) p.1 p.2 := fun p hp => r.kd p (List.mem_append_left _ hp)
def kForTurn (pg : PGt) (p : PS') (κ : PK) (ρ : Env) (d : D) (Nx : Env → Prop) : Prop := match pg d ρ with
  | some ρ' => p { κ with nx := Nx, ct := Nx, bk := κ.nx } ρ'
  | none => False
structure ForAll (pw : PXs) (pg : PGt) (p : PS') (κ : PK) (ρ : Env) : Prop where
  out : pw ρ (fun ds => ds.length ≤ 100000 ∧ ∃ I : Nat → Env → Prop, I 0 ρ ∧ (∀ i d ρ, ds[i]? = some d → I i ρ → kForTurn pg p κ ρ d (I (i + 1))) ∧ ∀ ρ, I ds.length ρ → κ.nx ρ) (κ.xx ρ)
def kFor (pw : PXs) (pg : PGt) (p : PS') : PS' := ForAll pw pg p
theorem ss_for (hw : SW g W .e k1 wi pw) (hg : SG g is gt pg) (hb : SS g W mr k2 t p) : SS g W mr (k1 + 100000 * k2) (tFor wi gt t) (kFor pw pg p) := fun c hc N σ H ρ r hk κ hp D hD => by
  obtain ⟨hp⟩ := hp
  refine hw c hc N σ H ρ r (by omega) _ _ hp (hD.xf (by omega)) _ fun J kv H1 ds M1 hM1 ⟨hlen, I, hI0, hIs, hId⟩ r1 e1 hkv hJ => ?_
  refine ⟨fun i m σ' H' => m = ds.length - i ∧ i ≤ ds.length ∧ ∃ ρ' M', M' ≤ M1 + i * k2 ∧ Rep (c.addKs kv) M' ρ' σ' H' ∧ I i ρ', ⟨_, rfl, Nat.zero_le _, ρ, M1, by omega, r1.addKs hkv, hI0⟩, ?_⟩
  rintro i m σ' H' ⟨rfl, hi, ρ', M', hM', r', hgo⟩
  have hkt : ∀ p ∈ kv, Kt g.K H' (Bs c ρ' σ') p.1 p.2 := fun p hp => by subst hc; exact .inl (r'.kept p hp)
  have hkk : i * k2 ≤ 100000 * k2 := Nat.mul_le_mul_right _ (by omega)
  by_cases hlt : i < ds.length
  case neg =>
    left
    refine ⟨hJ.stop H' _ i hkt (by omega), ?_⟩
    have hieq : i = ds.length := by omega
    rw [hieq] at hgo
    exact hD.nx _ _ _ M' (by omega) (hId _ hgo) r'.dropKs
  right
  have hkk' : (i + 1) * k2 ≤ 100000 * k2 := Nat.mul_le_mul_right _ (by omega)
  rw [Nat.succ_mul] at hkk'
  refine ⟨hJ.go H' _ i hkt hlt, fun σ2 H2 => ∃ ρ' M', M' ≤ M1 + (i + 1) * k2 ∧ Rep (c.addKs kv) M' ρ' σ2 H2 ∧ I (i + 1) ρ', fun σ2 H2 ⟨ρ2, M2, h1, h2, h3⟩ => ⟨ds.length - (i + 1), by omega, rfl, by omega, ρ2, M2, h1, h2, h3⟩, fun x H2 hy => ?_⟩
  obtain ⟨d, hd, e2, hx2⟩ := hJ.yld H' _ i x H2 hkt (fun a z => r'.bsAt z) hlt hy
  have hgo := hIs i d ρ' hd hgo
  unfold kForTurn at hgo
  split at hgo
  case h_2 => exact hgo.elim
  rename_i ρ2 hρ2
  refine hg (c.addKs kv) hc M' ρ' σ' H2 x d ρ2 (r'.ex e2) (by subst hc; exact hx2) hρ2 _ fun σ2 r3 _ _ _ _ => ?_
  refine hb (c.addKs kv) hc M' σ2 H2 ρ2 r3 (by omega) _ hgo _ ⟨?_, ?_, ?_, ?_, ?_⟩
  · intro ρ4 σ4 H4 M4 hM4 hn r4
    exact ⟨ρ4, M4, by rw [Nat.succ_mul]; omega, r4, hn⟩
  · intro ρ4 σ4 H4 M4 hM4 hn r4
    exact hD.nx _ _ _ M4 (by omega) hn r4.dropKs
  · intro ρ4 σ4 H4 M4 hM4 hn r4
    exact ⟨ρ4, M4, by rw [Nat.succ_mul]; omega, r4, hn⟩
  · intro v H4 d M4 hM4 hn ro
    exact hD.rt v H4 d M4 (by omega) hn ro
  · intro ρ4 σ4 H4 M4 e cls dd hM4 hn hr r4
    exact hD.xx _ _ _ M4 e cls dd (by omega) hn hr r4.dropKs
structure WhileAll (bt : PXb) (p : PS') (κ : PK) (ρ : Env) : Prop where
  out : ∃ Wp : Nat → Env → Prop, (∃ m, Wp m ρ) ∧ ∀ m ρ, Wp m ρ → bt ρ (fun b => if b = true then p { κ with nx := fun ρ' => ∃ m', m' < m ∧ Wp m' ρ', ct := fun ρ' => ∃ m', m' < m ∧ Wp m' ρ', bk := κ.nx } ρ else κ.nx ρ) (κ.xx ρ)
def kWhile (bt : PXb) (p : PS') : PS' := WhileAll bt p
theorem ss_while (ht : SB g W 0 tt bt) (hb : SS g W mr 0 t p) : SS g W mr 0 (tWhile tt t) (kWhile bt p) := fun c hc N σ H ρ r hk κ hp D hD => by
  obtain ⟨Wp, ⟨m0, hm0⟩, hW⟩ := hp.out
  refine ⟨fun m σ' H' => ∃ ρ' M', M' ≤ N ∧ Rep c M' ρ' σ' H' ∧ Wp m ρ', ⟨m0, ρ, N, Nat.le_refl _, r, hm0⟩, ?_⟩
  rintro m σ' H' ⟨ρ', M', hM', r', hw⟩
  refine ht c hc M' σ' H' ρ' r' (by omega) _ _ (hW m ρ' hw) (hD.xf (by omega)) _ fun b H1 M1 hM1 hb' r1 e1 => ?_
  cases b with
  | true =>
    rw [if_pos rfl] at hb' ⊢
    refine ⟨fun σ2 H2 => ∃ m', m' < m ∧ ∃ ρ' M', M' ≤ N ∧ Rep c M' ρ' σ2 H2 ∧ Wp m' ρ', fun σ2 H2 ⟨m', h1, h2⟩ => ⟨m', h1, h2⟩, ?_⟩
    refine hb c hc M1 σ' H1 ρ' r1 (by omega) _ hb' _ ⟨?_, ?_, ?_, ?_, ?_⟩
    · rintro ρ4 σ4 H4 M4 hM4 ⟨m', h1, h2⟩ r4
      exact ⟨m', h1, ρ4, M4, by omega, r4, h2⟩
    · intro ρ4 σ4 H4 M4 hM4 hn r4
      exact hD.nx _ _ _ M4 (by omega) hn r4
    · rintro ρ4 σ4 H4 M4 hM4 ⟨m', h1, h2⟩ r4
      exact ⟨m', h1, ρ4, M4, by omega, r4, h2⟩
    · intro v H4 d M4 hM4 hn ro
      exact hD.rt v H4 d M4 (by omega) hn ro
    · intro ρ4 σ4 H4 M4 e cls dd hM4 hn hr r4
      exact hD.xx _ _ _ M4 e cls dd (by omega) hn hr r4
  | false =>
    rw [if_neg (by decide)] at hb' ⊢
    exact hD.nx _ _ _ M1 (by omega) hb' r1
end
end PD

/-! defs, calls -/
namespace PD
open PySem PySem.Spec PyProof.Rows L2 Evl SL
def fin (Q : VK) : Ends := { nx := fun _ H' => Q .non H', rt := Q }
def cfD (g : Gx) (F P0 : AS) (H : Hp) : Cf := ⟨g, F, P0, H, []⟩
abbrev GD := List D → (D → Prop) → (Exn → Prop) → Prop
def spD (g : Gx) (n : Nat) (hasS : Bool) (mr : Md) (k : Nat) (G : GD) : Sp := fun vs H Q E => ∃ (S : Option Addr) (us : List V) (ds : List D) (F : AS) (N : Nat) (po : D → Prop) (xx : Exn → Prop),
  vs = (S.map V.ref).toList ++ us ∧ S.isSome = hasS ∧ ds.length = n ∧ RpA g.K H (fun a => F a ∨ S = some a) us ds ∧
  (∀ a, F a → S ≠ some a ∧ ∃ xs, H a = some (.lst xs)) ∧ (∀ a, S = some a → ∃ vs, H a = some (.lst vs) ∧ g.Wf N vs) ∧ N + k ≤ NM ∧ G ds po xx ∧
  (∀ v H' d M, M ≤ N + k → po d → RO (cfD g F (fun a => S = some a) H) M mr v H' d → Q v H') ∧
  (∀ e cls dd H' M, M ≤ N + k → xx e → XR g.K H' e cls dd → (∀ a o, H a = some o → S ≠ some a → H' a = some o) → (∀ a, S = some a → ∃ vs, H' a = some (.lst vs) ∧ g.Wf M vs) → E cls dd H')
def envD (ds : List D) (m : Nat) : Env := (ds.map fun d => some (.d d)) ++ List.replicate m none
def env0 (hasS : Bool) (ds : List D) (m : Nat) : Env := if hasS then some .s :: envD ds m else envD ds m
def topK (po : D → Prop) (xx : Exn → Prop) : PK := { nx := fun _ => po .non, rt := po, bk := fun _ => False, ct := fun _ => False, xx := fun _ => xx }
def Gof (p : PS') (hasS : Bool) (m : Nat) : GD := fun ds po xx => p (topK po xx) (env0 hasS ds m)
theorem spD_len {g : Gx} {n : Nat} {hasS : Bool} {mr : Md} {k : Nat} {G : GD} {vs : List V} {H : Hp} {Q : VK} {E : XK} (h : spD g n hasS mr k G vs H Q E) : vs.length = n + (if hasS then 1 else 0) := by
  obtain ⟨S, us, ds, F, N, po, xx, rfl, hS, hl, hu, _⟩ := h
  rw [List.length_append, pd_len hu, hl]
  cases S with
  | none => subst hS; simp
  | some a => subst hS; simp; omega
section
variable {g : Gx} {W : XW} {mr : Md} {c : Cf} {N M M' L L' k k1 k2 k3 n m : Nat} {ρ ρ' : Env} {σ σ' : L2.St} {H H' : Hp} {md : Md} {v : V} {d : D} {ta tb te : TE} {tr : TA} {pr : PXs} {p : PS'} {t : TS} {hasS : Bool} {G : GD} {vs us : List V} {ds : List D} {Q : VK} {E : XK} {Nx : List Str}
theorem envD_get {i : Nat} {w : Wd} (h : (envD ds m)[i]? = some (some w)) : ∃ x, w = .d x ∧ ds[i]? = some x := by
  unfold envD at h
  by_cases hi : i < ds.length
  · rw [List.getElem?_append_left (by simpa using hi), List.getElem?_map] at h
    rw [List.getElem?_eq_getElem hi] at h ⊢
    injection h with h
    injection h with h
    exact ⟨_, h.symm, rfl⟩
  · rw [List.getElem?_append_right (by simpa using hi), List.getElem?_replicate] at h
    split at h <;> cases h
theorem envD_len : (envD ds m).length = ds.length + m := by simp [envD]
theorem rep_start {F : AS} {S : Option Addr} (hu : RpA g.K H (fun a => F a ∨ S = some a) us ds) (hF : ∀ a, F a → S ≠ some a ∧ ∃ xs, H a = some (.lst xs)) (hS : ∀ a, S = some a → ∃ vs, H a = some (.lst vs) ∧ g.Wf N vs) (hN : Nx.length = ds.length + (if S.isSome then 1 else 0) + m) :
    Rep (cfD g F (fun a => S = some a) H) N (env0 S.isSome ds m) (start Nx ((S.map V.ref).toList ++ us)) H := by
  have hul := pd_len hu
  have ug : ∀ {i : Nat} {x : D}, ds[i]? = some x → ∃ v, us[i]? = some v ∧ Rp g.K H (fun a => F a ∨ S = some a) v x := fun h => pd_get' hu h
  cases S with
  | none =>
    have hO : ∀ a, ¬ Own (env0 false ds m) (start Nx us) a := by
      rintro a ⟨i, h1, _⟩
      rcases own_cases h1 with ⟨xs, e⟩ | e
      · obtain ⟨x, z, _⟩ := envD_get e; cases z
      · obtain ⟨x, z, _⟩ := envD_get e; cases z
    have hB : ∀ a, Bs (cfD g F (fun a => (none : Option Addr) = some a) H) (env0 false ds m) (start Nx us) a → F a ∨ (none : Option Addr) = some a := by
      rintro a (z | z | z)
      · exact .inl z
      · exact .inr z
      · exact absurd z (hO a)
    refine ⟨?_, ?_, ?_, ?_, ?_, fun a o h _ => h, fun a h => (by cases h), fun a h => ⟨hO a, fun z => (by cases z), (hF a h).2⟩, fun p hp => (by cases hp)⟩
    · show (envD ds m).length = (start Nx us).length
      rw [envD_len]
      unfold L2.start
      simp
      simp at hN
      omega
    · intro i x h
      obtain ⟨y, e, hy⟩ := envD_get h
      cases e
      obtain ⟨v, h1, h2⟩ := ug hy
      refine ⟨v, ?_, h2.less hB⟩
      show (start Nx us)[i]? = _
      unfold L2.start
      rw [List.getElem?_append_left (by have := (List.getElem?_eq_some_iff.mp h1).1; simpa using this), List.getElem?_map, h1]
      rfl
    · intro i x h; obtain ⟨y, e, hy⟩ := envD_get h; cases e
    · intro i h; obtain ⟨y, e, hy⟩ := envD_get h; cases e
    · intro i j a h1 _ _ _
      rcases own_cases h1 with ⟨xs, e⟩ | e
      · obtain ⟨x, z, _⟩ := envD_get e; cases z
      · obtain ⟨x, z, _⟩ := envD_get e; cases z
  | some s =>
    have own0 : ∀ {i : Nat}, OwnW (env0 true ds m)[i]? → i = 0 := fun {i} h => by
      cases i with
      | zero => rfl
      | succ i =>
        rcases own_cases h with ⟨xs, e⟩ | e
        · obtain ⟨x, z, _⟩ := envD_get (m := m) (ds := ds) (i := i) e; cases z
        · obtain ⟨x, z, _⟩ := envD_get (m := m) (ds := ds) (i := i) e; cases z
    have s0 : (start Nx (.ref s :: us))[0]? = some (some (.ref s)) := rfl
    have hO : ∀ a, Own (env0 true ds m) (start Nx (.ref s :: us)) a → a = s := by
      rintro a ⟨i, h1, h2⟩
      have := own0 h1
      subst this
      rw [s0] at h2; cases h2; rfl
    have hB : ∀ a, Bs (cfD g F (fun a => some s = some a) H) (env0 true ds m) (start Nx (.ref s :: us)) a → F a ∨ some s = some a := by
      rintro a (z | z | z)
      · exact .inl z
      · exact .inr z
      · rw [hO a z]; exact .inr rfl
    refine ⟨?_, ?_, ?_, ?_, ?_, fun a o h _ => h, fun a h => ⟨(hS a h).elim fun vs hv => ⟨_, hv.1⟩, hS a h⟩, fun a h => ⟨fun z => (hF a h).1 (by rw [hO a z]), fun z => (hF a h).1 z, (hF a h).2⟩, fun p hp => (by cases hp)⟩
    · show (some .s :: envD ds m).length = (start Nx (.ref s :: us)).length
      rw [List.length_cons, envD_len]
      unfold L2.start
      simp
      simp at hN
      omega
    · intro i x h
      cases i with
      | zero => cases h
      | succ i =>
        obtain ⟨y, e, hy⟩ := envD_get (m := m) (ds := ds) (i := i) h
        cases e
        obtain ⟨v, h1, h2⟩ := ug hy
        refine ⟨v, ?_, h2.less hB⟩
        show (start Nx (.ref s :: us))[i + 1]? = _
        unfold L2.start
        rw [List.getElem?_append_left (by have := (List.getElem?_eq_some_iff.mp h1).1; simpa using this), List.getElem?_map, List.getElem?_cons_succ, h1]
        rfl
    · intro i x h
      cases i with
      | zero => cases h
      | succ i => obtain ⟨y, e, hy⟩ := envD_get (m := m) (ds := ds) (i := i) h; cases e
    · intro i h
      cases i with
      | zero => exact ⟨s, s0, hS s rfl, .inl rfl⟩
      | succ i => obtain ⟨y, e, hy⟩ := envD_get (m := m) (ds := ds) (i := i) h; cases e
    · intro i j a h1 h2 _ _
      rw [own0 h1, own0 h2]
theorem rd_def (hs : SS g (fun cls dd _ H => E cls dd H) mr k t p) (hm : mr = .e ∨ mr = .f) (hN : Nx.length = n + (if hasS then 1 else 0) + m) (h : spD g n hasS mr k (Gof p hasS m) vs H Q E) : t (fin Q) (start Nx vs) H := by
  obtain ⟨S, us, ds, F, N, po, xx, rfl, rfl, rfl, hu, hF, hS, hk, hG, hQ, hE⟩ := h
  have r := rep_start (m := m) (Nx := Nx) hu hF hS hN
  refine hs _ rfl N _ H _ r hk _ hG _ ⟨?_, ?_, ?_, ?_, ?_⟩
  · intro ρ σ H' M hM hp r'
    exact hQ .non H' .non M hM hp (ro_non r' hm)
  · intro ρ σ H' M hM hp r'; exact hp.elim
  · intro ρ σ H' M hM hp r'; exact hp.elim
  · intro v H' d M hM hp ro; exact hQ v H' d M hM hp ro
  · intro ρ σ H' M e cls dd hM hp hr r'
    exact hE e cls dd H' M hM hp hr (fun a o h n => r'.ext a o h fun z => n z) fun a h => (r'.p0 a h).2
def RA (K : PySem.W.Frag) (H : Hp) (A : AS) (mr : Md) (v : V) (H' : Hp) (d : D) : Prop := match mr with
  | .f => (d.isL = false ∧ Rp K H' A v d) ∨ ∃ a vs ds, v = .ref a ∧ d = .lst ds ∧ H' a = some (.lst vs) ∧ H a = none ∧ RpA K H' (fun b => A b ∨ b = a) vs ds
  | _ => Rp K H' A v d
theorem call_core (r : Rep c M ρ σ H) (hc : c.g = g) {A : AS} (hSA : ∀ a, Sa ρ σ a → A a) (hA : ∀ a, A a → ∃ xs, H a = some (.lst xs)) (S : Option Addr) (hS : ∀ a, S = some a → Sa ρ σ a) (hu : RpA c.g.K H A us ds) (hl : ds.length = n) (hn : S.isSome = hasS) (hk : M + k ≤ NM) {po : D → Prop} {xx : Exn → Prop} (hG : G ds po xx)
    (hQ : ∀ v H' d M', M' ≤ M + k → po d → Rep c M' ρ σ H' → Ext (Sa ρ σ) H H' → (∀ a vs, H a = none → H' a = some (.lst vs) → Rep (c.addF a) M' ρ σ H') → RA c.g.K H A mr v H' d → Q v H')
    (hE : ∀ e cls dd H' M', M' ≤ M + k → xx e → XR c.g.K H' e cls dd → Rep c M' ρ σ H' → E cls dd H') : spD g n hasS mr k G ((S.map V.ref).toList ++ us) H Q E := by
  subst hc
  have step : ∀ {H' : Hp} {M' : Nat}, (∀ a o, H a = some o → ¬ S = some a → H' a = some o) → (∀ a, S = some a → ∃ vs, H' a = some (.lst vs) ∧ c.g.Wf M' vs) → Ext (Sa ρ σ) H H' ∧ ∀ a, Sa ρ σ a → SrcAt c a (max M M') H' := fun he hs => by
    refine ⟨fun a o h n => he a o h fun z => n (hS a z), fun a ha => ?_⟩
    by_cases e : S = some a
    · obtain ⟨vs, h1, h2⟩ := hs a e
      exact ⟨vs, h1, c.g.wm _ _ _ (Nat.le_max_right ..) h2⟩
    · obtain ⟨vs, h1, h2⟩ := r.srcs a ha
      exact ⟨vs, he a _ h1 e, c.g.wm _ _ _ (Nat.le_max_left ..) h2⟩
  refine ⟨S, us, ds, fun a => A a ∧ S ≠ some a, M, po, xx, rfl, hn, hl, RpA.less (fun a z => z.elim (·.1) fun z => hSA a (hS a z)) hu, fun a z => ⟨z.2, hA a z.1⟩, fun a z => r.srcs a (hS a z), hk, hG, ?_, ?_⟩
  · rintro v H' d M' hM hd ⟨h1, h2, h3⟩
    obtain ⟨he, hsr⟩ := step h1 h2
    have more : ∀ a, A a → (A a ∧ S ≠ some a) ∨ S = some a := fun a z => by
      by_cases e : S = some a
      · exact .inr e
      · exact .inl ⟨z, e⟩
    refine hQ v H' d (max M M') (by omega) hd (r.step he hsr (Nat.le_max_left ..)) he (fun a vs ha hv => r.addF ha he hsr (Nat.le_max_left ..) hv) ?_
    cases mr with
    | f =>
      rcases h3 with ⟨hl, h3⟩ | ⟨a, vs, es, e1, e2, h4, h5, h6, h7⟩
      · exact .inl ⟨hl, Rp.less more h3⟩
      · exact .inr ⟨a, vs, es, e1, e2, h4, h5, RpA.less (fun b z => z.elim (fun z => .inl (more b z)) .inr) h7⟩
    | t => exact Rp.less more h3
    | e => exact Rp.less more h3
    | b => exact Rp.less more h3
  · intro e cls dd H' M' hM hx hr h1 h2
    obtain ⟨he, hsr⟩ := step h1 h2
    exact hE e cls dd H' (max M M') (by omega) hx hr (r.step he hsr (Nat.le_max_left ..))
theorem ra_ef (r : Rep c M ρ σ H) (hF : ∀ a vs, H a = none → H' a = some (.lst vs) → Rep (c.addF a) M' ρ σ H') (hm : mr = .e ∨ mr = .f) (h : RA c.g.K H (Bs c ρ σ) mr v H' d) : RV c M' ρ σ H' mr v d := by
  rcases hm with z | z
  · subst z; exact h
  · subst z
    rcases h with h | ⟨a, vs, ds, e1, e2, h3, h4, h5⟩
    · exact .inl h
    · refine .inr ⟨a, vs, ds, e1, e2, h3, r.freshH0 h4, fun z => r.bs_ne (.inl z) h4 rfl, RpA.less (fun b z => ?_) h5, hF a vs h4 h3⟩
      rcases bs_addF_cases z with z | z
      · exact .inr z
      · exact .inl z
def D.lfi : D → Bool
  | .lst ds => D.lfA ds
  | d => d.lf
/-- nothing within the result is a list: it may be kept, whatever it was made of -/
theorem ra_lf (r : Rep c M ρ σ H) (r' : Rep c M' ρ σ H') (hF : ∀ a vs, H a = none → H' a = some (.lst vs) → Rep (c.addF a) M' ρ σ H') {A : AS} (hm : mr = .e ∧ d.lf = true ∨ mr = .f ∧ d.lfi = true) (h : RA c.g.K H A mr v H' d) : RV c M' ρ σ H' .f v d := by
  rcases hm with ⟨z, hl⟩ | ⟨z, hl⟩
  · subst z
    refine .inl ⟨?_, Rp.lf (fun a z => r'.bsAt z) d v hl h⟩
    cases d with
    | lst ds => simp [D.lf] at hl
    | _ => rfl
  · subst z
    rcases h with ⟨hi, h⟩ | ⟨a, vs, ds, e1, e2, h3, h4, h5⟩
    · refine .inl ⟨hi, Rp.lf (fun a z => r'.bsAt z) d v ?_ h⟩
      cases d with
      | lst ds => cases hi
      | _ => exact hl
    · have rF := hF a vs h4 h3
      subst e2
      exact .inr ⟨a, vs, ds, e1, rfl, h3, r.freshH0 h4, fun z => r.bs_ne (.inl z) h4 rfl, RpA.lf (fun b z => rF.bsAt z) ds vs hl h5, rF⟩
theorem ra_t (r : Rep c M ρ σ H) (h : RA c.g.K H (Sa ρ σ) mr v H' d) : RV c M' ρ σ H' .t v d := by
  cases mr with
  | t => exact h
  | e => exact h
  | b => exact h
  | f =>
    rcases h with h | ⟨a, vs, ds, e1, e2, h3, h4, h5⟩
    · exact h.2
    · subst e1; subst e2
      exact .lst ⟨h3, fun z => r.bs_ne (sa_bs z) h4 rfl⟩ (RpA.less (fun b z => .inl z) h5)
/-! the calls' rules: arguments that are kept (E), or looked at alone (T; L where nothing within the result is a list); S: the source goes ahead -/
def pCall (n : Nat) (G : GD) (pa : PXs) : PX := fun ρ po xx => pa ρ (fun ds => ds.length = n ∧ G ds po xx) xx
def onS (ρ : Env) (i : Nat) : Prop := match ρ[i]? with
  | some (some .s) => True
  | _ => False
def pCallS (i n : Nat) (G : GD) (pa : PXs) : PX := fun ρ po xx => onS ρ i ∧ pCall n G pa ρ po xx
def pLf (mr : Md) (f : (D → Prop) → Prop) (po : D → Prop) : Prop := f fun d => (mr = .e ∧ d.lf = true ∨ mr = .f ∧ d.lfi = true) ∧ po d
def pCallL (mr : Md) (n : Nat) (G : GD) (pa : PXs) : PX := fun ρ po xx => pCall n G pa ρ (fun d => (mr = .e ∧ d.lf = true ∨ mr = .f ∧ d.lfi = true) ∧ po d) xx
def pCallLS (i : Nat) (mr : Md) (n : Nat) (G : GD) (pa : PXs) : PX := fun ρ po xx => onS ρ i ∧ pCallL mr n G pa ρ po xx
theorem onS_of {i : Nat} (h : onS ρ i) : ρ[i]? = some (some .s) := by
  unfold onS at h; split at h
  · assumption
  · exact h.elim
theorem call_nil {sp : Sp} {t : TA} (h : t σ H fun vs H1 => sp vs H1 Q E) : tCall sp [] E t σ H Q := by
  show t σ H fun vs H1 => sp (vs ++ []) H1 Q E
  have : (fun vs H1 => sp (vs ++ []) H1 Q E) = fun vs H1 => sp vs H1 Q E := by funext vs H1; rw [List.append_nil]
  rw [this]; exact h
theorem sx_callE (hm : mr = .e ∨ mr = .f) (ha : SA g W .e k1 tr pr) : SX g W mr (k1 + k) (tCallS (spD g n false mr k G) (WE W) tr) (pCall n G pr) := fun c hc N σ H ρ r hk po xx hp hx Q q =>
  ha c hc N σ H ρ r (by omega) _ xx hp (hx.sub (by omega)) _ fun vs H1 ds M1 hM1 ⟨hl, hG⟩ r1 e1 hv =>
    call_core (A := Bs c ρ σ) r1 hc (fun a => sa_bs) (fun a => r1.bsAt) none (fun a z => by cases z) hv hl rfl (by omega) hG
      (fun v H' d M' hM hd r' e' hF hr => q v H' d M' (by omega) hd r' (e1.trans e') (ra_ef r1 hF hm hr)) (fun e cls dd H' M' hM z hr r' => hx e cls dd H' M' (by omega) z hr r')
theorem sx_callT (ha : SA g W .t k1 tr pr) : SX g W .t (k1 + k) (tCallS (spD g n false mr k G) (WE W) tr) (pCall n G pr) := fun c hc N σ H ρ r hk po xx hp hx Q q =>
  ha c hc N σ H ρ r (by omega) _ xx hp (hx.sub (by omega)) _ fun vs H1 ds M1 hM1 ⟨hl, hG⟩ r1 e1 hv =>
    call_core (A := Sa ρ σ) r1 hc (fun a z => z) (fun a z => r1.bsAt (sa_bs z)) none (fun a z => by cases z) hv hl rfl (by omega) hG
      (fun v H' d M' hM hd r' e' hF hr => q v H' d M' (by omega) hd r' (e1.trans e') (ra_t r1 hr)) (fun e cls dd H' M' hM z hr r' => hx e cls dd H' M' (by omega) z hr r')
theorem sx_callL (ha : SA g W .t k1 tr pr) : SX g W .f (k1 + k) (tCallS (spD g n false mr k G) (WE W) tr) (pCallL mr n G pr) := fun c hc N σ H ρ r hk po xx hp hx Q q =>
  ha c hc N σ H ρ r (by omega) _ xx hp (hx.sub (by omega)) _ fun vs H1 ds M1 hM1 ⟨hl, hG⟩ r1 e1 hv =>
    call_core (A := Sa ρ σ) r1 hc (fun a z => z) (fun a z => r1.bsAt (sa_bs z)) none (fun a z => by cases z) hv hl rfl (by omega) hG
      (fun v H' d M' hM hd r' e' hF hr => q v H' d M' (by omega) hd.2 r' (e1.trans e') (ra_lf r1 r' hF hd.1 hr)) (fun e cls dd H' M' hM z hr r' => hx e cls dd H' M' (by omega) z hr r')
theorem src_then {i : Nat} {sp : Sp} {te : TA} (h : onS ρ i) (r : Rep c N ρ σ H) (q : ∀ s, Sa ρ σ s → te σ H fun vs H1 => sp (.ref s :: vs) H1 Q (WE W σ)) : tCallS sp (WE W) (tCons (tVar i) te) σ H Q := by
  obtain ⟨a, h1, _⟩ := r.s i (onS_of h)
  exact ⟨_, h1, q a ⟨i, onS_of h, h1⟩⟩
theorem sx_callSE {i : Nat} (hm : mr = .e ∨ mr = .f) (ha : SA g W .e k1 tr pr) : SX g W mr (k1 + k) (tCallS (spD g n true mr k G) (WE W) (tCons (tVar i) tr)) (pCallS i n G pr) := fun c hc N σ H ρ r hk po xx hp hx Q q => src_then hp.1 r fun s hs =>
  ha c hc N σ H ρ r (by omega) _ xx hp.2 (hx.sub (by omega)) _ fun vs H1 ds M1 hM1 ⟨hl, hG⟩ r1 e1 hv =>
    call_core (A := Bs c ρ σ) r1 hc (fun a => sa_bs) (fun a => r1.bsAt) (some s) (fun a z => by cases z; exact hs) hv hl rfl (by omega) hG
      (fun v H' d M' hM hd r' e' hF hr => q v H' d M' (by omega) hd r' (e1.trans e') (ra_ef r1 hF hm hr)) (fun e cls dd H' M' hM z hr r' => hx e cls dd H' M' (by omega) z hr r')
theorem sx_callSL {i : Nat} (ha : SA g W .t k1 tr pr) : SX g W .f (k1 + k) (tCallS (spD g n true mr k G) (WE W) (tCons (tVar i) tr)) (pCallLS i mr n G pr) := fun c hc N σ H ρ r hk po xx hp hx Q q => src_then hp.1 r fun s hs =>
  ha c hc N σ H ρ r (by omega) _ xx hp.2 (hx.sub (by omega)) _ fun vs H1 ds M1 hM1 ⟨hl, hG⟩ r1 e1 hv =>
    call_core (A := Sa ρ σ) r1 hc (fun a z => z) (fun a z => r1.bsAt (sa_bs z)) (some s) (fun a z => by cases z; exact hs) hv hl rfl (by omega) hG
      (fun v H' d M' hM hd r' e' hF hr => q v H' d M' (by omega) hd.2 r' (e1.trans e') (ra_lf r1 r' hF hd.1 hr)) (fun e cls dd H' M' hM z hr r' => hx e cls dd H' M' (by omega) z hr r')
/-! changes of one's own lists -/
def onO (ρ : Env) (i : Nat) (f : List D → Prop) : Prop := match ρ[i]? with
  | some (some (.o xs)) => f xs
  | _ => False
theorem onO_of {i : Nat} {f : List D → Prop} (h : onO ρ i f) : ∃ xs, ρ[i]? = some (some (.o xs)) ∧ f xs := by
  unfold onO at h; split at h
  · exact ⟨_, by assumption, h⟩
  · exact h.elim
theorem tyV_l {K : PySem.W.Frag} {a : Addr} {xs : List V} (h : H a = some (.lst xs)) : tyV K "list" (.ref a) H := .inl ⟨rfl, xs, sq_of h⟩
theorem Rep.ownList (r : Rep c N ρ σ H) {i : Nat} {xs : List D} (h : ρ[i]? = some (some (.o xs))) {a : Addr} (ha : σ[i]? = some (some (.ref a))) : ∃ vs, H a = some (.lst vs) ∧ RpA c.g.K H (Bs c ρ σ) vs xs := by
  obtain ⟨b, vs, h1, h2, h3, _⟩ := r.o i xs h
  rw [ha] at h1; cases h1
  exact ⟨vs, h2, h3⟩
def kApp (i : Nat) (pa : PX) : PS' := fun κ ρ => onO ρ i fun xs => pa ρ (fun d => xs.length < 100000 ∧ κ.nx (ρ.set i (some (.o (xs ++ [d]))))) (κ.xx ρ)
theorem ss_app {i : Nat} {pa : PX} (ha : SX g W .e k ta pa) : SS g W mr k (tDrop (tBM g.K "list" rAppend (tVar i) (tCons ta tNil))) (kApp i pa) := fun c hc N σ H ρ r hk κ hp D hD => by
  obtain ⟨xs, hx, hp⟩ := onO_of hp
  obtain ⟨a, vs, h1, h2, h3, h4⟩ := r.o i xs hx
  refine ⟨_, h1, tyV_l h2, ?_⟩
  refine ha c hc N σ H ρ r hk _ _ hp (hD.xf (by omega)) _ fun v H1 d M1 hM1 ⟨hz, hd⟩ r1 e1 hv1 => ?_
  obtain ⟨us, g1, g2⟩ := r1.ownList hx h1
  exact ⟨a, us, v, rfl, rfl, g1, sz_lt (by rw [pd_len g2]; exact hz), hD.nx _ _ _ M1 hM1 hd (r1.updO hx h1 (pd_app g2 (.cons hv1 .nil)))⟩
def kSet (i : Nat) (pj pa : PX) : PS' := fun κ ρ => onO ρ i fun xs => pa ρ (fun d => pj ρ (fun j => onI j fun z => ∃ n, ixN xs.length z = some n ∧ κ.nx (ρ.set i (some (.o (xs.set n d))))) (κ.xx ρ)) (κ.xx ρ)
theorem ss_set {i : Nat} {pj pa : PX} (ha : SX g W .e k1 ta pa) (hj : SX g W .t k2 tb pj) : SS g W mr (k1 + k2) (tAsg ta (gSub (tVar i) tb rSetL)) (kSet i pj pa) := fun c hc N σ H ρ r hk κ hp D hD => by
  obtain ⟨xs, hx, hp⟩ := onO_of hp
  obtain ⟨a, vs, h1, h2, h3, h4⟩ := r.o i xs hx
  refine ha c hc N σ H ρ r (by omega) _ _ hp (hD.xf (by omega)) _ fun v H1 d M1 hM1 hd r1 e1 hv1 => ?_
  refine ⟨_, h1, ?_⟩
  refine hj c hc M1 σ H1 ρ r1 (by omega) _ _ hd (hD.xf (by omega)) _ fun w H2 j M2 hM2 hj r2 e2 hv2 => ?_
  obtain ⟨z, e0, n, hn, hd⟩ := onI_of hj
  subst e0
  have := rv_int hv2
  subst this
  obtain ⟨us, g1, g2⟩ := r2.ownList hx h1
  refine ⟨a, us, z, n, rfl, rfl, g1, by rw [pd_len g2]; exact hn, hD.nx _ _ _ M2 (by omega) hd (r2.updO hx h1 (pd_set (rp_ext e2 (fun _ => sa_bs) hv1) n g2))⟩
def kMut (i : Nat) (f : List D → List D) : PS' := fun κ ρ => onO ρ i fun xs => κ.nx (ρ.set i (some (.o (f xs))))
theorem ss_rev {i : Nat} : SS g W mr 0 (tDrop (tBM0 g.K "list" rReverse (tVar i))) (kMut i List.reverse) := fun c hc N σ H ρ r hk κ hp D hD => by
  obtain ⟨xs, hx, hp⟩ := onO_of hp
  obtain ⟨a, vs, h1, h2, h3, h4⟩ := r.o i xs hx
  exact ⟨_, h1, tyV_l h2, a, vs, rfl, rfl, h2, hD.nx _ _ _ N (by omega) hp (r.updO hx h1 (pd_rev h3))⟩
theorem ss_clear {i : Nat} : SS g W mr 0 (tDrop (tBM0 g.K "list" rClear (tVar i))) (kMut i fun _ => []) := fun c hc N σ H ρ r hk κ hp D hD => by
  obtain ⟨xs, hx, hp⟩ := onO_of hp
  obtain ⟨a, vs, h1, h2, h3, h4⟩ := r.o i xs hx
  exact ⟨_, h1, tyV_l h2, a, vs, rfl, rfl, h2, hD.nx _ _ _ N (by omega) hp (r.updO hx h1 .nil)⟩
def kPop (i : Nat) : PS' := fun κ ρ => onO ρ i fun xs => xs ≠ [] ∧ κ.nx (ρ.set i (some (.o xs.dropLast)))
theorem ss_pop {i : Nat} : SS g W mr 0 (tDrop (tBM0 g.K "list" rPop (tVar i))) (kPop i) := fun c hc N σ H ρ r hk κ hp D hD => by
  obtain ⟨xs, hx, hne, hp⟩ := onO_of hp
  obtain ⟨a, vs, h1, h2, h3, h4⟩ := r.o i xs hx
  have hl := pd_len h3
  have hpos : 0 < xs.length := List.length_pos_iff.mpr hne
  exact ⟨_, h1, tyV_l h2, a, vs, vs[vs.length - 1]'(by omega), rfl, rfl, h2, by rw [List.getElem?_eq_getElem], hD.nx _ _ _ N (by omega) hp (r.updO hx h1 (pd_dropLast h3))⟩
def kExt (i : Nat) (pa : PX) : PS' := fun κ ρ => onO ρ i fun xs => pa ρ (fun d => onL d fun ys => xs.length + ys.length ≤ 100000 ∧ κ.nx (ρ.set i (some (.o (xs ++ ys))))) (κ.xx ρ)
/-! several names at once -/
theorem paired_zip {K : PySem.W.Frag} {B : AS} : ∀ {vs : List V} {ds : List D}, RpA K H B vs ds → ∀ p ∈ vs.zip ds, Rp K H B p.1 p.2
  | _, _, .nil, p, hp => by simp at hp
  | _, _, .cons h r, p, hp => by
    rcases List.mem_cons.mp (by simpa using hp) with e | e
    · rw [e]; exact h
    · exact paired_zip r p e
theorem zip_paired {K : PySem.W.Frag} {B : AS} : ∀ {vs : List V} {ds : List D}, vs.length = ds.length → (∀ p ∈ vs.zip ds, Rp K H B p.1 p.2) → RpA K H B vs ds
  | [], [], _, _ => .nil
  | v :: vs, d :: ds, hl, h => .cons (h (v, d) (by simp)) (zip_paired (by simpa using hl) fun p hp => h p (by simp [hp]))
/-- a value waits -/
theorem pend (hm : md = .e ∨ md = .f) (r : Rep c M ρ σ H) (h : RV c M ρ σ H md v d) : ∃ c' : Cf, c'.g = c.g ∧ Rep c' M ρ σ H ∧
    (∀ ρ' σ' H' M', Rep c' M' ρ' σ' H' → Ext (Sa ρ σ) H H' → Rep c M' ρ' σ' H' ∧ RV c M' ρ' σ' H' md v d) ∧ (∀ W N k (xx : Exn → Prop), Xf W c N k ρ σ xx → Xf W c' N k ρ σ xx) := by
  have eK : ∀ {w : V} {e : D}, Rp c.g.K H (Bs c ρ σ) w e → ∃ c' : Cf, c'.g = c.g ∧ Rep c' M ρ σ H ∧
    (∀ ρ' σ' H' M', Rep c' M' ρ' σ' H' → Ext (Sa ρ σ) H H' → Rep c M' ρ' σ' H' ∧ Rp c.g.K H' (Bs c ρ' σ') w e) ∧ (∀ W N k (xx : Exn → Prop), Xf W c N k ρ σ xx → Xf W c' N k ρ σ xx) := fun {w e} hw =>
    ⟨c.addK w e, rfl, r.addK hw, fun ρ' σ' H' M' r' _ => r'.dropK, fun W N k xx hx e' cls dd H' M' hM z1 z2 r' => hx e' cls dd H' M' hM z1 z2 r'.dropK.1⟩
  rcases hm with z | z
  · subst z; exact eK h
  · subst z
    rcases h with ⟨hl, h⟩ | ⟨a, vs, ds, rfl, rfl, h1, h2, h3, h4, h5⟩
    · obtain ⟨c', g1, g2, g3, g4⟩ := eK h
      exact ⟨c', g1, g2, fun ρ' σ' H' M' r' e => ⟨(g3 ρ' σ' H' M' r' e).1, .inl ⟨hl, (g3 ρ' σ' H' M' r' e).2⟩⟩, g4⟩
    · refine ⟨(c.addF a).addKs (vs.zip ds), rfl, h5.addKs (paired_zip h4), fun ρ' σ' H' M' r' e => ⟨r'.dropKs.dropF, .inr ⟨a, vs, ds, rfl, rfl, e a _ h1 fun z => (h5.fr a (.inr rfl)).1 (sa_own z), h2, h3, zip_paired (pd_len h4) r'.kept, r'.dropKs⟩⟩, fun W N k xx hx e' cls dd H' M' hM z1 z2 r' => hx e' cls dd H' M' hM z1 z2 r'.dropKs.dropF⟩
theorem ss_par {i j : Nat} {md1 md2 : Md} {pa pb : PX} (hij : i ≠ j) (hm1 : md1 = .e ∨ md1 = .f) (hm2 : md2 = .e ∨ md2 = .f) (ha : SX g W md1 k1 ta pa) (hb : SX g W md2 k2 tb pb) :
    SS g W mr (k1 + k2) (tPar i j (tCons ta (tCons tb tNil))) (kPar i j pa pb (stW md1) (stW md2)) := fun c hc N σ H ρ r hk κ hp D hD =>
  ha c hc N σ H ρ r (by omega) _ _ hp (hD.xf (by omega)) _ fun x H1 d M1 hM1 hd r1 e1 hv1 => by
    obtain ⟨c', g1, r1', back, xf⟩ := pend hm1 r1 hv1
    refine hb c' (g1.trans hc) M1 σ H1 ρ r1' (by omega) _ _ hd (xf _ _ _ _ (hD.xf (by omega))) _ fun w H2 e M2 hM2 he r2 e2 hvw => ?_
    obtain ⟨r3, hx3⟩ := back _ _ H2 M2 (r2.put (i := j) hm2 hvw) e2
    refine ⟨x, w, rfl, hD.nx _ _ _ M2 (by omega) he ?_⟩
    rw [List.set_comm _ _ hij, List.set_comm _ _ hij]
    exact r3.put hm1 hx3
def kPar3 (i j l : Nat) (pa pb pc : PX) (fa fb fc : D → Wd) : PS' := fun κ ρ => pa ρ (fun x => pb ρ (fun y => pc ρ (fun z => κ.nx (((ρ.set i (some (fa x))).set j (some (fb y))).set l (some (fc z)))) (κ.xx ρ)) (κ.xx ρ)) (κ.xx ρ)
theorem ss_par3 {i j l : Nat} {md1 md2 md3 : Md} {tc : TE} {pa pb pc : PX} (hij : i ≠ j) (hil : i ≠ l) (hjl : j ≠ l) (hm1 : md1 = .e ∨ md1 = .f) (hm2 : md2 = .e ∨ md2 = .f) (hm3 : md3 = .e ∨ md3 = .f) (ha : SX g W md1 k1 ta pa) (hb : SX g W md2 k2 tb pb) (hc3 : SX g W md3 k3 tc pc) :
    SS g W mr (k1 + (k2 + k3)) (tPar3 i j l (tCons ta (tCons tb (tCons tc tNil)))) (kPar3 i j l pa pb pc (stW md1) (stW md2) (stW md3)) := fun c hc N σ H ρ r hk κ hp D hD =>
  ha c hc N σ H ρ r (by omega) _ _ hp (hD.xf (by omega)) _ fun x H1 d M1 hM1 hd r1 e1 hv1 => by
    obtain ⟨c', g1, r1', back, xf⟩ := pend hm1 r1 hv1
    refine hb c' (g1.trans hc) M1 σ H1 ρ r1' (by omega) _ _ hd (xf _ _ _ _ (hD.xf (by omega))) _ fun w H2 e M2 hM2 he r2 e2 hvw => ?_
    obtain ⟨c'', g2, r2', back2, xf2⟩ := pend hm2 r2 hvw
    refine hc3 c'' (g2.trans (g1.trans hc)) M2 σ H2 ρ r2' (by omega) _ _ he (xf2 _ _ _ _ (xf _ _ _ _ (hD.xf (by omega)))) _ fun y H3 f M3 hM3 hf r3 e3 hvy => ?_
    obtain ⟨r4, hw4⟩ := back2 _ _ H3 M3 (r3.put (i := l) hm3 hvy) e3
    obtain ⟨r5, hx5⟩ := back _ _ H3 M3 (r4.put (i := j) hm2 hw4) (e2.trans e3)
    refine ⟨x, w, y, rfl, hD.nx _ _ _ M3 (by omega) hf ?_⟩
    have e : ∀ {α : Type} (L : List α) (a b c : α), ((L.set i a).set j b).set l c = ((L.set l c).set j b).set i a := fun L a b c => by
      rw [List.set_comm b c hjl, List.set_comm a c hil, List.set_comm a b hij]
    rw [e, e]
    exact r5.put hm1 hx5
/-- names from the items of a value -/
def kAsgG (pg : PGt) (pa : PX) : PS' := fun κ ρ => pa ρ (fun d => match pg d ρ with | some ρ' => κ.nx ρ' | none => False) (κ.xx ρ)
theorem ss_asgG {is : List Nat} {gt : TG} {pg : PGt} {pa : PX} (ha : SX g W .e k ta pa) (hg : SG g is gt pg) : SS g W mr k (tAsg ta gt) (kAsgG pg pa) := fun c hc N σ H ρ r hk κ hp D hD =>
  ha c hc N σ H ρ r hk _ _ hp (hD.xf (by omega)) _ fun v H1 d M1 hM1 hd r1 e1 hv1 => by
    match h : pg d ρ with
    | some ρ' =>
      simp only [h] at hd
      exact hg c hc M1 ρ σ H1 v d ρ' r1 hv1 h _ fun σ' r' _ _ _ _ => hD.nx _ _ _ M1 hM1 hd r'
    | none =>
      simp only [h] at hd
end
end PD

/-! defs that are called where no repr is under way: what HandS's FnOk says, with that fact told -/
namespace SL
open PySem PySem.Spec PyProof.Rows L2
structure FnG (P : Program) (w : World) (K : PySem.W.Frag) (mg : Str → Option Value) (base : Heap) (CX : CXT) (n : Nat) (fa : Addr) (rec : FuncData) (par : List Str) (sp : Sp) : Prop where
  many : ∀ xs G R X, sp xs G R X → xs.length = par.length
  runs : ∀ (Z : Around) (fs : List Env) (st : Shared) (G : Hp) (gs : Args) (ys : List Value) (xs : List V) (R : VK) (X : XK), Z.guards = some [] → Room n Z → Env0 P w K mg base Z fs st G → BindsTo st rec gs (par.zip ys) → Vals xs ys → sp xs G R X →
    codeAny (model P w) Z (.call (.ref fa) gs) (CR CX fs P w G st R X) st
section
variable {P : Program} {w : World} {K : PySem.W.Frag} {mg : Str → Option Value} {base : Heap} {CX : CXT} {n : Nat} {fa : Addr} {rec : FuncData} {par : List Str} {sp : Sp}
theorem FnG.ofOk (o : FnOk P w K mg base CX n fa rec par sp) : FnG P w K mg base CX n fa rec par sp :=
  ⟨o.len, fun Z fs st G gs ys xs R X _ => o.run Z fs st G gs ys xs R X⟩
/-- the rule for a def whose body may ask repr -/
theorem okG {nm ql : Str} {tx : Stmt} {N : List Str} (o : Fun K nm ql tx fa rec) (sc : FnScope N par (defScope tx)) (many : ∀ xs G R X, sp xs G R X → xs.length = par.length)
    (body : ∀ (cv : Value) (Z : Around) (fs : List Env) (st : Shared) (G : Hp) (xs : List V) (R : VK) (X : XK), (Z.deeper (envOfC ql (defScope tx) st.heap.objs.size fa cv)).guards = some [] → Room n (Z.deeper (envOfC ql (defScope tx) st.heap.objs.size fa cv)) → sp xs G R X →
      ∃ t, PSs (cxOf CX0 P w K mg base N ql (defScope tx) fa cv Z fs st G X).nox (defBody tx) t ∧ t { nx := fun _ G' => R .non G', rt := R } (start N xs) G) : FnG P w K mg base CX0 (n + 1) fa rec par sp := by
  obtain ⟨c1, c2, c3, c4, c5, c6, cv, c8, c9, er, there, ccode⟩ := o.ex
  subst er
  constructor
  · exact many
  intro Z fs st G gs ys xs R X hgd room env bnd rel want
  have sizes := many _ _ _ _ want
  have inK : K.In st.heap := env.mod.kin.keeps (fun b u g => (env.bs b u g).1)
  have noLim : st.heap.NoLimit := env.mod.nolimit.keeps (fun b u g => (env.bs b u g).1)
  have kinds : ∀ z ∈ par.zip ys, (defScope tx).names.lookup z.1 = some .local ∨ ((defScope tx).names.lookup z.1 = some .cell ∧ ((cellsFrom (st.heap.objs.size + 1) (defScope tx).names []).lookup z.1).isSome = true) := by
    rintro ⟨nn, vv⟩ hz
    cases sc.par nn (List.of_mem_zip hz).1 with
    | inl hl => exact Or.inl hl
    | inr hr => exact Or.inr ⟨hr, PySem.W.cellsFrom_some _ _ _ (Or.inl hr)⟩
  apply codeAny_call_function room.depth (inK _ _ there) rfl sc.co sc.gen rfl (PySem.W.codeRec_of inK ccode)
  apply bnd
  apply wpAny_newFunctionEnv_cells sc.kind kinds
  intro ev ee st1 into
  subst ee
  refine ⟨noLim.keeps into.toInCall.keep, codeAny_func ?_⟩
  obtain ⟨t, ht, go⟩ := body cv Z fs st G xs R X hgd (room.deeper _) want
  have now : Inv (cxOf CX0 P w K mg base N ql (defScope tx) fa cv Z fs st G X) [] (start N xs) G st1 := inv_start sc room.hd env sizes rel into
  apply wpAny_mono (ht.nox.run [] st1 (start N xs) G _ now go)
  · intro fl st2 hs
    match fl, hs with
    | .ret u, hs =>
      obtain ⟨v, ss, G2, J, rv, hq⟩ := hs
      exact ⟨v, G2, J.os, J.bare, J.base, J.hok, rv, hq⟩
    | .next, hs =>
      obtain ⟨ss, G2, J, hq⟩ := hs
      exact ⟨V.non, G2, J.os, J.bare, J.base, J.hok, rfl, hq⟩
    | .brk, hs =>
      obtain ⟨_, _, _, hq⟩ := hs
      exact hq.elim
    | .cont, hs =>
      obtain ⟨_, _, _, hq⟩ := hs
      exact hq.elim
  · intro ex st2 hs
    exact hs
end
section
variable {X : Cx} {CX : CXT} {n : Nat} {fa : Addr} {rec : FuncData} {par : List Str} {sp : Sp} {dvs : List V} {ds : List Value} {W : XK} {nm : Str} {p pos : Pos} {e : Expr} {es : List Expr} {t : TA}
/-- a call of such a def -/
theorem pe_callG (o : FnG X.prog X.w X.K X.mg X.base CX n fa rec par sp) (gd : X.A.guards = some []) (room : Room n X.A) (glob : Gl X nm) (at_ : X.mg nm = some (.ref fa)) (kept : PySem.W.keepIn X.K (.ref fa) = true) (bnd : Binds X.K rec par ds) (dv : Vals dvs ds) (pass : Passes CX X W)
    (args : PA X (e :: es) t) (notD : (nm == ("__debug__" : Str)) = false := by decide) (one : starEach (e :: es) X.env = (false, eval e X.env) :: starEach es X.env := by rfl) (plain : (backTo pos (starEach es X.env)).any (·.1) = false := by rfl) :
    PE X (.Call (.Name nm p) (e :: es) [] pos) (tCall sp dvs W t) := by
  constructor
  intro pins st ss G R I want
  apply wpAny_Call_Name_kw (ld_glob I glob at_ _ notD)
  apply PySem.W.callWith_K (h₀ := X.base) I.ok.mod.kin kept (thn (args.run pos pins st ss G _ I want) _) one plain
  rintro ys st1 ⟨xs, G1, I1, rel, go⟩
  refine ⟨I1.kIn, ?_⟩
  have rel2 : Vals (xs ++ dvs) (ys ++ ds) := rel.append dv
  have count : (ys ++ ds).length = par.length := rel2.length ▸ o.many _ _ _ _ go
  apply wpAny_call
  apply codeAny_mono (o.runs X.A X.stack st1 G1 ⟨ys, []⟩ (ys ++ ds) (xs ++ dvs) _ _ gd room I1.env0 (bnd st1 ys I1.kIn count) rel2 go)
  intro res st2 hres
  match res, hres with
  | .error ex, hres => exact pass pins ss G1 st1 ex st2 I1 hres
  | .ok (.ret u), hres => exact I1.after hres
  | .ok .next, hres => exact False.elim hres
  | .ok .brk, hres => exact False.elim hres
  | .ok .cont, hres => exact False.elim hres
/-! repr of data -/
def rReprD (K : PySem.W.Frag) : List V → Hp → VK → Prop := fun xs H Q => ∃ x d, xs = [x] ∧ Dp K H x d ∧ d.showable = true ∧ d.depth ≤ 40 ∧ d.shown.length ≤ sizeLine ∧ Q (.str d.shown) H
mutual
theorem noDict_of {K : PySem.W.Frag} {H : Hp} : ∀ (d : PyData) (v : V), Dp K H v d → d.hasDict = false
  | .none, _, _ => by simp only [PyData.hasDict]
  | .bool _, _, _ => by simp only [PyData.hasDict]
  | .int _, _, _ => by simp only [PyData.hasDict]
  | .str _, _, _ => by simp only [PyData.hasDict]
  | .list ds, _, h => by
    cases h with
    | lst h1 h2 => simp only [PyData.hasDict]; exact noDictAll_of ds _ h2
  | .tuple ds, _, h => by
    cases h with
    | tup h1 h2 => simp only [PyData.hasDict]; exact noDictAll_of ds _ h2
  | .dict _, _, h => by cases h
theorem noDictAll_of {K : PySem.W.Frag} {H : Hp} : ∀ (ds : List PyData) (xs : List V), DpAll K H xs ds → PyData.hasDictAll ds = false
  | [], _, _ => by simp only [PyData.hasDictAll]
  | d :: ds, _, h => by
    cases h with
    | cons h1 h2 => simp only [PyData.hasDictAll, noDict_of d _ h1, noDictAll_of ds _ h2, Bool.or_self]
end
theorem call_reprD (gd : X.A.guards = some []) (hu : X.A.units + 64 < cLine) : CallR X (.builtin "repr") (rReprD X.K) := by
  intro pins st ss G xs ys R I rel h
  obtain ⟨x, d, rfl, hd, hs, hdep, hz, q⟩ := h
  obtain ⟨u, rfl, ru⟩ := vals1 rel
  have nd := noDict_of d x hd
  obtain ⟨as, rd⟩ := Dp.reads I d x u hd ru
  cases d with
  | none => cases hd; cases (show u = Value.none from ru); exact PySem.P.repr_of_none ⟨.str _, G, I.tok _, ⟨_, rfl⟩, by simpa only [PyData.shown] using q⟩
  | bool b => cases hd; cases (show u = Value.bool b from ru); exact PySem.P.repr_of_bool ⟨.str _, G, I.tok _, ⟨_, rfl⟩, by simpa only [PyData.shown] using q⟩
  | int i =>
    cases hd
    obtain ⟨tk, rfl⟩ := (show ∃ tk, u = Value.int i tk from ru)
    exact PySem.P.repr_of_int (by simpa [PyData.showable] using hs) ⟨.str _, G, I.tok _, ⟨_, rfl⟩, by simpa only [PyData.shown] using q⟩
  | str z =>
    cases hd
    obtain ⟨tk, rfl⟩ := (show ∃ tk, u = Value.str z tk from ru)
    exact PySem.P.repr_of_str ⟨.str _, G, I.tok _, ⟨_, rfl⟩, by simpa only [PyData.shown] using q⟩ (by simpa only [PyData.shown] using hz)
  | list ds =>
    cases hd with
    | @lst a _ _ h1 h2 =>
      cases (show u = Value.ref a from ru)
      exact repr_of_reads' rd hs (PyData.noDict_hsm nd) gd (by omega) (fun _ _ g => g) (fun h' u' tk keep => ⟨.str _, G, I.kept (t' := tk) keep, ⟨_, rfl⟩, q⟩) hz
  | tuple ds =>
    cases hd with
    | @tup a _ _ h1 h2 =>
      cases (show u = Value.ref a from ru)
      exact repr_of_reads' rd hs (PyData.noDict_hsm nd) gd (by omega) (fun _ _ g => g) (fun h' u' tk keep => ⟨.str _, G, I.kept (t' := tk) keep, ⟨_, rfl⟩, q⟩) hz
  | dict kvs => cases hd
end
/-! the law's end for such a def -/
section
theorem law_endG {P : Program} {w : World} {K : PySem.W.Frag} {mg bt : Str → Option Value} {n : Nat} {fa scr : Addr} {rec : FuncData} {pn : Str} {sp : Sp} {st : Shared} {us : List Value} {cells : List Int}
    (inK : K.In st.heap) (gl : st.heap.Ns mainGlobals mg) (bl : st.heap.Ns builtinsNs bt) (bs : ∀ x : Str, x ≠ "__name__" → bt x = bootBuiltins x) (nl : st.heap.NoLimit) (ng : st.gens = #[])
    (at_ : st.heap.get? scr = some { cls := .type "list", data := .seq us.toArray }) (isInts : IntsAre us cells) (few : cells.length ≤ sizeLine) (room : Room n callerA)
    (o : ∀ base : Heap, K.In base → base.Ns mainGlobals mg → FnG P w K mg base CX0 n fa rec [pn] sp) (bnd : ∀ (s : Shared) (u : Value), BindsTo s rec ⟨[u], []⟩ [(pn, u)])
    (want : ∀ G : Hp, SqL K G scr (cells.map V.int) → sp [.ref scr] G (fun v _ => v = .bl true) fun _ _ _ => False) :
    codeAny (model P w) callerA (.call (.ref fa) ⟨[.ref scr], []⟩) (fun r s' => r = .ok (.ret (.bool true)) ∧ OldK st.heap s'.heap ∧ s'.os = st.os ∧ AllBare s'.gens) st := by
  have rel := vals_ints isInts
  have size := isInts.length
  -- what is tracked: the script, where it is not one of the module's own objects
  have main : ∀ G : Hp, (∀ b, G b ≠ none → b = scr ∧ K.lookup scr = none ∧ ∃ u xs, G b = some (.frz u (.lst xs))) → SqL K G scr (cells.map V.int) → HOk P w G st.heap →
      codeAny (model P w) callerA (.call (.ref fa) ⟨[.ref scr], []⟩) (fun r s' => r = .ok (.ret (.bool true)) ∧ OldK st.heap s'.heap ∧ s'.os = st.os ∧ AllBare s'.gens) st := by
    intro G only there good
    have some_of : ∀ {b : Addr} {u : HO}, G b = some u → G b ≠ none := fun {b u} g z => nomatch g.symm.trans z
    have none_of : ∀ {b : Addr}, (G b ≠ none → False) → G b = none := fun {b} no => by
      cases g : G b with
      | none => rfl
      | some u => exact (no (some_of g)).elim
    have dictFree : ∀ {b : Addr} {ob : Obj} {es : Array DictEntry} {ep : Nat}, st.heap.get? b = some ob → ob.data = .dict es ep → G b = none := by
      intro b ob es ep g d
      apply none_of
      intro no
      obtain ⟨rfl, _, _⟩ := only b no
      rw [at_] at g
      cases g
      cases d
    have ns_ : ∀ {b : Addr} {m : Str → Option Value}, st.heap.Ns b m → (hidT st.heap G).Ns b m := by
      rintro b m ⟨ob, es, ep, g, d, r⟩
      exact ⟨ob, es, ep, hidT_get g (dictFree g d), d, r⟩
    have inB : K.In (hidT st.heap G) := by
      intro b ob g
      apply hidT_get (inK b ob g)
      apply none_of
      intro no
      obtain ⟨rfl, free, _⟩ := only b no
      rw [free] at g
      cases g
    have noLim : (hidT st.heap G).NoLimit := by
      obtain ⟨mc, g1, g2⟩ := nl
      exact ⟨mc, ns_ g1, g2⟩
    have env : Env0 P w K mg (hidT st.heap G) callerA [] st G :=
      { frames := rfl, mod := { kin := inB, glob := ns_ gl, blt := ⟨bt, ns_ bl, bs⟩, nolimit := noLim }, bs := fun b u g => of_hidT g, bsz := Nat.le_of_eq (hidT_size _ _), funs := trivial,
        frf := fun b hb => (List.not_mem_nil hb).elim, hok := good, bare := .of_eq ng }
    apply codeAny_mono ((o _ inB (ns_ gl)).runs callerA [] st G ⟨[.ref scr], []⟩ [.ref scr] [.ref scr] _ _ rfl room env (bnd st (.ref scr)) (.cons rfl .nil) (want G there))
    intro res st2 hres
    match res, hres with
    | .error ex, hres => exact hres.elim
    | .ok .next, hres => exact False.elim hres
    | .ok .brk, hres => exact False.elim hres
    | .ok .cont, hres => exact False.elim hres
    | .ok (.ret u), hres =>
      obtain ⟨v, G2, os, bare, un, good2, rv, hv⟩ := hres
      have hv' : v = V.bl true := hv
      subst hv'
      cases (show u = Value.bool true from rv)
      refine ⟨rfl, OldK.of_keep ?_, os, bare⟩
      intro b ob g
      cases gb : G b with
      | none => exact un.keep b ob g gb (fun z => (List.not_mem_nil z).elim) (by simp)
      | some u2 =>
        obtain ⟨_, _, u3, xs, z⟩ := only b (some_of gb)
        obtain ⟨g1, _⟩ := good b _ z
        obtain ⟨g2, _⟩ := good2 b _ (un.frzs b u3 _ z)
        rw [g] at g1
        cases g1
        exact g2
  by_cases hk : K.lookup scr = none
  · refine main (fun b => if b = scr then some (.frz { cls := .type "list", data := .seq us.toArray } (.lst (cells.map V.int))) else none) ?_ ?_ ?_
    · intro b no
      by_cases e : b = scr
      · exact ⟨e, hk, _, _, if_pos e⟩
      · exact (no (if_neg e)).elim
    · exact Or.inl (Or.inr ⟨_, if_pos rfl⟩)
    · intro b u g
      by_cases e : b = scr
      · subst e
        have g' := (if_pos rfl).symm.trans g
        cases g'
        exact ⟨at_, by rw [List.length_map]; exact few, us, _, rel, at_⟩
      · have g' := (if_neg e).symm.trans g
        cases g'
  · obtain ⟨ob, hob⟩ := Option.ne_none_iff_exists'.mp hk
    have g := inK scr ob hob
    rw [at_] at g
    cases g
    refine main (fun _ => none) (fun b no => (no rfl).elim) (Or.inr ?_) (fun b u z => nomatch z)
    exact ⟨_, us.toArray, _, hob, rfl, rfl, rfl, by rw [List.size_toArray, size]; exact few, by simpa using rel⟩
theorem walk_G {l : PySem.W.OpenLaw} {most n : Nat} {q : Program} {loose : List Str} {XP : (Str → Option Value) → Heap → Prop} {YP : World → Heap → Prop} {d : DefRec} {K : Params → PySem.W.Frag} {sp : World → Sp} {pn : Str}
    (h1 : l.most = some most) (h2 : most ≤ sizeLine) (h3 : d.params.defaults = []) (room : Room n callerA) (inK : ∀ (w : World) (h : Heap), YP w h → (K w.params).In h)
    (o : ∀ (w : World) (mg : Str → Option Value) (fa : Addr) (h : Heap), (K w.params).In h → h.Ns mainGlobals mg → mg d.name = some (.ref fa) →
      ∃ rec : FuncData, (∀ (s : Shared) (u : Value), BindsTo s rec ⟨[u], []⟩ [(pn, u)]) ∧ ∀ base : Heap, (K w.params).In base → base.Ns mainGlobals mg → FnG l.prog w (K w.params) mg base CX0 n fa rec [pn] (sp w))
    (want : ∀ (w : World) (G : Hp) (a : Addr) (ns : List Int), ns.length ≤ most → SqL (K w.params) G a (ns.map V.int) → sp w [.ref a] G (fun v _ => v = .bl true) fun _ _ _ => False) :
    PySem.W.WalkO q loose XP YP l.row.toRowW d [] (fun f vs => PySem.call f vs) := by
  apply Att.attach_call h1 h3
  intro w s0 s1 mg bt fa ob pm cd doc a us ns ground yp ho hd hcd hmg hobj hints hlen hg
  have kin := inK w _ yp
  obtain ⟨rec, bnd, ok⟩ := o w mg fa _ kin ground.T.g hmg
  exact law_endG kin ground.T.g ground.T.b ground.T.builtins ground.T.nolimit hg hobj hints (Nat.le_trans hlen h2) room ok bnd fun G hS => want w G a ns hlen hS
end
end SL

namespace SL
open PySem PySem.Spec PyProof.Rows L2 Evl
/-! ### lists put together, wherever they stand; calls by keywords alone -/
def rCatQ (K : PySem.W.Frag) : R2 := fun x y H Q => ∃ l b xs zs, x = .ref l ∧ y = .ref b ∧ SqL K H l xs ∧ SqL K H b zs ∧ xs.length + zs.length ≤ sizeLine ∧ ∀ p, H p = none → Q (.ref p) (upd H p (.lst (xs ++ zs)))
def rot {α : Type} (is : List Nat) (l : List α) : List α := is.filterMap fun i => l[i]?
def tCallK0 (n : Nat) (is : List Nat) (sp : Sp) (E : XK) (tk : TA) : TE := fun σ H Q => tk σ H fun zs H1 => zs.length = n ∧ sp (rot is zs) H1 Q E
section
variable {X : Cx}
theorem op_catQ : OpR X (binaryOp .Add) (rCatQ X.K) := by
  intro pins st ss G x y v u R I rx ry h
  obtain ⟨l, b, xs, zs, rfl, rfl, hl, hb, hz, go⟩ := h
  cases (show v = Value.ref l from rx)
  cases (show u = Value.ref b from ry)
  obtain ⟨i1, r1, p1, z1⟩ := I.list hl
  obtain ⟨i2, r2, p2, z2⟩ := I.list hb
  obtain ⟨o1, n1, g1, c1, d1, a1⟩ := p1
  obtain ⟨o2, n2, g2, c2, d2, a2⟩ := p2
  have y1 := r1.length
  have y2 := r2.length
  have j : i1.toArray ++ i2.toArray = (i1 ++ i2).toArray := by simp
  obtain ⟨k1, k2, k3, k4⟩ := o1
  obtain ⟨l1, l2, l3, l4⟩ := o2
  simp only at c1 a1 c2 a2
  subst c1 a1 c2 a2
  refine concat_meets (T := "list") ⟨_, g1, rfl⟩ ⟨_, g2, rfl⟩ noFill_list_add seq_list_add PySem.F.slot_list_add PySem.F.entry_list_add (PySem.F.args_list_add_2 _ _) (list_addW l b i1.toArray i2.toArray n1 n2 k2 l2 k4 l4 (by simpa using (by omega : i1.length + i2.length ≤ sizeLine))) ⟨g1, g2, ?_⟩
  rw [j]
  exact ⟨.ref _, _, I.lnew (t' := st.toks) (r1.append r2) (by rw [List.length_append]; exact hz), rfl, go _ I.fresh⟩
theorem Vals.rot {xs : List V} {us : List Value} (r : Vals xs us) : ∀ is : List Nat, Vals (SL.rot is xs) (SL.rot is us)
  | [] => .nil
  | i :: is => by
    have ih := Vals.rot r is
    unfold SL.rot at ih ⊢
    cases h : xs[i]? with
    | none =>
      have h' := r.none_of h
      rw [List.filterMap_cons, List.filterMap_cons, h, h']
      exact ih
    | some x =>
      obtain ⟨u, h', ru⟩ := r.get h
      rw [List.filterMap_cons, List.filterMap_cons, h, h']
      exact .cons ru ih
/-- keywords alone: each parameter by its place among them -/
def KwB (rec : FuncData) (ps ks : List Str) (is : List Nat) : Prop := ∀ (s : Shared) (ws : List Value), ws.length = ks.length → BindsTo s rec ⟨[], ks.zip ws⟩ (ps.zip (rot is ws))
theorem kwB_of {K : PySem.W.Frag} {nm ql : Str} {tx : Stmt} {fa : Addr} {rec : FuncData} {ps ks : List Str} {is : List Nat} (o : Fun K nm ql tx fa rec)
    (h : ∀ (kV doc pm : Value) (an : Option Addr) (cdv ct : Value) (ws : List Value), ws.length = ks.length → bindArgs (PySem.W.fnOf nm ql (defArgs tx) (defBody tx) (defScope tx) .none kV doc pm an cdv ct) ⟨[], ks.zip ws⟩ = pure (ps.zip (rot is ws))) : KwB rec ps ks is := by
  obtain ⟨c1, c2, c3, c4, c5, c6, cv, c8, c9, er, there, ccode⟩ := o.ex
  subst er
  exact fun s ws hl => .of_eq (h _ _ _ _ _ _ ws hl)
theorem pe_callK0 {CX : CXT} {n : Nat} {fa : Addr} {rec : FuncData} {par ks : List Str} {sp : Sp} {W : XK} {nm : Str} {p pos : Pos} {kws : List Keyword} {tk : TA} {rs : List Nat} (o : FnOk X.prog X.w X.K X.mg X.base CX n fa rec par sp) (room : Room n X.A) (glob : Gl X nm) (at_ : X.mg nm = some (.ref fa)) (kept : PySem.W.keepIn X.K (.ref fa) = true)
    (bnd : KwB rec par ks rs) (pass : Passes CX X W) (hkw : PK X kws tk) (hall : (backToKw pos (keywordEach kws X.env)).all (·.1.isSome) = true := by rfl) (hks : (backToKw pos (keywordEach kws X.env)).filterMap (·.1) = ks := by rfl) (notD : (nm == ("__debug__" : Str)) = false := by decide)
    (plain : ((backTo pos (starEach [] X.env)).any (·.1) || (backToKw pos (keywordEach kws X.env)).any (·.1.isNone)) = false := by rfl) : PE X (.Call (.Name nm p) [] kws pos) (tCallK0 ks.length rs sp W tk) := by
  constructor
  intro pins st ss G R I want
  apply wpAny_Call_Name_kw (ld_glob I glob at_ _ notD)
  apply PySem.W.callWith_KW0 (h₀ := X.base) I.ok.mod.kin kept hall (thn (hkw.run pos pins st ss G _ I want) _) plain
  rintro ws st1 ⟨zs, G1, I1, rel, hn, go⟩
  refine ⟨I1.kIn, ?_⟩
  rw [hks]
  have hw : ws.length = ks.length := rel.length.symm.trans hn
  apply wpAny_call
  apply codeAny_mono (o.run X.A X.stack st1 G1 ⟨[], ks.zip ws⟩ (rot rs ws) (rot rs zs) _ _ room I1.env0 (bnd st1 ws hw) (Vals.rot rel rs) go)
  intro res st2 hres
  match res, hres with
  | .error ex, hres => exact pass pins ss G1 st1 ex st2 I1 hres
  | .ok (.ret u), hres => exact I1.after hres
  | .ok .next, hres => exact False.elim hres
  | .ok .brk, hres => exact False.elim hres
  | .ok .cont, hres => exact False.elim hres
end
end SL
namespace HT
open PySem PySem.Spec PyProof.Rows
section
variable {prog : Program} {w : World} {A : Around} {s : Shared} {E : Value → Shared → Prop}
theorem sliceApplied_rev2 {sl : Addr} {vl vu vs : Value} {Q : Int × Int × Nat → Shared → Prop} (hs : s.heap.IsSliceOf sl vl vu vs) (pl : IsPart vl none) (pu : IsPart vu none) (ps : IsPart vs (some (-1)))
    (h : Q ((1 : Int), (-1 : Int), 2) s) : wpAny (model prog w) A (Builtin.Slice.sliceApplied (.ref sl) (pure (2 : Int))) Q E s := by
  obtain ⟨os, hos, hcs, hds⟩ := id hs
  unfold Builtin.Slice.sliceApplied Builtin.Slice.sliceFields
  refine wpAny_bind (wpAny_bind (wpAny_field hos hds (x := vl) rfl (wpAny_bind (wpAny_field hos hds (x := vu) rfl (wpAny_bind (wpAny_field hos hds (x := vs) rfl (wpAny_pure ?_)))))))
  refine wpAny_bind (slicePart_ ps ?_)
  show wpAny _ _ (if ((-1 : Int) == 0) = true then _ else _) _ _ s
  rw [if_neg (by decide)]
  refine wpAny_bind (slicePart_ pl (wpAny_bind (slicePart_ pu (wpAny_bind (wpAny_pure ?_)))))
  show wpAny _ _ (match Builtin.Slice.sliceAdjust none none (-1) (2 : Int) with | (lo, hi) => pure (lo, (-1 : Int), Builtin.Slice.slicePlaces lo hi (-1))) _ _ s
  exact wpAny_pure h
theorem getItem_tuple_rev2 {t sl : Addr} {i0 i1 : Value} {vl vu vs : Value} {Q : Value → Shared → Prop} (ht : IsTup s.heap t #[i0, i1]) (hs : s.heap.IsSliceOf sl vl vu vs) (pl : IsPart vl none) (pu : IsPart vu none) (ps : IsPart vs (some (-1)))
    (h : Q (.ref s.heap.objs.size) { s with heap := s.heap.push { cls := .type "tuple", data := .seq #[i1, i0] } }) : wpAny (model prog w) A (getItem (.ref t) (.ref sl)) Q E s := by
  have htake : sizeOk (.seq #[i1, i0]) := by
    show 2 ≤ sizeLine
    decide
  obtain ⟨os, hos, hcs, hds⟩ := id hs
  have hTs : s.TypeIs (.ref sl) "slice" := ⟨os, hos, hcs⟩
  unfold getItem
  try with_reducible refine wpAny_holding ?_
  first | refine wpAny_bind (wpAny_pure ?_) | skip
  refine wpAny_bind (wpAny_sequenceKey ht.typeIs (by decide) ?_)
  refine wpAny_bind (wpAny_callSpecial?_slot (name := Str.ofString "__getitem__") ht.typeIs PyProof.Rows.slot_tuple_getitem
    (wpAny_call_entry PyProof.Rows.slot_tuple_getitem ht.typeIs entry_tuple_getitem ?_ (args_tuple_getitem _ _)))
  show wpAny _ _ (Builtin.Tuple.tupleItemsOf (.ref t) >>= _) _ _ s
  refine wpAny_bind (tupleItemsOf_ ht ?_)
  refine wpAny_bind (wpAny_typeOf hTs ?_)
  rw [if_pos (by decide)]
  refine wpAny_bind (sliceApplied_rev2 hs pl pu ps ?_)
  show wpAny _ _ (if (((1 : Int)) == 0 && (-1 : Int) == 1 && 2 == 2) = true then _ else _) _ _ s
  rw [if_neg (by decide)]
  show wpAny _ _ (Builtin.Tuple.tupleExact #[i1, i0] >>= _) _ _ s
  first
    | exact wpAny_bind (m := Builtin.Tuple.tupleExact _) (wpAny_newObj_type (wpAny_pure ⟨_, rfl, wpAny_pure h⟩) htake)
    | exact wpAny_bind (m := Builtin.Tuple.tupleExact _) (wpAny_newObj_type (wpAny_bind (wpAny_pure (wpAny_pure ⟨_, rfl, wpAny_pure h⟩))) htake)
    | exact wpAny_bind (wpAny_bind (m := Builtin.Tuple.tupleExact _) (wpAny_newObj_type (wpAny_pure (wpAny_pure ⟨_, rfl, wpAny_pure h⟩)) htake))
    | exact wpAny_bind (wpAny_bind (m := Builtin.Tuple.tupleExact _) (wpAny_newObj_type (wpAny_pure ⟨_, rfl, wpAny_pure h⟩) htake))
end
end HT
namespace SL
open PySem PySem.Spec PyProof.Rows L2 Evl
/-! ### (x, y)[::-1] -/
def tRevT (K : PySem.W.Frag) (te : TE) : TE := fun σ H Q => te σ H fun x H1 => ∃ a u v, x = .ref a ∧ SqT K H1 a [u, v] ∧ ∀ p, H1 p = none → Q (.ref p) (upd H1 p (.tup [v, u]))
section
variable {X : Cx}
theorem pe_revT {e : Expr} {te : TE} {k : Nat} {p1 p2 p3 pos : Pos} (he : PE X e te) : PE X (.Subscript e (.Slice none none (some (.UnaryOp .USub (.Constant (.int 1) k p1) p2)) p3) pos) (tRevT X.K te) := by
  refine ⟨fun pins s σ H Q I h => ?_⟩
  refine Subscript_ (thn (he.run pins s σ H _ I h) fun v s1 ⟨x, H1, I1, r1, q1⟩ => ?_)
  obtain ⟨a, x0, x1, ex, hx, q⟩ := q1
  subst ex
  cases r1
  have hst : PO X (some (.UnaryOp .USub (.Constant (.int 1) k p1) p2)) (tPart (tUn (rU fun i => .int (-i)) (tC (.int 1)))) := po_some (pe_un un_neg pe_int)
  refine wpAny_Slice (thn (po_none.run pins s1 σ H1 (fun o H2 => o = none ∧ H2 = H1) I1 ⟨rfl, rfl⟩) fun vl s2 ⟨l, H2, I2, pl, el, e2⟩ => ?_)
  subst el e2
  refine thn (po_none.run pins s2 σ H2 (fun o H3 => o = none ∧ H3 = H2) I2 ⟨rfl, rfl⟩) fun vu s3 ⟨u, H3, I3, pu, eu, e3⟩ => ?_
  subst eu e3
  refine thn (hst.run pins s3 σ H3 (fun o H4 => o = some (-1) ∧ H4 = H3) I3 ⟨1, rfl, -1, rfl, rfl, rfl⟩) fun vs s4 ⟨o, H4, I4, ps, eo, e4⟩ => ?_
  subst eo e4
  have I5 : Inv X pins σ H4 { s4 with heap := s4.heap.push { cls := .type "slice", data := .fields #[vl, vu, vs] } } := I4.kept (t' := s4.toks) fun b ob q => Heap.get?_push_of_some _ q
  obtain ⟨its, r, ht, hz⟩ := I5.tuple hx
  cases r with
  | @cons _ u0 _ _ r0 rr =>
    cases rr with
    | @cons _ u1 _ _ r1 rn =>
      cases rn
      show wpAny (model X.prog X.w) X.A (subscriptTail e (.Slice none none (some (.UnaryOp .USub (.Constant (.int 1) k p1) p2)) p3) (.ref a) (.ref s4.heap.objs.size)) (EP X pins σ Q) X.xe { s4 with heap := s4.heap.push { cls := .type "slice", data := .fields #[vl, vu, vs] } }
      refine tail_any (ops := [.ref a, .ref s4.heap.objs.size]) ht.typeIs PyProof.Rows.slot_tuple_getitem.lookup ?_ (by with_unfolding_all rfl)
      refine HT.getItem_tuple_rev2 ht (Heap.IsSliceOf.new _ vl vu vs) pl pu ps ?_
      refine ⟨.ref _, _, I5.laid (t' := s4.toks) (o := .tup [x1, x0]) (fun b ob q => Heap.get?_push_of_some _ q) (Nat.le_refl _) ?_, rfl, q _ (I5.hok.fresh (Nat.le_refl _))⟩
      exact ⟨by show 2 ≤ sizeLine; decide, _, .cons r1 (.cons r0 .nil), IsTup.new _ _⟩
end
end SL

/-! repr of data whose numbers have up to 4300 digits, where no other limit of digits has been set -/
namespace SL
open PySem PySem.Spec PyProof.Rows L2
/-- this data's numbers may be shown: they have at most 4300 digits -/
abbrev tenB : Nat := 10 ^ 4300
mutual
def okB : PyData → Prop
  | .none | .bool _ | .str _ => True
  | .int i => i.natAbs < tenB
  | .list xs | .tuple xs => okBs xs
  | .dict kvs => ∃ l : List (Int × Int), kvs = l.map (fun p => (PyData.int p.1, PyData.int p.2)) ∧ ∀ p ∈ l, p.1.natAbs < tenB ∧ p.2.natAbs < tenB
def okBs : List PyData → Prop
  | [] => True
  | x :: xs => okB x ∧ okBs xs
end
theorem okBs_of : ∀ xs : List PyData, (∀ x ∈ xs, okB x) → okBs xs
  | [], _ => by simp only [okBs]
  | x :: xs, h => by simp only [okBs]; exact ⟨h x (by simp), okBs_of xs fun y hy => h y (by simp [hy])⟩
theorem gives_int_B {a : Int} {t : Tok} (h : a.natAbs < tenB) : GivesAt (fun s => s.heap.NoDigits) (Builtin.«int.__repr__» ⟨[.int a t], []⟩) (.str (toString a)) := by
  intro prog w A R s hn hq
  unfold Builtin.«int.__repr__»
  show wpAny _ _ (do let r ← Builtin.overDigitLimit? a; _) _ _ s
  refine wpAny_bind (overDigitLimit_any hn (fun _ => ?_) (fun hge => absurd h (Nat.not_lt.mpr hge)))
  exact wpAny_bind (wpAny_mkStr (wpAny_pure hq.2) (int_text_fits10 h))
section
variable {prog : Program} {w : World} {A : Around} {E : Value → Shared → Prop} {s : Shared}
theorem reprObj_intB {a : Int} {t : Tok} {Q : Value → Shared → Prop} (hn : s.heap.NoDigits) (ha : a.natAbs < tenB) (h : Q (.str (toString a) s.toks) { s with toks := s.toks + 1 }) :
    wpAny (model prog w) A (pyReprObj (.int a t)) Q E s := by
  unfold pyReprObj
  have hv : [Value.int a t].any Value.onHeap = false := rfl
  simp only [cRoomFor, hv, Bool.false_eq_true, if_false, pure_bind]
  refine wpAny_bind (wpAny_specialOf (name := Str.ofString "__repr__") (typeIs_int s a t) F.slot_int_repr.lookup ?_)
  refine wpAny_bind (m := callSpecialIfBound? (.int a t) (Str.ofString "__repr__")) (wpAny_callSpecialIfBound?_slot (name := Str.ofString "__repr__") (typeIs_int s a t) F.slot_int_repr
    (call_givesAt F.slot_int_repr (typeIs_int s a t) F.entry_int_repr (F.args_int_repr_1 _) (gives_int_B ha) hn ⟨int_text_fits10 ha, ?_⟩))
  exact wpAny_bind (wpAny_isInstance (T := "str") (b := true) rfl isSubtype_str_str (wpAny_pure h))
theorem repr_intB {a : Int} {t : Tok} {Q : Value → Shared → Prop} (hn : s.heap.NoDigits) (ha : a.natAbs < tenB) (h : Q (.str (toString a) s.toks) { s with toks := s.toks + 1 }) :
    wpAny (model prog w) A (call (.builtin "repr") [.int a t]) Q E s := by
  refine Calls.call_function_entry F.kind_repr F.plain_repr F.entry_repr (F.args_repr1 _) ?_
  unfold Builtin.«repr»
  refine wpAny_bind (m := oneArg "repr" _) (wpAny_pure ?_)
  have hv : [Value.int a t].any Value.onHeap = false := rfl
  simp only [cRoomFor, hv, Bool.false_eq_true, if_false, pure_bind]
  refine wpAny_bind (wpAny_specialOf (name := Str.ofString "__repr__") (typeIs_int s a t) F.slot_int_repr.lookup ?_)
  refine wpAny_bind (m := callSpecialIfBound? (.int a t) (Str.ofString "__repr__")) (wpAny_callSpecialIfBound?_slot (name := Str.ofString "__repr__") (typeIs_int s a t) F.slot_int_repr
    (call_givesAt F.slot_int_repr (typeIs_int s a t) F.entry_int_repr (F.args_int_repr_1 _) (gives_int_B ha) hn ⟨int_text_fits10 ha, ?_⟩))
  refine wpAny_bind (wpAny_isInstance (T := "str") (b := true) rfl isSubtype_str_str ?_)
  exact wpAny_pure ⟨_, rfl, h⟩
end
section
variable {prog : Program} {w : World} {h₀ : Heap}
theorem repr_under_intB {a : Int} {t : Tok} (hn : h₀.NoDigits) (ha : a.natAbs < tenB) (as : List Addr) (d : Nat) : ReprK prog w as h₀ d (.int a t) (toString a) :=
  fun base hb A g E s Q hg hcl hu hk hQ => by
    rw [pyReprUnder_leaf (v := .int a t) (by omega) (fun _ e => nomatch e)]
    unfold pyRepr
    exact wpAny_bind (reprObj_intB (hn.keeps hk) ha (wpAny_pure (hQ s.heap _ fun _ _ e => e)))
mutual
/-- data as it stands, empty dicts among them -/
inductive RdB (h : Heap) : Value → PyData → Prop
  | none : RdB h .none .none
  | bool (b : Bool) : RdB h (.bool b) (.bool b)
  | int (i : Int) (t : Tok) : RdB h (.int i t) (.int i)
  | str (x : Str) (t : Tok) : RdB h (.str x t) (.str x)
  | list {a : Addr} {o : Obj} {vs : Array Value} {n : Nat} {xs : List PyData} : h.get? a = some o → o.cls = .type "list" → o.data = .seq vs n → RdBs h vs.toList xs → RdB h (.ref a) (.list xs)
  | tuple {a : Addr} {o : Obj} {vs : Array Value} {n : Nat} {xs : List PyData} : h.get? a = some o → o.cls = .type "tuple" → o.data = .seq vs n → RdBs h vs.toList xs → RdB h (.ref a) (.tuple xs)
  | dct {a : Addr} {o : Obj} {es : Array DictEntry} {n : Nat} {kvs : List (PyData × PyData)} : h.get? a = some o → o.cls = .type "dict" → o.data = .dict es n → (a == sysModules) = false → RdBs h (es.toList.map (·.key)) (kvs.map (·.1)) → RdBs h (es.toList.map (·.val)) (kvs.map (·.2)) → RdB h (.ref a) (.dict kvs)
inductive RdBs (h : Heap) : List Value → List PyData → Prop
  | nil : RdBs h [] []
  | cons {v : Value} {vs : List Value} {d : PyData} {ds : List PyData} : RdB h v d → RdBs h vs ds → RdBs h (v :: vs) (d :: ds)
end
mutual
theorem RdB.reads : ∀ {v : Value} {d : PyData}, RdB h₀ v d → ∃ as, Reads h₀ v d as
  | _, _, .none => ⟨_, .none⟩
  | _, _, .bool b => ⟨_, .bool b⟩
  | _, _, .int i t => ⟨_, .int i t⟩
  | _, _, .str x t => ⟨_, .str x t⟩
  | _, _, .list h1 h2 h3 h4 => let ⟨_, r⟩ := RdBs.reads h4; ⟨_, .list h1 h2 h3 r⟩
  | _, _, .tuple h1 h2 h3 h4 => let ⟨_, r⟩ := RdBs.reads h4; ⟨_, .tuple h1 h2 h3 r⟩
  | _, _, .dct h1 h2 h3 _ h5 h6 => let ⟨_, r⟩ := RdBs.reads h5; let ⟨_, q⟩ := RdBs.reads h6; ⟨_, .dict h1 h2 h3 r q⟩
theorem RdBs.reads : ∀ {v : List Value} {d : List PyData}, RdBs h₀ v d → ∃ as, ReadsAll h₀ v d as
  | _, _, .nil => ⟨_, .nil⟩
  | _, _, .cons a b => let ⟨_, r⟩ := RdB.reads a; let ⟨_, q⟩ := RdBs.reads b; ⟨_, .cons r q⟩
end
theorem okB_dict {kvs : List (PyData × PyData)} (h : okB (.dict kvs)) : okBs (kvs.map (·.1)) ∧ okBs (kvs.map (·.2)) := by
  simp only [okB] at h
  obtain ⟨l, rfl, hl⟩ := h
  constructor
  · refine okBs_of _ fun x hx => ?_
    simp only [List.map_map, List.mem_map] at hx
    obtain ⟨p, hp, rfl⟩ := hx
    simp only [Function.comp, okB]; exact (hl p hp).1
  · refine okBs_of _ fun x hx => ?_
    simp only [List.map_map, List.mem_map] at hx
    obtain ⟨p, hp, rfl⟩ := hx
    simp only [Function.comp, okB]; exact (hl p hp).2
theorem dictText_nil : dictText [] = "{}" := by decide +kernel
mutual
theorem under_B (hn : h₀.NoDigits) : ∀ {v : Value} {d : PyData}, RdB h₀ v d → okB d → d.shown.length ≤ sizeLine → ∃ bs, ReadAtMost h₀ d.depth bs ∧ ReprK prog w bs h₀ d.depth v d.shown
  | _, _, .none, _, _ => ⟨[], (fun _ h => nomatch h), by simp only [PyData.shown]; exact .of_is ReprIs.none _ _ _⟩
  | _, _, .bool b, _, _ => ⟨[], (fun _ h => nomatch h), by simp only [PyData.shown]; exact .of_is (ReprIs.bool b) _ _ _⟩
  | _, _, .int i t, hs, _ => ⟨[], (fun _ h => nomatch h), by simp only [PyData.shown]; exact repr_under_intB hn (by simpa only [okB] using hs) _ _⟩
  | _, _, .str x t, _, hz => ⟨[], (fun _ h => nomatch h), by simp only [PyData.shown]; exact .of_is (ReprIs.str x t (by simpa only [PyData.shown] using hz)) _ _ _⟩
  | _, _, .list (a := a) (vs := vs) (xs := xs) h1 h2 h3 h4, hs, hz => by
    have hz' : (listText (PyData.shownAll xs)).length ≤ sizeLine := by simpa only [PyData.shown] using hz
    obtain ⟨bs, hb, hk⟩ := unders_B hn h4 (by simpa only [okB] using hs) (fun t ht => Nat.le_trans (listText_mem_le ht) hz')
    obtain ⟨as, rd⟩ := h4.reads
    have free : a ∉ bs := not_mem_of_deeper (.list h1 h2 h3 rd) (by simp only [PyData.depth]; omega) hb
    refine ⟨a :: bs, ReadAtMost.cons (.list h1 h2 h3 rd) (by simp only [PyData.depth]; omega) hb, ?_⟩
    simp only [PyData.depth, PyData.shown]
    obtain ⟨l⟩ := vs
    cases l with
    | nil =>
      have e : RdBs h₀ [] xs := h4
      cases e
      simp only [PyData.shownAll, listText_nil]
      exact ReprK.listEmpty h1 h2 h3
    | cons x l => exact ReprK.list h1 h2 h3 free (by simpa using hk.length_eq) (fun i y e => hk.item i y (by simpa using e))
  | _, _, .tuple (a := a) (xs := xs) h1 h2 h3 h4, hs, hz => by
    have hz' : (tupleText (PyData.shownAll xs)).length ≤ sizeLine := by simpa only [PyData.shown] using hz
    obtain ⟨bs, hb, hk⟩ := unders_B hn h4 (by simpa only [okB] using hs) (fun t ht => Nat.le_trans (tupleText_mem_le ht) hz')
    obtain ⟨as, rd⟩ := h4.reads
    have free : a ∉ bs := not_mem_of_deeper (.tuple h1 h2 h3 rd) (by simp only [PyData.depth]; omega) hb
    refine ⟨a :: bs, ReadAtMost.cons (.tuple h1 h2 h3 rd) (by simp only [PyData.depth]; omega) hb, ?_⟩
    simp only [PyData.depth, PyData.shown]
    exact ReprK.tuple h1 h2 h3 free hk
  | _, _, .dct (a := a) (es := es) (kvs := kvs) h1 h2 h3 h4 h5 h6, hs, hz => by
    have big : (dictText (PyData.shownKv kvs)).length ≤ sizeLine := by simpa only [PyData.shown] using hz
    obtain ⟨o1, o2⟩ := okB_dict hs
    obtain ⟨b1, m1, k1⟩ := unders_B hn h5 o1 (fun t ht => let ⟨p, hp, hl⟩ := PyData.shownKv_key_le kvs t ht; Nat.le_trans hl (Nat.le_trans (dictText_mem_le hp) big))
    obtain ⟨b2, m2, k2⟩ := unders_B hn h6 o2 (fun t ht => let ⟨p, hp, hl⟩ := PyData.shownKv_val_le kvs t ht; Nat.le_trans hl (Nat.le_trans (dictText_mem_le hp) big))
    obtain ⟨as, rd⟩ := RdB.reads (.dct h1 h2 h3 h4 h5 h6)
    have both : ReadAtMost h₀ (PyData.depthKv kvs) (b1 ++ b2) := (m1.mono (PyData.depthAll_keys_le kvs)).append (m2.mono (PyData.depthAll_vals_le kvs))
    have free : a ∉ b1 ++ b2 := not_mem_of_deeper rd (by simp only [PyData.depth]; omega) both
    refine ⟨a :: (b1 ++ b2), ReadAtMost.cons rd (by simp only [PyData.depth]; omega) both, ?_⟩
    simp only [PyData.depth, PyData.shown, PyData.shownKv_eq]
    exact ReprK.dict h1 h2 h3 h4 free (ReprEntriesK.of_two es.toList _ _ (k1.more_le (fun b hb => List.mem_append_left _ hb) (PyData.depthAll_keys_le kvs)) (k2.more_le (fun b hb => List.mem_append_right _ hb) (PyData.depthAll_vals_le kvs)))
theorem unders_B (hn : h₀.NoDigits) : ∀ {vs : List Value} {ds : List PyData}, RdBs h₀ vs ds → okBs ds → (∀ t ∈ PyData.shownAll ds, t.length ≤ sizeLine) →
    ∃ bs, ReadAtMost h₀ (PyData.depthAll ds) bs ∧ ReprAllK prog w bs h₀ (PyData.depthAll ds) vs (PyData.shownAll ds)
  | _, _, .nil, _, _ => ⟨[], (fun _ h => nomatch h), by simp only [PyData.shownAll]; exact .nil⟩
  | _, _, .cons (d := d) (ds := ds) r rs, hs, hz => by
    have hs' : okB d ∧ okBs ds := by simpa only [okBs] using hs
    obtain ⟨b1, hb1, k1⟩ := under_B hn r hs'.1 (hz _ (by simp only [PyData.shownAll]; exact List.mem_cons_self ..))
    obtain ⟨b2, hb2, k2⟩ := unders_B hn rs hs'.2 (fun t ht => hz t (by simp only [PyData.shownAll]; exact List.mem_cons_of_mem _ ht))
    simp only [PyData.depthAll, PyData.shownAll]
    exact ⟨b1 ++ b2, (hb1.mono (Nat.le_max_left _ _)).append (hb2.mono (Nat.le_max_right _ _)),
      .cons ((k1.more fun b hb => List.mem_append_left _ hb).level_le (Nat.le_max_left _ _)) (k2.more_le (fun b hb => List.mem_append_right _ hb) (Nat.le_max_right _ _))⟩
end
theorem repr_refB {a : Addr} {d : PyData} {A : Around} {E : Value → Shared → Prop} {s : Shared} {Q : Value → Shared → Prop} (hn : h₀.NoDigits) (r : RdB h₀ (.ref a) d) (hs : okB d) (hg : A.guards = some [])
    (hu : A.units + (d.depth + 1) < cLine) (hk0 : ∀ b o, h₀.get? b = some o → s.heap.get? b = some o)
    (hQ : ∀ h' u tk, (∀ b o, s.heap.get? b = some o → h'.get? b = some o) → Q (.str d.shown u) { s with heap := h', toks := tk })
    (hz : d.shown.length ≤ sizeLine) : wpAny (model prog w) A (call (.builtin "repr") [.ref a]) Q E s := by
  cases r with
  | list h1 h2 h3 h4 =>
    rename_i o vs n xs
    have hz' : (listText (PyData.shownAll xs)).length ≤ sizeLine := by simpa only [PyData.shown] using hz
    obtain ⟨bs, hb, hk⟩ := unders_B (prog := prog) (w := w) hn h4 (by simpa only [okB] using hs) (fun t ht => Nat.le_trans (listText_mem_le ht) hz')
    obtain ⟨as, rd⟩ := h4.reads
    have free : a ∉ bs := not_mem_of_deeper (.list h1 h2 h3 rd) (by simp only [PyData.depth]; omega) hb
    simp only [PyData.depth] at hu
    simp only [PyData.shown] at hQ
    refine call_repr_slot (by omega) (⟨o, hk0 _ _ h1, h2⟩ : s.TypeIs (.ref a) "list") F.slot_list_repr.toG ?_
    obtain ⟨l⟩ := vs
    cases l with
    | nil =>
      have e : RdBs h₀ [] xs := h4
      cases e
      simp only [PyData.shownAll, listText_nil] at hQ
      exact call_list_repr_empty ⟨o, hk0 _ _ h1, h2⟩ (hk0 _ _ h1) h3 ⟨_, _, rfl, hQ s.heap _ _ fun _ _ e => e⟩
    | cons x l =>
      exact call_list_reprK h1 h2 h3 free (by simpa using hk.length_eq) (fun i y e => hk.item i y (by simpa using e)) hg (fun b _ => Clear.nil b) (by show A.units + 1 + _ < cLine; omega) hk0 (fun h' u tk hk => ⟨_, _, rfl, hQ h' u tk hk⟩) hz'
  | tuple h1 h2 h3 h4 =>
    rename_i o vs n xs
    have hz' : (tupleText (PyData.shownAll xs)).length ≤ sizeLine := by simpa only [PyData.shown] using hz
    obtain ⟨bs, hb, hk⟩ := unders_B (prog := prog) (w := w) hn h4 (by simpa only [okB] using hs) (fun t ht => Nat.le_trans (tupleText_mem_le ht) hz')
    obtain ⟨as, rd⟩ := h4.reads
    have free : a ∉ bs := not_mem_of_deeper (.tuple h1 h2 h3 rd) (by simp only [PyData.depth]; omega) hb
    simp only [PyData.depth] at hu
    simp only [PyData.shown] at hQ
    refine call_repr_slot (by omega) (⟨o, hk0 _ _ h1, h2⟩ : s.TypeIs (.ref a) "tuple") F.slot_tuple_repr ?_
    exact call_tuple_reprK h1 h2 h3 free hk hg (fun b _ => Clear.nil b) (by show A.units + 1 + _ < cLine; omega) hk0 (fun h' u tk hk => ⟨_, _, rfl, hQ h' u tk hk⟩) hz'
  | dct h1 h2 h3 h4 h5 h6 =>
    rename_i o es n kvs
    have big : (dictText (PyData.shownKv kvs)).length ≤ sizeLine := by simpa only [PyData.shown] using hz
    obtain ⟨o1, o2⟩ := okB_dict hs
    obtain ⟨b1, m1, k1⟩ := unders_B (prog := prog) (w := w) hn h5 o1 (fun t ht => let ⟨p, hp, hl⟩ := PyData.shownKv_key_le kvs t ht; Nat.le_trans hl (Nat.le_trans (dictText_mem_le hp) big))
    obtain ⟨b2, m2, k2⟩ := unders_B (prog := prog) (w := w) hn h6 o2 (fun t ht => let ⟨p, hp, hl⟩ := PyData.shownKv_val_le kvs t ht; Nat.le_trans hl (Nat.le_trans (dictText_mem_le hp) big))
    obtain ⟨as, rd⟩ := RdB.reads (.dct h1 h2 h3 h4 h5 h6)
    have both : ReadAtMost h₀ (PyData.depthKv kvs) (b1 ++ b2) := (m1.mono (PyData.depthAll_keys_le kvs)).append (m2.mono (PyData.depthAll_vals_le kvs))
    have free : a ∉ b1 ++ b2 := not_mem_of_deeper rd (by simp only [PyData.depth]; omega) both
    simp only [PyData.depth] at hu
    simp only [PyData.shown, PyData.shownKv_eq] at hQ
    refine call_repr_slot (by omega) (⟨o, hk0 _ _ h1, h2⟩ : s.TypeIs (.ref a) "dict") F.slot_dict_repr ?_
    exact call_dict_reprK h1 h2 h3 h4 free (ReprEntriesK.of_two es.toList _ _ (k1.more_le (fun b hb => List.mem_append_left _ hb) (PyData.depthAll_keys_le kvs)) (k2.more_le (fun b hb => List.mem_append_right _ hb) (PyData.depthAll_vals_le kvs))) hg (fun b _ => Clear.nil b) (by show A.units + 1 + _ < cLine; omega) hk0 (fun h' u tk hk => ⟨_, _, rfl, hQ h' u tk hk⟩) (by rw [← PyData.shownKv_eq]; exact big)
end
/-! data, empty dicts among them, in the tracked heap -/
mutual
inductive Dq (K : PySem.W.Frag) (H : Hp) : V → PyData → Prop
  | non : Dq K H .non .none
  | bl (b : Bool) : Dq K H (.bl b) (.bool b)
  | int (i : Int) : Dq K H (.int i) (.int i)
  | str (x : Str) : Dq K H (.str x) (.str x)
  | lst {a : Addr} {xs : List V} {ds : List PyData} : SqL K H a xs → DqAll K H xs ds → Dq K H (.ref a) (.list ds)
  | tup {a : Addr} {xs : List V} {ds : List PyData} : SqT K H a xs → DqAll K H xs ds → Dq K H (.ref a) (.tuple ds)
  | dct {a : Addr} {kvs : List (Int × Int)} : H a = some (.dK (kvs.map fun p => (.inl p.1, .int p.2))) → Dq K H (.ref a) (.dict (kvs.map fun p => (.int p.1, .int p.2)))
inductive DqAll (K : PySem.W.Frag) (H : Hp) : List V → List PyData → Prop
  | nil : DqAll K H [] []
  | cons {v : V} {vs : List V} {d : PyData} {ds : List PyData} : Dq K H v d → DqAll K H vs ds → DqAll K H (v :: vs) (d :: ds)
end
theorem key_int {i : Int} {u : Value} (h : keyIs (.inl i) u = true) : ∃ t, u = .int i t := by
  have := relV_key (k := .inl i) h
  exact this
theorem kv_reads {P : Program} {w : World} {h : Heap} : ∀ (kvs : List (Int × Int)) {vs : List (Key × Value)} {es : List DictEntry}, KV (kvs.map fun p => ((.inl p.1 : Key), V.int p.2)) vs → Pairs (mixKind P w) es vs →
    RdBs h (es.map (·.key)) ((kvs.map fun p => (PyData.int p.1, PyData.int p.2)).map (·.1)) ∧ RdBs h (es.map (·.val)) ((kvs.map fun p => (PyData.int p.1, PyData.int p.2)).map (·.2))
  | [], _, _, r, hp => by
    cases r
    cases hp
    exact ⟨.nil, .nil⟩
  | p :: kvs, _, _, r, hp => by
    cases r with
    | cons a b =>
      cases hp with
      | cons k1 v1 rest =>
        obtain ⟨q1, q2⟩ := kv_reads kvs b rest
        obtain ⟨a1, a2⟩ := a
        rw [← a1] at k1
        obtain ⟨t1, e1⟩ := key_int (show keyIs (.inl p.1) _ = true from k1)
        obtain ⟨t2, e2⟩ := a2
        refine ⟨.cons ?_ q1, .cons ?_ q2⟩
        · show RdB h (DictEntry.key _) (.int p.1); rw [e1]; exact .int _ _
        · show RdB h (DictEntry.val _) (.int p.2); rw [v1, e2]; exact .int _ _
section
variable {X : Cx} {pins : List (Addr × Obj)} {σ : L2.St} {H : Hp} {s : Shared}
mutual
theorem Dq.reads (I : Inv X pins σ H s) : ∀ (d : PyData) (v : V) (u : Value), Dq X.K H v d → RelV v u → RdB s.heap u d
  | .none, _, _, h, r => by
    cases h
    cases r
    exact .none
  | .bool b, _, _, h, r => by
    cases h
    cases r
    exact .bool b
  | .int i, _, _, h, r => by
    cases h
    obtain ⟨t, rfl⟩ := r
    exact .int i t
  | .str x, _, _, h, r => by
    cases h
    obtain ⟨t, rfl⟩ := r
    exact .str x t
  | .list ds, _, _, h, r => by
    cases h with
    | lst hs ha =>
      cases r
      obtain ⟨its, rv, ⟨o, n, ho, hc, _, hd⟩, _⟩ := I.list hs
      exact .list ho hc hd (Dq.readsAll I ds _ its ha rv)
  | .tuple ds, _, _, h, r => by
    cases h with
    | tup hs ha =>
      cases r
      obtain ⟨its, rv, ⟨o, ho, hc, n, hd⟩, _⟩ := I.tuple hs
      exact .tuple ho hc hd (Dq.readsAll I ds _ its ha rv)
  | .dict kvs, _, _, h, r => by
    cases h with
    | @dct a kv e =>
      cases r
      obtain ⟨_, z, vs, rel, o, es, ep, ho, hx, hd, _, hp, _⟩ := dk_of I.hok e
      obtain ⟨q1, q2⟩ := kv_reads kv rel hp
      exact .dct ho hx.1 hd z q1 q2
theorem Dq.readsAll (I : Inv X pins σ H s) : ∀ (ds : List PyData) (vs : List V) (us : List Value), DqAll X.K H vs ds → Vals vs us → RdBs s.heap us ds
  | [], _, _, h, r => by
    cases h
    cases r
    exact .nil
  | d :: ds, _, _, h, r => by
    cases h with
    | cons h1 h2 =>
      cases r with
      | cons r1 r2 => exact .cons (Dq.reads I d _ _ h1 r1) (Dq.readsAll I ds _ _ h2 r2)
end
end
def rReprB (K : PySem.W.Frag) : List V → Hp → VK → Prop := fun xs H Q => ∃ x d, xs = [x] ∧ Dq K H x d ∧ okB d ∧ d.depth ≤ 40 ∧ d.shown.length ≤ sizeLine ∧ Q (.str d.shown) H
section
variable {X : Cx}
theorem call_reprB (nd : X.base.NoDigits) (gd : X.A.guards = some []) (hu : X.A.units + 64 < cLine) : CallR X (.builtin "repr") (rReprB X.K) := by
  intro pins st ss G xs ys R I rel h
  obtain ⟨x, d, rfl, hd, hs, hp, hz, q⟩ := h
  obtain ⟨u, rfl, ru⟩ := vals1 rel
  have nd' : st.heap.NoDigits := nd.keeps fun b o g => (I.env0.bs b o g).1
  have rd := Dq.reads I d x u hd ru
  cases d with
  | none => cases hd; cases (show u = Value.none from ru); exact PySem.P.repr_of_none ⟨.str _, G, I.tok _, ⟨_, rfl⟩, by simpa only [PyData.shown] using q⟩
  | bool b => cases hd; cases (show u = Value.bool b from ru); exact PySem.P.repr_of_bool ⟨.str _, G, I.tok _, ⟨_, rfl⟩, by simpa only [PyData.shown] using q⟩
  | int i =>
    cases hd
    obtain ⟨tk, rfl⟩ := (show ∃ tk, u = Value.int i tk from ru)
    exact repr_intB nd' (by simpa only [okB] using hs) ⟨.str _, G, I.tok _, ⟨_, rfl⟩, by simpa only [PyData.shown] using q⟩
  | str z =>
    cases hd
    obtain ⟨tk, rfl⟩ := (show ∃ tk, u = Value.str z tk from ru)
    exact PySem.P.repr_of_str ⟨.str _, G, I.tok _, ⟨_, rfl⟩, by simpa only [PyData.shown] using q⟩ (by simpa only [PyData.shown] using hz)
  | list ds =>
    cases hd with
    | @lst a _ _ h1 h2 =>
      cases (show u = Value.ref a from ru)
      exact repr_refB nd' rd hs gd (by omega) (fun _ _ g => g) (fun h' u' tk keep => ⟨.str _, G, I.kept (t' := tk) keep, ⟨_, rfl⟩, q⟩) hz
  | tuple ds =>
    cases hd with
    | @tup a _ _ h1 h2 =>
      cases (show u = Value.ref a from ru)
      exact repr_refB nd' rd hs gd (by omega) (fun _ _ g => g) (fun h' u' tk keep => ⟨.str _, G, I.kept (t' := tk) keep, ⟨_, rfl⟩, q⟩) hz
  | dict kvs =>
    cases hd with
    | @dct a kv h1 =>
      cases (show u = Value.ref a from ru)
      exact repr_refB nd' rd hs gd (by omega) (fun _ _ g => g) (fun h' u' tk keep => ⟨.str _, G, I.kept (t' := tk) keep, ⟨_, rfl⟩, q⟩) hz
end
/-! the law's end where the limit of digits is known to be as it was -/
section
theorem law_endN {P : Program} {w : World} {K : PySem.W.Frag} {mg bt : Str → Option Value} {n : Nat} {fa scr : Addr} {rec : FuncData} {pn : Str} {sp : Sp} {st : Shared} {us : List Value} {cells : List Int}
    (inK : K.In st.heap) (gl : st.heap.Ns mainGlobals mg) (bl : st.heap.Ns builtinsNs bt) (bs : ∀ x : Str, x ≠ "__name__" → bt x = bootBuiltins x) (nl : st.heap.NoLimit) (dg : st.heap.NoDigits) (ng : st.gens = #[])
    (at_ : st.heap.get? scr = some { cls := .type "list", data := .seq us.toArray }) (isInts : IntsAre us cells) (few : cells.length ≤ sizeLine) (room : Room n callerA)
    (o : ∀ base : Heap, K.In base → base.Ns mainGlobals mg → base.NoDigits → FnG P w K mg base CX0 n fa rec [pn] sp) (bnd : ∀ (s : Shared) (u : Value), BindsTo s rec ⟨[u], []⟩ [(pn, u)])
    (want : ∀ G : Hp, SqL K G scr (cells.map V.int) → sp [.ref scr] G (fun v _ => v = .bl true) fun _ _ _ => False) :
    codeAny (model P w) callerA (.call (.ref fa) ⟨[.ref scr], []⟩) (fun r s' => r = .ok (.ret (.bool true)) ∧ OldK st.heap s'.heap ∧ s'.os = st.os ∧ AllBare s'.gens) st := by
  have rel := vals_ints isInts
  have size := isInts.length
  -- what is tracked: the script, where it is not one of the module's own objects
  have main : ∀ G : Hp, (∀ b, G b ≠ none → b = scr ∧ K.lookup scr = none ∧ ∃ u xs, G b = some (.frz u (.lst xs))) → SqL K G scr (cells.map V.int) → HOk P w G st.heap →
      codeAny (model P w) callerA (.call (.ref fa) ⟨[.ref scr], []⟩) (fun r s' => r = .ok (.ret (.bool true)) ∧ OldK st.heap s'.heap ∧ s'.os = st.os ∧ AllBare s'.gens) st := by
    intro G only there good
    have some_of : ∀ {b : Addr} {u : HO}, G b = some u → G b ≠ none := fun {b u} g z => nomatch g.symm.trans z
    have none_of : ∀ {b : Addr}, (G b ≠ none → False) → G b = none := fun {b} no => by
      cases g : G b with
      | none => rfl
      | some u => exact (no (some_of g)).elim
    have dictFree : ∀ {b : Addr} {ob : Obj} {es : Array DictEntry} {ep : Nat}, st.heap.get? b = some ob → ob.data = .dict es ep → G b = none := by
      intro b ob es ep g d
      apply none_of
      intro no
      obtain ⟨rfl, _, _⟩ := only b no
      rw [at_] at g
      cases g
      cases d
    have ns_ : ∀ {b : Addr} {m : Str → Option Value}, st.heap.Ns b m → (hidT st.heap G).Ns b m := by
      rintro b m ⟨ob, es, ep, g, d, r⟩
      exact ⟨ob, es, ep, hidT_get g (dictFree g d), d, r⟩
    have inB : K.In (hidT st.heap G) := by
      intro b ob g
      apply hidT_get (inK b ob g)
      apply none_of
      intro no
      obtain ⟨rfl, free, _⟩ := only b no
      rw [free] at g
      cases g
    have noLim : (hidT st.heap G).NoLimit := by
      obtain ⟨mc, g1, g2⟩ := nl
      exact ⟨mc, ns_ g1, g2⟩
    have noDig : (hidT st.heap G).NoDigits := by
      obtain ⟨mc, g1, g2⟩ := dg
      exact ⟨mc, ns_ g1, g2⟩
    have env : Env0 P w K mg (hidT st.heap G) callerA [] st G :=
      { frames := rfl, mod := { kin := inB, glob := ns_ gl, blt := ⟨bt, ns_ bl, bs⟩, nolimit := noLim }, bs := fun b u g => of_hidT g, bsz := Nat.le_of_eq (hidT_size _ _), funs := trivial,
        frf := fun b hb => (List.not_mem_nil hb).elim, hok := good, bare := .of_eq ng }
    apply codeAny_mono ((o _ inB (ns_ gl) noDig).runs callerA [] st G ⟨[.ref scr], []⟩ [.ref scr] [.ref scr] _ _ rfl room env (bnd st (.ref scr)) (.cons rfl .nil) (want G there))
    intro res st2 hres
    match res, hres with
    | .error ex, hres => exact hres.elim
    | .ok .next, hres => exact False.elim hres
    | .ok .brk, hres => exact False.elim hres
    | .ok .cont, hres => exact False.elim hres
    | .ok (.ret u), hres =>
      obtain ⟨v, G2, os, bare, un, good2, rv, hv⟩ := hres
      have hv' : v = V.bl true := hv
      subst hv'
      cases (show u = Value.bool true from rv)
      refine ⟨rfl, OldK.of_keep ?_, os, bare⟩
      intro b ob g
      cases gb : G b with
      | none => exact un.keep b ob g gb (fun z => (List.not_mem_nil z).elim) (by simp)
      | some u2 =>
        obtain ⟨_, _, u3, xs, z⟩ := only b (some_of gb)
        obtain ⟨g1, _⟩ := good b _ z
        obtain ⟨g2, _⟩ := good2 b _ (un.frzs b u3 _ z)
        rw [g] at g1
        cases g1
        exact g2
  by_cases hk : K.lookup scr = none
  · refine main (fun b => if b = scr then some (.frz { cls := .type "list", data := .seq us.toArray } (.lst (cells.map V.int))) else none) ?_ ?_ ?_
    · intro b no
      by_cases e : b = scr
      · exact ⟨e, hk, _, _, if_pos e⟩
      · exact (no (if_neg e)).elim
    · exact Or.inl (Or.inr ⟨_, if_pos rfl⟩)
    · intro b u g
      by_cases e : b = scr
      · subst e
        have g' := (if_pos rfl).symm.trans g
        cases g'
        exact ⟨at_, by rw [List.length_map]; exact few, us, _, rel, at_⟩
      · have g' := (if_neg e).symm.trans g
        cases g'
  · obtain ⟨ob, hob⟩ := Option.ne_none_iff_exists'.mp hk
    have g := inK scr ob hob
    rw [at_] at g
    cases g
    refine main (fun _ => none) (fun b no => (no rfl).elim) (Or.inr ?_) (fun b u z => nomatch z)
    exact ⟨_, us.toArray, _, hob, rfl, rfl, rfl, by rw [List.size_toArray, size]; exact few, by simpa using rel⟩
theorem walk_N {l : PySem.W.OpenLaw} {most n : Nat} {q : Program} {loose : List Str} {XP : (Str → Option Value) → Heap → Prop} {YP : World → Heap → Prop} {d : DefRec} {K : Params → PySem.W.Frag} {sp : World → Sp} {pn : Str}
    (h1 : l.most = some most) (h2 : most ≤ sizeLine) (h3 : d.params.defaults = []) (room : Room n callerA) (inK : ∀ (w : World) (h : Heap), YP w h → (K w.params).In h)
    (o : ∀ (w : World) (mg : Str → Option Value) (fa : Addr) (h : Heap), (K w.params).In h → h.Ns mainGlobals mg → mg d.name = some (.ref fa) →
      ∃ rec : FuncData, (∀ (s : Shared) (u : Value), BindsTo s rec ⟨[u], []⟩ [(pn, u)]) ∧ ∀ base : Heap, (K w.params).In base → base.Ns mainGlobals mg → base.NoDigits → FnG l.prog w (K w.params) mg base CX0 n fa rec [pn] (sp w))
    (want : ∀ (w : World) (G : Hp) (a : Addr) (ns : List Int), ns.length ≤ most → SqL (K w.params) G a (ns.map V.int) → sp w [.ref a] G (fun v _ => v = .bl true) fun _ _ _ => False) :
    PySem.W.WalkO q loose XP YP l.row.toRowW d [] (fun f vs => PySem.call f vs) := by
  apply Att.attach_call h1 h3
  intro w s0 s1 mg bt fa ob pm cd doc a us ns ground yp ho hd hcd hmg hobj hints hlen hg
  have kin := inK w _ yp
  obtain ⟨rec, bnd, ok⟩ := o w mg fa _ kin ground.T.g hmg
  exact law_endN kin ground.T.g ground.T.b ground.T.builtins ground.T.nolimit ground.T.nodigits hg hobj hints (Nat.le_trans hlen h2) room ok bnd fun G hS => want w G a ns hlen hS
end
end SL

/-! calls of defs that may raise, by keywords alone, and of defs that ask repr -/
namespace SL
open PySem PySem.Spec PyProof.Rows L2
def tCallKS (n : Nat) (is : List Nat) (sp : Sp) (E : L2.St → XK) (tk : TA) : TE := fun σ H Q => tk σ H fun zs H1 => zs.length = n ∧ sp (rot is zs) H1 Q (E σ)
theorem passN {X : Cx} {σ : L2.St} {E : XK} : PassesAt CX0 X σ E := fun _ _ _ _ _ _ h => h.elim
section
variable {X : Cx} {CX : CXT} {n : Nat} {fa : Addr} {rec : FuncData} {par ks : List Str} {sp : Sp} {nm : Str} {p pos : Pos} {e : Expr} {es : List Expr} {t tk : TA} {E : L2.St → XK} {kws : List Keyword} {rs : List Nat}
theorem pe_callGS (o : FnG X.prog X.w X.K X.mg X.base CX n fa rec par sp) (gd : X.A.guards = some []) (room : Room n X.A) (glob : Gl X nm) (at_ : X.mg nm = some (.ref fa)) (kept : PySem.W.keepIn X.K (.ref fa) = true) (bnd : Binds X.K rec par []) (pass : ∀ σ, PassesAt CX X σ (E σ))
    (args : PA X (e :: es) t) (notD : (nm == ("__debug__" : Str)) = false := by decide) (one : starEach (e :: es) X.env = (false, eval e X.env) :: starEach es X.env := by rfl) (plain : (backTo pos (starEach es X.env)).any (·.1) = false := by rfl) :
    PE X (.Call (.Name nm p) (e :: es) [] pos) (tCallS sp E t) := by
  constructor
  intro pins st ss G R I want
  apply wpAny_Call_Name_kw (ld_glob I glob at_ _ notD)
  apply PySem.W.callWith_K (h₀ := X.base) I.ok.mod.kin kept (thn (args.run pos pins st ss G _ I want) _) one plain
  rintro ys st1 ⟨xs, G1, I1, rel, go⟩
  refine ⟨I1.kIn, ?_⟩
  have count : ys.length = par.length := rel.length ▸ o.many _ _ _ _ go
  have bd := bnd st1 ys I1.kIn (by rw [List.append_nil]; exact count)
  rw [List.append_nil] at bd
  apply wpAny_call
  apply codeAny_mono (o.runs X.A X.stack st1 G1 ⟨ys, []⟩ ys xs _ _ gd room I1.env0 bd rel go)
  intro res st2 hres
  match res, hres with
  | .error ex, hres => exact pass ss pins G1 st1 ex st2 I1 hres
  | .ok (.ret u), hres => exact I1.after hres
  | .ok .next, hres => exact False.elim hres
  | .ok .brk, hres => exact False.elim hres
  | .ok .cont, hres => exact False.elim hres
theorem pe_callKGS (o : FnG X.prog X.w X.K X.mg X.base CX n fa rec par sp) (gd : X.A.guards = some []) (room : Room n X.A) (glob : Gl X nm) (at_ : X.mg nm = some (.ref fa)) (kept : PySem.W.keepIn X.K (.ref fa) = true)
    (bnd : KwB rec par ks rs) (pass : ∀ σ, PassesAt CX X σ (E σ)) (hkw : PK X kws tk) (hall : (backToKw pos (keywordEach kws X.env)).all (·.1.isSome) = true := by rfl) (hks : (backToKw pos (keywordEach kws X.env)).filterMap (·.1) = ks := by rfl) (notD : (nm == ("__debug__" : Str)) = false := by decide)
    (plain : ((backTo pos (starEach [] X.env)).any (·.1) || (backToKw pos (keywordEach kws X.env)).any (·.1.isNone)) = false := by rfl) : PE X (.Call (.Name nm p) [] kws pos) (tCallKS ks.length rs sp E tk) := by
  constructor
  intro pins st ss G R I want
  apply wpAny_Call_Name_kw (ld_glob I glob at_ _ notD)
  apply PySem.W.callWith_KW0 (h₀ := X.base) I.ok.mod.kin kept hall (thn (hkw.run pos pins st ss G _ I want) _) plain
  rintro ws st1 ⟨zs, G1, I1, rel, hn, go⟩
  refine ⟨I1.kIn, ?_⟩
  rw [hks]
  have hw : ws.length = ks.length := rel.length.symm.trans hn
  apply wpAny_call
  apply codeAny_mono (o.runs X.A X.stack st1 G1 ⟨[], ks.zip ws⟩ (rot rs ws) (rot rs zs) _ _ gd room I1.env0 (bnd st1 ws hw) (Vals.rot rel rs) go)
  intro res st2 hres
  match res, hres with
  | .error ex, hres => exact pass ss pins G1 st1 ex st2 I1 hres
  | .ok (.ret u), hres => exact I1.after hres
  | .ok .next, hres => exact False.elim hres
  | .ok .brk, hres => exact False.elim hres
  | .ok .cont, hres => exact False.elim hres
theorem pe_callKS (o : FnOk X.prog X.w X.K X.mg X.base CX n fa rec par sp) (room : Room n X.A) (glob : Gl X nm) (at_ : X.mg nm = some (.ref fa)) (kept : PySem.W.keepIn X.K (.ref fa) = true)
    (bnd : KwB rec par ks rs) (pass : ∀ σ, PassesAt CX X σ (E σ)) (hkw : PK X kws tk) (hall : (backToKw pos (keywordEach kws X.env)).all (·.1.isSome) = true := by rfl) (hks : (backToKw pos (keywordEach kws X.env)).filterMap (·.1) = ks := by rfl) (notD : (nm == ("__debug__" : Str)) = false := by decide)
    (plain : ((backTo pos (starEach [] X.env)).any (·.1) || (backToKw pos (keywordEach kws X.env)).any (·.1.isNone)) = false := by rfl) : PE X (.Call (.Name nm p) [] kws pos) (tCallKS ks.length rs sp E tk) := by
  constructor
  intro pins st ss G R I want
  apply wpAny_Call_Name_kw (ld_glob I glob at_ _ notD)
  apply PySem.W.callWith_KW0 (h₀ := X.base) I.ok.mod.kin kept hall (thn (hkw.run pos pins st ss G _ I want) _) plain
  rintro ws st1 ⟨zs, G1, I1, rel, hn, go⟩
  refine ⟨I1.kIn, ?_⟩
  rw [hks]
  have hw : ws.length = ks.length := rel.length.symm.trans hn
  apply wpAny_call
  apply codeAny_mono (o.run X.A X.stack st1 G1 ⟨[], ks.zip ws⟩ (rot rs ws) (rot rs zs) _ _ room I1.env0 (bnd st1 ws hw) (Vals.rot rel rs) go)
  intro res st2 hres
  match res, hres with
  | .error ex, hres => exact pass ss pins G1 st1 ex st2 I1 hres
  | .ok (.ret u), hres => exact I1.after hres
  | .ok .next, hres => exact False.elim hres
  | .ok .brk, hres => exact False.elim hres
  | .ok .cont, hres => exact False.elim hres
end
end SL

/-! operators, built-in functions -/
namespace PD
open PySem PySem.Spec PyProof.Rows L2 Evl SL
def rInt1 : List V → Hp → VK → Prop := fun xs H Q => (∃ i, xs = [.int i] ∧ Q (.int i) H) ∨ ∃ k, xs = [.bl k] ∧ Q (.int (if k then 1 else 0)) H
def rAbsI : List V → Hp → VK → Prop := fun xs H Q => ∃ i, xs = [.int i] ∧ Q (.int (if i < 0 then -i else i)) H
def rTupS (K : PySem.W.Frag) : List V → Hp → VK → Prop := fun xs H Q => ∃ p ys, xs = [.ref p] ∧ ((SqL K H p ys ∧ ∀ l, H l = none → Q (.ref l) (upd H l (.tup ys))) ∨ (SqT K H p ys ∧ Q (.ref p) H))
def ng (neg b : Bool) : Bool := if neg then !b else b
/-! values as the library's data -/
mutual
def D.py : D → Option PyData
  | .non => some .none
  | .bl b => some (.bool b)
  | .int i => some (.int i)
  | .str x => some (.str x)
  | .lst ds => (D.pyA ds).map .list
  | .tup ds => (D.pyA ds).map .tuple
  | .scr ns => some (.list (ns.map .int))
  | .ty _ => none
  | .ad _ => none
  | .cls _ => none
  | .exc _ _ => none
  | .ml _ _ => none
  | .dk _ => none
def D.pyA : List D → Option (List PyData)
  | [] => some []
  | d :: ds => match d.py, D.pyA ds with
    | some x, some xs => some (x :: xs)
    | _, _ => none
end
mutual
/-- the same, empty dicts among it: what repr shows -/
def D.pq : D → Option PyData
  | .non => some .none
  | .bl b => some (.bool b)
  | .int i => some (.int i)
  | .str x => some (.str x)
  | .lst ds => (D.pqA ds).map .list
  | .tup ds => (D.pqA ds).map .tuple
  | .scr ns => some (.list (ns.map .int))
  | .ty _ => none
  | .ad _ => none
  | .cls _ => none
  | .exc _ _ => none
  | .ml _ _ => none
  | .dk kvs => some (.dict (kvs.map fun p => (.int p.1, .int p.2)))
def D.pqA : List D → Option (List PyData)
  | [] => some []
  | d :: ds => match d.pq, D.pqA ds with
    | some x, some xs => some (x :: xs)
    | _, _ => none
end
section
variable {K : PySem.W.Frag} {H : Hp} {B : AS}
theorem dp_scr : ∀ ns : List Int, DpAll K H (ns.map V.int) (ns.map PyData.int)
  | [] => .nil
  | i :: r => .cons (.int i) (dp_scr r)
mutual
theorem dp_of : ∀ (d : D) (v : V) (x : PyData), d.py = some x → Rp K H B v d → Dp K H v x
  | .non, v, x, e, h => by cases h; simp [D.py] at e; subst e; exact .non
  | .bl b, v, x, e, h => by cases h; simp [D.py] at e; subst e; exact .bl b
  | .int b, v, x, e, h => by cases h; simp [D.py] at e; subst e; exact .int b
  | .str b, v, x, e, h => by cases h; simp [D.py] at e; subst e; exact .str b
  | .ty b, v, x, e, h => by simp [D.py] at e
  | .ad b, v, x, e, h => by simp [D.py] at e
  | .cls b, v, x, e, h => by simp [D.py] at e
  | .exc b i, v, x, e, h => by simp [D.py] at e
  | .ml b i, v, x, e, h => by simp [D.py] at e
  | .dk kvs, v, x, e, h => by simp [D.py] at e
  | .scr ns, v, x, e, h => by
    cases h with
    | scr h => simp [D.py] at e; subst e; exact .lst h.sq (dp_scr ns)
  | .lst ds, v, x, e, h => by
    cases h with
    | lst h1 h2 =>
      simp only [D.py, Option.map_eq_some_iff] at e
      obtain ⟨xs, e1, rfl⟩ := e
      exact .lst h1.sq (dpA_of ds _ xs e1 h2)
  | .tup ds, v, x, e, h => by
    cases h with
    | tup h1 h2 =>
      simp only [D.py, Option.map_eq_some_iff] at e
      obtain ⟨xs, e1, rfl⟩ := e
      exact .tup h1.sq (dpA_of ds _ xs e1 h2)
theorem dpA_of : ∀ (ds : List D) (vs : List V) (xs : List PyData), D.pyA ds = some xs → Paired (Rp K H B) vs ds → DpAll K H vs xs
  | [], vs, xs, e, h => by cases h; simp [D.pyA] at e; subst e; exact .nil
  | d :: ds, vs, xs, e, h => by
    cases h with
    | cons h1 h2 =>
      simp only [D.pyA] at e
      split at e
      · rename_i x xs' e1 e2
        cases e
        exact .cons (dp_of d _ x e1 h1) (dpA_of ds _ xs' e2 h2)
      · cases e
end
theorem dq_scr : ∀ ns : List Int, DqAll K H (ns.map V.int) (ns.map PyData.int)
  | [] => .nil
  | i :: r => .cons (.int i) (dq_scr r)
mutual
theorem dq_of : ∀ (d : D) (v : V) (x : PyData), d.pq = some x → Rp K H B v d → Dq K H v x
  | .non, v, x, e, h => by cases h; simp [D.pq] at e; subst e; exact .non
  | .bl b, v, x, e, h => by cases h; simp [D.pq] at e; subst e; exact .bl b
  | .int b, v, x, e, h => by cases h; simp [D.pq] at e; subst e; exact .int b
  | .str b, v, x, e, h => by cases h; simp [D.pq] at e; subst e; exact .str b
  | .ty b, v, x, e, h => by simp [D.pq] at e
  | .ad b, v, x, e, h => by simp [D.pq] at e
  | .cls b, v, x, e, h => by simp [D.pq] at e
  | .exc b i, v, x, e, h => by simp [D.pq] at e
  | .ml b i, v, x, e, h => by simp [D.pq] at e
  | .dk kvs, v, x, e, h => by
    simp only [D.pq, Option.some.injEq] at e; subst e
    cases h with
    | dk h1 h2 => exact .dct h1
  | .scr ns, v, x, e, h => by
    cases h with
    | scr h => simp [D.pq] at e; subst e; exact .lst h.sq (dq_scr ns)
  | .lst ds, v, x, e, h => by
    cases h with
    | lst h1 h2 =>
      simp only [D.pq, Option.map_eq_some_iff] at e
      obtain ⟨xs, e1, rfl⟩ := e
      exact .lst h1.sq (dqA_of ds _ xs e1 h2)
  | .tup ds, v, x, e, h => by
    cases h with
    | tup h1 h2 =>
      simp only [D.pq, Option.map_eq_some_iff] at e
      obtain ⟨xs, e1, rfl⟩ := e
      exact .tup h1.sq (dqA_of ds _ xs e1 h2)
theorem dqA_of : ∀ (ds : List D) (vs : List V) (xs : List PyData), D.pqA ds = some xs → Paired (Rp K H B) vs ds → DqAll K H vs xs
  | [], vs, xs, e, h => by cases h; simp [D.pqA] at e; subst e; exact .nil
  | d :: ds, vs, xs, e, h => by
    cases h with
    | cons h1 h2 =>
      simp only [D.pqA] at e
      split at e
      · rename_i x xs' e1 e2
        cases e
        exact .cons (dq_of d _ x e1 h1) (dqA_of ds _ xs' e2 h2)
      · cases e
end
end
section
variable {g : Gx} {W : XW} {mr : Md} {c : Cf} {N M M' L L' k k1 k2 k3 n m : Nat} {ρ ρ' : Env} {σ σ' : L2.St} {H H' : Hp} {md : Md} {v : V} {d : D} {ta tb tc te : TE} {pa pb pc : PX} {tr : TA} {pr : PXs} {K : PySem.W.Frag}
/-! whole numbers -/
def pI (C : Int → Int → Prop) (f : Int → Int → D) : P2 := fun x y k => onI x fun i => onI y fun j => C i j ∧ k (f i j)
def pI0 (f : Int → Int → D) : P2 := fun x y k => onI x fun i => onI y fun j => k (f i j)
theorem ops_I {C : Int → Int → Prop} {fv : Int → Int → V} {f : Int → Int → D} (hf : ∀ i j, Sc (fv i j) (f i j)) : OpS K (rI C fv) (pI C f) := fun H B x y d e hx hy po Q hp q => by
  obtain ⟨i, e1, hp⟩ := onI_of hp
  obtain ⟨j, e2, hc, hp9⟩ := onI_of hp
  subst e1; subst e2
  cases hx; cases hy
  exact ⟨i, j, rfl, rfl, hc, q _ _ hp9 (hf i j)⟩
theorem ops_I0 {fv : Int → Int → V} {f : Int → Int → D} (hf : ∀ i j, Sc (fv i j) (f i j)) : OpS K (rI0 fv) (pI0 f) := fun H B x y d e hx hy po Q hp q => by
  obtain ⟨i, e1, hp⟩ := onI_of hp
  obtain ⟨j, e2, hp9⟩ := onI_of hp
  subst e1; subst e2
  cases hx; cases hy
  exact ⟨i, j, rfl, rfl, q _ _ hp9 (hf i j)⟩
def pAdd : P2 := pI0 fun i j => .int (i + j)
def pSub : P2 := pI0 fun i j => .int (i - j)
def pMul : P2 := pI CMulW fun i j => .int (i * j)
def pMod : P2 := pI (fun _ j => 0 < j) fun i j => .int (i % j)
def pDiv : P2 := pI CDivW fun i j => .int (i / j)
def pPow : P2 := pI CPowW fun i j => .int (i ^ j.toNat)
def pLt : P2 := pI0 fun i j => .bl (decide (i < j))
def pLe : P2 := pI0 fun i j => .bl (decide (i ≤ j))
def pGt : P2 := pI0 fun i j => .bl (decide (j < i))
def pGe : P2 := pI0 fun i j => .bl (decide (j ≤ i))
theorem os_add : OpS K rAddI pAdd := ops_I0 fun i j => .int _
theorem os_sub : OpS K rSubI pSub := ops_I0 fun i j => .int _
theorem os_mul : OpS K rMulI pMul := ops_I fun i j => .int _
theorem os_mod : OpS K rModI pMod := ops_I fun i j => .int _
theorem os_div : OpS K rDivI pDiv := ops_I fun i j => .int _
theorem os_pow : OpS K rPowI pPow := ops_I fun i j => .int _
theorem os_lt : OpS K rLtI pLt := ops_I0 fun i j => .bl _
theorem os_le : OpS K rLeI pLe := ops_I0 fun i j => .bl _
theorem os_gt : OpS K rGtI pGt := ops_I0 fun i j => .bl _
theorem os_ge : OpS K rGeI pGe := ops_I0 fun i j => .bl _
def pNeg : D → (D → Prop) → Prop := fun x k => onI x fun i => k (.int (-i))
theorem ou_neg : OpU K rNegI pNeg := fun H B x d hx po Q hp q => by
  obtain ⟨i, e1, hp9⟩ := onI_of hp
  subst e1; cases hx
  exact ⟨i, rfl, q _ _ hp9 (.int _)⟩
/-! equal? -/
def D.toV : D → Option V
  | .non => some .non
  | .bl b => some (.bl b)
  | .int i => some (.int i)
  | .str x => some (.str x)
  | _ => none
theorem toV_of {B : AS} {u : V} (h : Rp K H B v d) (e : d.toV = some u) : v = u := by
  cases h <;> simp [D.toV] at e <;> exact e
structure pEq (neg : Bool) (x y : D) (k : D → Prop) : Prop where
  go : match x.toV, y.toV with
    | some a, some b => scal a b = true ∧ k (.bl (ng neg (decide (a = b))))
    | _, _ => False
theorem pEq_of {neg : Bool} {x y : D} {k : D → Prop} (h : pEq neg x y k) : ∃ a b, x.toV = some a ∧ y.toV = some b ∧ scal a b = true ∧ k (.bl (ng neg (decide (a = b)))) := by
  replace h := h.go
  split at h
  · rename_i a b e1 e2; exact ⟨a, b, e1, e2, h⟩
  · exact h.elim
theorem os_eq : OpS K rEq (pEq false) := fun H B x y d e hx hy po Q hp q => by
  obtain ⟨a, b, e1, e2, hs, hp9⟩ := pEq_of hp
  have := toV_of hx e1; subst this
  have := toV_of hy e2; subst this
  exact ⟨hs, q _ _ hp9 (.bl _)⟩
theorem os_ne : OpS K rNe (pEq true) := fun H B x y d e hx hy po Q hp q => by
  obtain ⟨a, b, e1, e2, hs, hp9⟩ := pEq_of hp
  have := toV_of hx e1; subst this
  have := toV_of hy e2; subst this
  exact ⟨hs, q _ _ hp9 (.bl _)⟩
structure pEqD (neg : Bool) (x y : D) (k : D → Prop) : Prop where
  go : ∃ a b, x.py = some a ∧ y.py = some b ∧ SeqAt.shaped a = true ∧ SeqAt.shaped b = true ∧ k (.bl (ng neg (PyData.eqv a b)))
theorem os_eqD : OpS K (rEqD K) (pEqD false) := fun H B x y d e hx hy po Q ⟨a, b, h1, h2, h3, h4, hp⟩ q => ⟨a, b, dp_of d x a h1 hx, dp_of e y b h2 hy, h3, h4, q _ _ hp (.bl _)⟩
theorem os_neD : OpS K (rNeD K) (pEqD true) := fun H B x y d e hx hy po Q ⟨a, b, h1, h2, h3, h4, hp⟩ q => ⟨a, b, dp_of d x a h1 hx, dp_of e y b h2 hy, h3, h4, q _ _ hp (.bl _)⟩
def pIsT (neg : Bool) : P2 := fun x y k => match x, y with
  | .ty m, .ty n => k (.bl (ng neg (decide (m = n))))
  | _, _ => False
theorem pIsT_of {neg : Bool} {x y : D} {k : D → Prop} (h : pIsT neg x y k) : ∃ m n, x = .ty m ∧ y = .ty n ∧ k (.bl (ng neg (decide (m = n)))) := by
  unfold pIsT at h; split at h
  · exact ⟨_, _, rfl, rfl, h⟩
  · exact h.elim
theorem os_isT : OpS K rIsTyp (pIsT false) := fun H B x y d e hx hy po Q hp q => by
  obtain ⟨m, n, e1, e2, hp9⟩ := pIsT_of hp
  subst e1; subst e2; cases hx; cases hy
  exact ⟨m, n, rfl, rfl, q _ _ hp9 (.bl _)⟩
theorem os_notT : OpS K rNotTyp (pIsT true) := fun H B x y d e hx hy po Q hp q => by
  obtain ⟨m, n, e1, e2, hp9⟩ := pIsT_of hp
  subst e1; subst e2; cases hx; cases hy
  exact ⟨m, n, rfl, rfl, q _ _ hp9 (.bl _)⟩
def D.isN : D → Bool
  | .non => true
  | _ => false
def pIsN (neg : Bool) : P2 := fun x y k => y.isN = true ∧ k (.bl (ng neg x.isN))
theorem isN_of {B : AS} (h : Rp K H B v d) : decide (v = V.non) = d.isN := by cases h <;> simp [D.isN]
theorem isN_y {B : AS} (h : Rp K H B v d) (e : d.isN = true) : v = .non := by cases h <;> simp [D.isN] at e <;> rfl
theorem os_isN : OpS K rIsNon (pIsN false) := fun H B x y d e hx hy po Q hp q => ⟨isN_y hy hp.1, by rw [isN_of hx]; exact q _ _ hp.2 (.bl _)⟩
theorem os_notN : OpS K rNotNon (pIsN true) := fun H B x y d e hx hy po Q hp q => ⟨isN_y hy hp.1, by rw [isN_of hx]; exact q _ _ hp.2 (.bl _)⟩
def pIsB (neg : Bool) : P2 := fun x y k => onB x fun a => onB y fun b => k (.bl (ng neg (decide (a = b))))
theorem os_isB : OpS K rIsB (pIsB false) := fun H B x y d e hx hy po Q hp q => by
  obtain ⟨a, e1, hp⟩ := onB_of hp
  obtain ⟨b, e2, hp9⟩ := onB_of hp
  subst e1; subst e2; cases hx; cases hy
  exact ⟨a, b, rfl, rfl, q _ _ hp9 (.bl _)⟩
theorem os_notB : OpS K rNotB (pIsB true) := fun H B x y d e hx hy po Q hp q => by
  obtain ⟨a, e1, hp⟩ := onB_of hp
  obtain ⟨b, e2, hp9⟩ := onB_of hp
  subst e1; subst e2; cases hx; cases hy
  exact ⟨a, b, rfl, rfl, q _ _ hp9 (.bl _)⟩
/-! in, flat items -/
def D.flat (d : D) : Bool := d.toV.isSome
def eqF (x y : D) : Bool := match x.toV, y.toV with
  | some a, some b => eqV a b
  | _, _ => false
def inF (x : D) (ds : List D) : Bool := ds.any fun y => eqF y x
def D.items : D → Option (List D)
  | .lst ds => some ds
  | .tup ds => some ds
  | _ => none
def pIn (neg : Bool) : P2 := fun x y k => ∃ ds, y.items = some ds ∧ x.flat = true ∧ ds.all D.flat = true ∧ k (.bl (ng neg (inF x ds)))
theorem flat_v {B : AS} (h : Rp K H B v d) (e : d.flat = true) : d.toV = some v ∧ flatV v = true := by
  cases h <;> simp [D.flat, D.toV] at e ⊢ <;> rfl
theorem inF_v {B : AS} {x : V} {e : D} (hx : Rp K H B x e) (fx : e.flat = true) : ∀ {vs : List V} {ds : List D}, RpA K H B vs ds → ds.all D.flat = true → vs.all flatV = true ∧ inV x vs = inF e ds
  | _, _, .nil, _ => ⟨rfl, rfl⟩
  | _, _, .cons h r, f => by
    simp only [List.all_cons, Bool.and_eq_true] at f
    obtain ⟨i1, i2⟩ := inF_v hx fx r f.2
    obtain ⟨e1, f1⟩ := flat_v h f.1
    obtain ⟨e2, f2⟩ := flat_v hx fx
    refine ⟨by simp [f1, i1], ?_⟩
    unfold inV inF at i2 ⊢
    rw [List.any_cons, List.any_cons, i2]
    unfold eqF
    rw [e1, e2]
theorem items_rp {B : AS} {ds : List D} (h : Rp K H B v d) (e : d.items = some ds) : ∃ p xs, v = .ref p ∧ (SqL K H p xs ∨ SqT K H p xs) ∧ RpA K H B xs ds := by
  cases h with
  | lst h1 h2 => simp [D.items] at e; subst e; exact ⟨_, _, rfl, .inl h1.sq, h2⟩
  | tup h1 h2 => simp [D.items] at e; subst e; exact ⟨_, _, rfl, .inr h1.sq, h2⟩
  | _ => simp [D.items] at e
theorem os_in {neg : Bool} : OpS K (rIn K neg) (pIn neg) := fun H B x y d e hx hy po Q ⟨ds, h1, h2, h3, hp⟩ q => by
  obtain ⟨p, xs, rfl, hs, hr⟩ := items_rp hy h1
  obtain ⟨f1, f2⟩ := inF_v hx h2 hr h3
  refine ⟨p, xs, rfl, hs, (flat_v hx h2).2, f1, ?_⟩
  rw [f2]
  exact q _ _ hp (.bl _)
/-! one item -/
def pIxL : P2 := fun x y k => onL x fun ds => onI y fun i => ∃ d, atI ds i = some d ∧ k d
def pIxT : P2 := fun x y k => onT x fun ds => onI y fun i => ∃ d, atI ds i = some d ∧ k d
theorem atI_pd {α β : Type} {R : α → β → Prop} {xs : List α} {ys : List β} {i : Int} {y : β} (h : Paired R xs ys) (e : atI ys i = some y) : ∃ x, atI xs i = some x ∧ R x y := by
  unfold atI at e ⊢
  rw [pd_len h]
  cases hn : ixN ys.length i with
  | none => rw [hn] at e; cases e
  | some j =>
    rw [hn] at e
    exact pd_get' h e
theorem sx_ixL (ha : SX g W .b k1 ta pa) (hb : SX g W .t k2 tb pb) : SX g W .e (k1 + k2) (tOp (rIxL g.K) ta tb) (pOp pIxL pa pb) := fun c hc N σ H ρ rp hk po xx hp hx Q q =>
  ha c hc N σ H ρ rp (by omega) _ xx hp (hx.sub (by omega)) _ fun x H1 d M1 hM1 hd r1 e1 hv1 =>
    hb c hc M1 σ H1 ρ r1 (by omega) _ xx hd (hx.sub (by omega)) _ fun y H2 e M2 hM2 he r2 e2 hv2 => by
      obtain ⟨ds, e3, he⟩ := onL_of he
      obtain ⟨i, e4, d', hd', he9⟩ := onI_of he
      subst e3; subst e4
      have := rv_int hv2; subst this
      subst hc
      obtain ⟨a, xs, rfl, h1, h2⟩ := RV.isLst (.inr rfl) (RV.ext (M := M1) (M' := M2) (by simp) e2 hv1)
      obtain ⟨z, hz, hz2⟩ := atI_pd h2 hd'
      exact ⟨a, xs, i, z, rfl, rfl, h1, hz, q z H2 d' M2 (by omega) he9 r2 (e1.trans e2) hz2⟩
theorem sx_ixLT (ha : SX g W .t k1 ta pa) (hb : SX g W .t k2 tb pb) : SX g W .t (k1 + k2) (tOp (rIxL g.K) ta tb) (pOp pIxL pa pb) := fun c hc N σ H ρ rp hk po xx hp hx Q q =>
  ha c hc N σ H ρ rp (by omega) _ xx hp (hx.sub (by omega)) _ fun x H1 d M1 hM1 hd r1 e1 hv1 =>
    hb c hc M1 σ H1 ρ r1 (by omega) _ xx hd (hx.sub (by omega)) _ fun y H2 e M2 hM2 he r2 e2 hv2 => by
      obtain ⟨ds, e3, he⟩ := onL_of he
      obtain ⟨i, e4, d', hd', he9⟩ := onI_of he
      subst e3; subst e4
      have := rv_int hv2; subst this
      subst hc
      have hv3 : Rp c.g.K H2 (Sa ρ σ) x (.lst ds) := RV.ext (md := .t) (M := M1) (M' := M2) (by simp) e2 hv1
      cases hv3 with
      | lst h1 h2 =>
        obtain ⟨z, hz, hz2⟩ := atI_pd h2 hd'
        exact ⟨_, _, i, z, rfl, rfl, h1.sq, hz, q z H2 d' M2 (by omega) he9 r2 (e1.trans e2) hz2⟩
/-- an item of the script -/
def pIxQ : P2 := fun x y k => match x with
  | .scr ns => onI y fun i => ∃ j, atI ns i = some j ∧ k (.int j)
  | _ => False
theorem atI_map {α β : Type} {f : α → β} {xs : List α} {i : Int} {x : α} (h : atI xs i = some x) : atI (xs.map f) i = some (f x) := by
  unfold atI at h ⊢
  rw [List.length_map]
  cases hn : ixN xs.length i with
  | none => rw [hn] at h; cases h
  | some j =>
    rw [hn] at h
    show (xs.map f)[j]? = _
    have h : xs[j]? = some x := h
    rw [List.getElem?_map, h]; rfl
theorem os_ixQ : OpS K (rIxL K) pIxQ := fun H B x y d e hx hy po Q hp q => by
  unfold pIxQ at hp; split at hp
  · obtain ⟨i, e1, j, hj, hp9⟩ := onI_of hp
    subst e1; cases hy
    cases hx with
    | scr h => exact ⟨_, _, i, .int j, rfl, rfl, h.sq, atI_map hj, q _ _ hp9 (.int j)⟩
  · exact hp.elim
theorem sx_ixT (ha : SX g W .e k1 ta pa) (hb : SX g W .t k2 tb pb) : SX g W .e (k1 + k2) (tOp (rIxT g.K) ta tb) (pOp pIxT pa pb) := fun c hc N σ H ρ rp hk po xx hp hx Q q =>
  ha c hc N σ H ρ rp (by omega) _ xx hp (hx.sub (by omega)) _ fun x H1 d M1 hM1 hd r1 e1 hv1 =>
    hb c hc M1 σ H1 ρ r1 (by omega) _ xx hd (hx.sub (by omega)) _ fun y H2 e M2 hM2 he r2 e2 hv2 => by
      obtain ⟨ds, e3, he⟩ := onT_of he
      obtain ⟨i, e4, d', hd', he9⟩ := onI_of he
      subst e3; subst e4
      have := rv_int hv2; subst this
      subst hc
      obtain ⟨a, xs, rfl, h1, h2⟩ := RV.isTup (.inl rfl) (RV.ext (md := .e) (M := M1) (M' := M2) (by simp) e2 hv1)
      obtain ⟨z, hz, hz2⟩ := atI_pd h2 hd'
      exact ⟨a, xs, i, z, rfl, rfl, h1, hz, q z H2 d' M2 (by omega) he9 r2 (e1.trans e2) hz2⟩
theorem sx_ixTT (ha : SX g W .t k1 ta pa) (hb : SX g W .t k2 tb pb) : SX g W .t (k1 + k2) (tOp (rIxT g.K) ta tb) (pOp pIxT pa pb) := fun c hc N σ H ρ rp hk po xx hp hx Q q =>
  ha c hc N σ H ρ rp (by omega) _ xx hp (hx.sub (by omega)) _ fun x H1 d M1 hM1 hd r1 e1 hv1 =>
    hb c hc M1 σ H1 ρ r1 (by omega) _ xx hd (hx.sub (by omega)) _ fun y H2 e M2 hM2 he r2 e2 hv2 => by
      obtain ⟨ds, e3, he⟩ := onT_of he
      obtain ⟨i, e4, d', hd', he9⟩ := onI_of he
      subst e3; subst e4
      have := rv_int hv2; subst this
      subst hc
      have hv3 : Rp c.g.K H2 (Sa ρ σ) x (.tup ds) := RV.ext (md := .t) (M := M1) (M' := M2) (by simp) e2 hv1
      cases hv3 with
      | tup h1 h2 =>
        obtain ⟨z, hz, hz2⟩ := atI_pd h2 hd'
        exact ⟨_, _, i, z, rfl, rfl, h1.sq, hz, q z H2 d' M2 (by omega) he9 r2 (e1.trans e2) hz2⟩
def pIxS : P2 := fun x y k => match x with
  | .str z => onI y fun i => z.length ≤ 100000 ∧ ∃ c, atI z.cps.toList i = some c ∧ k (.str ⟨#[c]⟩)
  | _ => False
theorem os_ixS : OpS K rIxS pIxS := fun H B x y d e hx hy po Q hp q => by
  unfold pIxS at hp; split at hp
  · obtain ⟨i, e1, hz, j, hj, hp9⟩ := onI_of hp
    subst e1; cases hy; cases hx
    exact ⟨_, i, j, rfl, rfl, sz_of hz, hj, q _ _ hp9 (.str _)⟩
  · exact hp.elim
/-! lists made of lists -/
def pCat : P2 := fun x y k => onL x fun ds => onL y fun es => ds.length + es.length ≤ 100000 ∧ k (.lst (ds ++ es))
theorem rv_app {a : Addr} {vs us : List V} {ds es : List D} (r : Rep c M ρ σ H) (hp : H a = none) (h1 : RpA c.g.K H (Bs c ρ σ) vs ds) (h2 : RpA c.g.K H (Bs c ρ σ) us es) : RV c M ρ σ (upd H a (.lst (vs ++ us))) .f (.ref a) (.lst (ds ++ es)) := rv_newL r hp (pd_app h1 h2)
theorem sx_cat (ha : SX g W .b k1 ta pa) (hb : SX g W .b k2 tb pb) : SX g W .f (k1 + k2) (tOp (rCatQ g.K) ta tb) (pOp pCat pa pb) := fun c hc N σ H ρ rp hk po xx hp hx Q q =>
  ha c hc N σ H ρ rp (by omega) _ xx hp (hx.sub (by omega)) _ fun x H1 d M1 hM1 hd r1 e1 hv1 =>
    hb c hc M1 σ H1 ρ r1 (by omega) _ xx hd (hx.sub (by omega)) _ fun y H2 e M2 hM2 he r2 e2 hv2 => by
      obtain ⟨ds, e3, he⟩ := onL_of he
      obtain ⟨es, e4, hz, he9⟩ := onL_of he
      subst e3; subst e4
      subst hc
      obtain ⟨a, xs, rfl, h1, h2⟩ := RV.isLst (.inr rfl) (RV.ext (M := M1) (M' := M2) (by simp) e2 hv1)
      obtain ⟨b, ys, rfl, h3, h4⟩ := RV.isLst (.inr rfl) hv2
      refine ⟨a, b, xs, ys, rfl, rfl, h1, h3, sz_of (by rw [pd_len h2, pd_len h4]; exact hz), fun p hp => ?_⟩
      exact q _ _ _ M2 (by omega) he9 (r2.new hp) ((e1.trans e2).trans (.of (Ex.new hp))) (rv_newL r2 hp (pd_app h2 h4))
theorem pd_flat {α β : Type} {R : α → β → Prop} {xs : List α} {ys : List β} (h : Paired R xs ys) : ∀ n : Nat, Paired R (List.replicate n xs).flatten (List.replicate n ys).flatten
  | 0 => .nil
  | n + 1 => by
    rw [List.replicate_succ, List.replicate_succ, List.flatten_cons, List.flatten_cons]
    exact pd_app h (pd_flat h n)
def repD (n : Nat) (ds : List D) : List D := (List.replicate n ds).flatten
def pRep : P2 := fun x y k => onL x fun ds => onI y fun n => (-100000 ≤ n ∧ n ≤ 100000 ∧ ds.length * n.toNat ≤ 100000) ∧ k (.lst (repD n.toNat ds))
theorem RV.trk {ds : List D} (h : RV c M ρ σ H .b v (.lst ds)) : ∃ a xs, v = .ref a ∧ H a = some (.lst xs) ∧ RpA c.g.K H (Bs c ρ σ) xs ds := by
  rcases h with h | ⟨a, vs, es, e1, e2, h3, h4, h5⟩
  · cases h with
    | lst h1 h2 => exact ⟨_, _, rfl, h1.1, h2⟩
  · cases e2
    exact ⟨a, vs, e1, h3, h5⟩
theorem sx_rep (ha : SX g W .b k1 ta pa) (hb : SX g W .t k2 tb pb) : SX g W .f (k1 + k2) (tOp rRep ta tb) (pOp pRep pa pb) := fun c hc N σ H ρ rp hk po xx hp hx Q q =>
  ha c hc N σ H ρ rp (by omega) _ xx hp (hx.sub (by omega)) _ fun x H1 d M1 hM1 hd r1 e1 hv1 =>
    hb c hc M1 σ H1 ρ r1 (by omega) _ xx hd (hx.sub (by omega)) _ fun y H2 e M2 hM2 he r2 e2 hv2 => by
      obtain ⟨ds, e3, he⟩ := onL_of he
      obtain ⟨n, e4, ⟨g1, g2, g3⟩, he9⟩ := onI_of he
      subst e3; subst e4
      have := rv_int hv2; subst this
      obtain ⟨a, xs, rfl, h1, h2⟩ := RV.trk (RV.ext (md := .b) (M := M1) (M' := M2) (by simp) e2 hv1)
      refine ⟨a, n, xs, rfl, rfl, h1, by omega, by omega, sz_of (by rw [pd_len h2]; exact g3), fun p hp => ?_⟩
      exact q _ _ _ M2 (by omega) he9 (r2.new hp) ((e1.trans e2).trans (.of (Ex.new hp))) (rv_newL r2 hp (pd_flat h2 _))
def pCatT : P2 := fun x y k => onT x fun ds => onT y fun es => (ds ≠ [] ∧ ds.length + es.length ≤ 100000) ∧ k (.tup (ds ++ es))
theorem sx_catT (ha : SX g W .e k1 ta pa) (hb : SX g W .e k2 tb pb) : SX g W .e (k1 + k2) (tOp (rCatT g.K) ta tb) (pOp pCatT pa pb) := fun c hc N σ H ρ rp hk po xx hp hx Q q =>
  ha c hc N σ H ρ rp (by omega) _ xx hp (hx.sub (by omega)) _ fun x H1 d M1 hM1 hd r1 e1 hv1 =>
    hb c hc M1 σ H1 ρ r1 (by omega) _ xx hd (hx.sub (by omega)) _ fun y H2 e M2 hM2 he r2 e2 hv2 => by
      obtain ⟨ds, e3, he⟩ := onT_of he
      obtain ⟨es, e4, ⟨hz, hz2⟩, he9⟩ := onT_of he
      subst e3; subst e4
      subst hc
      have hv3 : RV c M2 ρ σ H2 .e x (.tup ds) := RV.ext (M := M1) (M' := M2) (by simp) e2 hv1
      obtain ⟨a, xs, rfl, h1, h2⟩ := RV.isTup (.inl rfl) hv3
      obtain ⟨b, ys, rfl, h3, h4⟩ := RV.isTup (.inl rfl) hv2
      refine ⟨a, b, xs, ys, rfl, rfl, h1, h3, fun z => hz (by cases h2 with | nil => rfl | cons => cases z), sz_of (by rw [pd_len h2, pd_len h4]; exact hz2), fun z => ?_, fun _ p hp => ?_⟩
      · have : es = [] := by subst z; cases h4; rfl
        subst this
        rw [List.append_nil] at he9
        exact q _ _ _ M2 (by omega) he9 r2 (e1.trans e2) hv3
      · exact q _ _ _ M2 (by omega) he9 (r2.new hp) ((e1.trans e2).trans (.of (Ex.new hp))) (rp_tupNew (fun a z => r2.bsAt z) hp (pd_app h2 h4))
/-! slices -/
def SO (g : Gx) (W : XW) (k : Nat) (to : TO) (p : Env → (Option Int → Prop) → (Exn → Prop) → Prop) : Prop :=
  ∀ c, c.g = g → ∀ N σ H ρ, Rep c N ρ σ H → N + k ≤ NM → ∀ po xx, p ρ po xx → Xf W c N k ρ σ xx → ∀ Q : Option Int → Hp → Prop, (∀ b H' M, M ≤ N + k → po b → Rep c M ρ σ H' → Ext (Sa ρ σ) H H' → Q b H') → to σ H Q
abbrev PO' := Env → (Option Int → Prop) → (Exn → Prop) → Prop
def oNo : PO' := fun _ po _ => po none
def oSome (pa : PX) : PO' := fun ρ po xx => pa ρ (fun d => onI d fun i => po (some i)) xx
variable {tl th : TO} {ol oh : PO'}
theorem so_none : SO g W 0 tNoPart oNo := fun c hc N σ H ρ rp hk po xx hp hx Q q => q none H N (by omega) hp rp Ext.refl
theorem so_some (ha : SX g W .t k ta pa) : SO g W k (tPart ta) (oSome pa) := fun c hc N σ H ρ rp hk po xx hp hx Q q =>
  ha c hc N σ H ρ rp hk _ xx hp hx _ fun x H1 d M1 hM1 hd r1 e1 hv1 => by
    obtain ⟨i, e0, hd9⟩ := onI_of hd
    subst e0
    have := rv_int hv1; subst this
    exact ⟨i, rfl, q _ H1 M1 hM1 hd9 r1 e1⟩
def cutD (ds : List D) (lo hi : Option Int) : List D := (ds.drop (HT.sIx ds.length 0 lo)).take (HT.sIx ds.length ds.length hi - HT.sIx ds.length 0 lo)
theorem cut_pd {R : V → D → Prop} {xs : List V} {ds : List D} (h : Paired R xs ds) (lo hi : Option Int) : Paired R (cutV xs lo hi) (cutD ds lo hi) := by
  unfold cutV cutD
  rw [pd_len h]
  exact pd_take _ (pd_drop _ h)
def pSl (f : D → Option Int → Option Int → (D → Prop) → Prop) (pa : PX) (ol oh : PO') : PX := fun ρ po xx => pa ρ (fun d => ol ρ (fun lo => oh ρ (fun hi => f d lo hi po) xx) xx) xx
def fSlL : D → Option Int → Option Int → (D → Prop) → Prop := fun d lo hi k => onL d fun ds => k (.lst (cutD ds lo hi))
theorem sx_slL (ha : SX g W .b k1 ta pa) (hl : SO g W k2 tl ol) (hh : SO g W k3 th oh) : SX g W .f (k1 + (k2 + k3)) (tSl (rSlL g.K) ta tl th) (pSl fSlL pa ol oh) := fun c hc N σ H ρ rp hk po xx hp hx Q q =>
  ha c hc N σ H ρ rp (by omega) _ xx hp (hx.sub (by omega)) _ fun x H1 d M1 hM1 hd r1 e1 hv1 =>
    hl c hc M1 σ H1 ρ r1 (by omega) _ xx hd (hx.sub (by omega)) _ fun lo H2 M2 hM2 hd2 r2 e2 =>
      hh c hc M2 σ H2 ρ r2 (by omega) _ xx hd2 (hx.sub (by omega)) _ fun hi H3 M3 hM3 hd3 r3 e3 => by
        obtain ⟨ds, e4, hd39⟩ := onL_of hd3
        subst e4; subst hc
        obtain ⟨a, xs, rfl, h1, h2⟩ := RV.isLst (.inr rfl) (RV.ext (md := .b) (M := M1) (M' := M3) (by simp) (e2.trans e3) hv1)
        exact ⟨a, xs, rfl, h1, fun p hp => q _ _ _ M3 (by omega) hd39 (r3.new hp) (((e1.trans e2).trans e3).trans (.of (Ex.new hp))) (rv_newL r3 hp (cut_pd h2 lo hi))⟩
def fSlT : D → Option Int → Option Int → (D → Prop) → Prop := fun d lo hi k => onT d fun ds => ¬ (HT.sIx ds.length 0 lo = 0 ∧ HT.sIx ds.length ds.length hi = ds.length) ∧ k (.tup (cutD ds lo hi))
theorem sx_slT (ha : SX g W .e k1 ta pa) (hl : SO g W k2 tl ol) (hh : SO g W k3 th oh) : SX g W .e (k1 + (k2 + k3)) (tSl (rSlT g.K) ta tl th) (pSl fSlT pa ol oh) := fun c hc N σ H ρ rp hk po xx hp hx Q q =>
  ha c hc N σ H ρ rp (by omega) _ xx hp (hx.sub (by omega)) _ fun x H1 d M1 hM1 hd r1 e1 hv1 =>
    hl c hc M1 σ H1 ρ r1 (by omega) _ xx hd (hx.sub (by omega)) _ fun lo H2 M2 hM2 hd2 r2 e2 =>
      hh c hc M2 σ H2 ρ r2 (by omega) _ xx hd2 (hx.sub (by omega)) _ fun hi H3 M3 hM3 hd3 r3 e3 => by
        obtain ⟨ds, e4, hn, hd39⟩ := onT_of hd3
        subst e4; subst hc
        obtain ⟨a, xs, rfl, h1, h2⟩ := RV.isTup (.inl rfl) (RV.ext (md := .e) (M := M1) (M' := M3) (by simp) (e2.trans e3) hv1)
        exact ⟨a, xs, rfl, h1, by rw [pd_len h2]; exact hn, fun p hp => q _ _ _ M3 (by omega) hd39 (r3.new hp) (((e1.trans e2).trans e3).trans (.of (Ex.new hp))) (rp_tupNew (fun a z => r3.bsAt z) hp (cut_pd h2 lo hi))⟩
def pRevL (pa : PX) : PX := fun ρ po xx => pa ρ (fun d => onL d fun ds => po (.lst ds.reverse)) xx
theorem sx_revL (ha : SX g W .b k ta pa) : SX g W .f k (tRevL g.K ta) (pRevL pa) := fun c hc N σ H ρ rp hk po xx hp hx Q q =>
  ha c hc N σ H ρ rp hk _ xx hp hx _ fun x H1 d M1 hM1 hd r1 e1 hv1 => by
    obtain ⟨ds, e4, hd9⟩ := onL_of hd
    subst e4; subst hc
    obtain ⟨a, xs, rfl, h1, h2⟩ := RV.isLst (.inr rfl) hv1
    exact ⟨a, xs, rfl, h1, fun p hp => q _ _ _ M1 hM1 hd9 (r1.new hp) (e1.trans (.of (Ex.new hp))) (rv_newL r1 hp (pd_rev h2))⟩
def pRevT (pa : PX) : PX := fun ρ po xx => pa ρ (fun d => onT d fun ds => match ds with | [u, w] => po (.tup [w, u]) | _ => False) xx
theorem sx_revT (ha : SX g W .e k ta pa) : SX g W .e k (tRevT g.K ta) (pRevT pa) := fun c hc N σ H ρ rp hk po xx hp hx Q q =>
  ha c hc N σ H ρ rp hk _ xx hp hx _ fun x H1 d M1 hM1 hd r1 e1 hv1 => by
    obtain ⟨ds, e4, hd9⟩ := onT_of hd
    subst e4; subst hc
    obtain ⟨a, xs, rfl, h1, h2⟩ := RV.isTup (.inl rfl) hv1
    match ds, hd9, h2 with
    | [u, w], hd9, h2 =>
      obtain ⟨y, z, rfl, h3, h4⟩ := pd2 h2
      exact ⟨a, y, z, rfl, h1, fun p hp => q _ _ _ M1 hM1 hd9 (r1.new hp) (e1.trans (.of (Ex.new hp))) (rp_tupNew (fun a z => r1.bsAt z) hp (.cons h4 (.cons h3 .nil)))⟩
/-! built-in functions -/
abbrev PB := List D → (D → Prop) → Prop
def D.len? : D → Option Nat
  | .lst ds => some ds.length
  | .tup ds => some ds.length
  | .scr ns => some ns.length
  | _ => none
def pLen : PB := fun us k => match us with
  | [d] => ∃ n, d.len? = some n ∧ k (.int (n : Int))
  | _ => False
theorem oa_len : OpA K (Evl.rLenS K) pLen := fun H B xs ds h po Q hp q => by
  match ds, hp, h with
  | [d], ⟨n, hn, hp⟩, h =>
    obtain ⟨x, rfl, hx⟩ := pd1 h
    cases hx with
    | lst h1 h2 => simp [D.len?] at hn; subst hn; exact ⟨_, _, rfl, .inl h1.sq, by rw [pd_len h2]; exact q _ _ hp (.int _)⟩
    | tup h1 h2 => simp [D.len?] at hn; subst hn; exact ⟨_, _, rfl, .inr h1.sq, by rw [pd_len h2]; exact q _ _ hp (.int _)⟩
    | scr h1 => simp [D.len?] at hn; subst hn; exact ⟨_, _, rfl, .inl h1.sq, by rw [List.length_map]; exact q _ _ hp (.int _)⟩
    | _ => simp [D.len?] at hn
theorem rp_ints {B : AS} : ∀ {vs : List V} {ns : List Int}, RpA K H B vs (ns.map D.int) → vs = ns.map V.int
  | _, [], h => by cases h; rfl
  | _, n :: ns, h => by
    cases h with
    | cons h r => cases h; rw [rp_ints r]; rfl
theorem rp_bls {B : AS} : ∀ {vs : List V} {ns : List Bool}, RpA K H B vs (ns.map D.bl) → vs = ns.map V.bl
  | _, [], h => by cases h; rfl
  | _, n :: ns, h => by
    cases h with
    | cons h r => cases h; rw [rp_bls r]; rfl
def pSum : PB := fun us k => ∃ ns : List Int, us = [.lst (ns.map D.int)] ∧ k (.int ns.sum)
theorem oa_sum : OpA K (rSum K) pSum := fun H B xs ds h po Q ⟨ns, e, hp⟩ q => by
  subst e
  obtain ⟨x, rfl, hx⟩ := pd1 h
  cases hx with
  | lst h1 h2 => exact ⟨_, ns, rfl, by rw [← rp_ints h2]; exact h1.sq, q _ _ hp (.int _)⟩
def pAll : PB := fun us k => ∃ ns : List Bool, us = [.lst (ns.map D.bl)] ∧ k (.bl (ns.all id))
def pAny : PB := fun us k => ∃ ns : List Bool, us = [.lst (ns.map D.bl)] ∧ k (.bl (ns.any id))
theorem oa_all : OpA K (rAll K) pAll := fun H B xs ds h po Q ⟨ns, e, hp⟩ q => by
  subst e
  obtain ⟨x, rfl, hx⟩ := pd1 h
  cases hx with
  | lst h1 h2 => exact ⟨_, ns, rfl, by rw [← rp_bls h2]; exact h1.sq, q _ _ hp (.bl _)⟩
theorem oa_any : OpA K (rAny K) pAny := fun H B xs ds h po Q ⟨ns, e, hp⟩ q => by
  subst e
  obtain ⟨x, rfl, hx⟩ := pd1 h
  cases hx with
  | lst h1 h2 => exact ⟨_, ns, rfl, by rw [← rp_bls h2]; exact h1.sq, q _ _ hp (.bl _)⟩
def pMaxL : PB := fun us k => ∃ ns : List Int, us = [.lst (ns.map D.int)] ∧ 0 < ns.length ∧ ∀ m, m ∈ ns → (∀ y, y ∈ ns → y ≤ m) → k (.int m)
def pMinL : PB := fun us k => ∃ ns : List Int, us = [.lst (ns.map D.int)] ∧ 0 < ns.length ∧ ∀ m, m ∈ ns → (∀ y, y ∈ ns → m ≤ y) → k (.int m)
theorem oa_maxL : OpA K (rMax K) pMaxL := fun H B xs ds h po Q ⟨ns, e, h0, hp⟩ q => by
  subst e
  obtain ⟨x, rfl, hx⟩ := pd1 h
  cases hx with
  | lst h1 h2 => exact ⟨_, ns, rfl, by rw [← rp_ints h2]; exact h1.sq, h0, fun m z1 z2 => q _ _ (hp m z1 z2) (.int _)⟩
theorem oa_minL : OpA K (rMin K) pMinL := fun H B xs ds h po Q ⟨ns, e, h0, hp⟩ q => by
  subst e
  obtain ⟨x, rfl, hx⟩ := pd1 h
  cases hx with
  | lst h1 h2 => exact ⟨_, ns, rfl, by rw [← rp_ints h2]; exact h1.sq, h0, fun m z1 z2 => q _ _ (hp m z1 z2) (.int _)⟩
def pII (f : Int → Int → Int) : PB := fun us k => match us with
  | [.int i, .int j] => k (.int (f i j))
  | _ => False
theorem pII_of {f : Int → Int → Int} {us : List D} {k : D → Prop} (h : pII f us k) : ∃ i j, us = [.int i, .int j] ∧ k (.int (f i j)) := by
  unfold pII at h; split at h
  · exact ⟨_, _, rfl, h⟩
  · exact h.elim
def pMax2 : PB := pII fun i j => if j > i then j else i
def pMin2 : PB := pII fun i j => if j < i then j else i
def pGcd : PB := pII fun i j => ((Nat.gcd i.natAbs j.natAbs : Nat) : Int)
theorem rp_ii {B : AS} {xs : List V} {i j : Int} (h : RpA K H B xs [.int i, .int j]) : xs = [.int i, .int j] := by
  obtain ⟨x, y, rfl, h1, h2⟩ := pd2 h
  cases h1; cases h2; rfl
theorem oa_max2 : OpA K Evl.rMax2 pMax2 := fun H B xs ds h po Q hp q => by
  obtain ⟨i, j, rfl, hp⟩ := pII_of hp
  exact ⟨i, j, rp_ii h, q _ _ hp (.int _)⟩
theorem oa_min2 : OpA K rMin2 pMin2 := fun H B xs ds h po Q hp q => by
  obtain ⟨i, j, rfl, hp⟩ := pII_of hp
  exact ⟨i, j, rp_ii h, q _ _ hp (.int _)⟩
theorem oa_gcd : OpA K rGcd pGcd := fun H B xs ds h po Q hp q => by
  obtain ⟨i, j, rfl, hp⟩ := pII_of hp
  exact ⟨i, j, rp_ii h, q _ _ hp (.int _)⟩
def pAbs : PB := fun us k => match us with
  | [.int i] => k (.int (if i < 0 then -i else i))
  | _ => False
theorem oa_abs : OpA K rAbsI pAbs := fun H B xs ds h po Q hp q => by
  match ds, hp, h with
  | [.int i], hp, h =>
    obtain ⟨x, rfl, hx⟩ := pd1 h
    cases hx
    exact ⟨i, rfl, q _ _ hp (.int _)⟩
def pInt1 : PB := fun us k => match us with
  | [.int i] => k (.int i)
  | [.bl b] => k (.int (if b then 1 else 0))
  | _ => False
theorem oa_int1 : OpA K rInt1 pInt1 := fun H B xs ds h po Q hp q => by
  match ds, hp, h with
  | [.int i], hp, h =>
    obtain ⟨x, rfl, hx⟩ := pd1 h
    cases hx
    exact .inl ⟨i, rfl, q _ _ hp (.int _)⟩
  | [.bl b], hp, h =>
    obtain ⟨x, rfl, hx⟩ := pd1 h
    cases hx
    exact .inr ⟨b, rfl, q _ _ hp (.int _)⟩
def D.tyN : D → Option String
  | .non => some "NoneType"
  | .bl _ => some "bool"
  | .int _ => some "int"
  | .str _ => some "str"
  | .lst _ => some "list"
  | .tup _ => some "tuple"
  | _ => none
theorem ty_of {B : AS} {s : String} (h : Rp K H B v d) (e : d.tyN = some s) : zTyV v H = some s := by
  cases h with
  | lst h1 h2 => simp [D.tyN] at e; subst e; simp only [zTyV, h1.1]
  | tup h1 h2 => simp [D.tyN] at e; subst e; simp only [zTyV, h1.1]
  | _ => simp [D.tyN] at e <;> subst e <;> rfl
def pType : PB := fun us k => match us with
  | [d] => ∃ s, d.tyN = some s ∧ k (.ty s)
  | _ => False
theorem oa_type : OpA K (r1 kTyp) pType := fun H B xs ds h po Q hp q => by
  match ds, hp, h with
  | [d], ⟨s, hs, hp⟩, h =>
    obtain ⟨x, rfl, hx⟩ := pd1 h
    exact ⟨s, ty_of hx hs, q _ _ hp (.ty s)⟩
/-- isinstance(x, c), c a built-in class -/
def D.tyI : D → Option String
  | .dk _ => some "dict"
  | .scr _ => some "list"
  | d => d.tyN
def pIsi : PB := fun us k => match us with
  | [d, .ty c] => ∃ s b, d.tyI = some s ∧ kitB s c = some b ∧ k (.bl b)
  | _ => False
theorem tyx_of {B : AS} {s : String} (h : Rp K H B v d) (e : d.tyI = some s) : TyX K H v (.type s) := by
  cases h with
  | lst h1 h2 => simp [D.tyI, D.tyN] at e; subst e; exact .base (.lst h1.1)
  | tup h1 h2 => simp [D.tyI, D.tyN] at e; subst e; exact .base (.tup h1.1)
  | dk h1 h2 => simp [D.tyI, D.tyN] at e; subst e; exact .base (.dK h1)
  | scr h1 =>
    simp [D.tyI, D.tyN] at e; subst e
    rcases h1 with ⟨h1, _⟩ | ⟨o, its, n, h1, h2, _⟩
    · rcases h1 with h1 | ⟨o, h1⟩
      · exact .base (.lst h1)
      · exact .base (.frz h1)
    · exact .kList h1 h2
  | non => simp [D.tyI, D.tyN] at e; subst e; exact .base .non
  | bl b => simp [D.tyI, D.tyN] at e; subst e; exact .base (.bl b)
  | int b => simp [D.tyI, D.tyN] at e; subst e; exact .base (.int b)
  | str b => simp [D.tyI, D.tyN] at e; subst e; exact .base (.str b)
  | ty => simp [D.tyI, D.tyN] at e
  | ad => simp [D.tyI, D.tyN] at e
  | cls => simp [D.tyI, D.tyN] at e
  | exc0 => simp [D.tyI, D.tyN] at e
  | exc1 => simp [D.tyI, D.tyN] at e
  | ml => simp [D.tyI, D.tyN] at e
theorem oa_isi : OpA K (rIsi K) pIsi := fun H B xs ds h po Q hp q => by
  match ds, hp, h with
  | [d, .ty c], ⟨s, b, hs, hb, hp⟩, h =>
    obtain ⟨x, y, rfl, hx, hy⟩ := pd2 h
    cases hy
    exact ⟨x, .ty c, .type s, .type c, b, rfl, .ty c, tyx_of hx hs, kit_ty hb, q _ _ hp (.bl b)⟩
/-- repr -/
structure pRepr (us : List D) (k : D → Prop) : Prop where
  go : match us with
    | [d] => ∃ x, d.pq = some x ∧ okB x ∧ x.depth ≤ 40 ∧ x.shown.length ≤ sizeLine ∧ k (.str x.shown)
    | _ => False
theorem oa_repr : OpA K (rReprB K) pRepr := fun H B xs ds h po Q hp q => by
  match ds, hp, h with
  | [d], ⟨⟨x, h1, h2, h3, h4, hp⟩⟩, h =>
    obtain ⟨v, rfl, hx⟩ := pd1 h
    exact ⟨v, x, rfl, dq_of d v x h1 hx, h2, h3, h4, q _ _ hp (.str _)⟩
/-- list(x), tuple(x) of a list or a tuple -/
def pListOf (pa : PX) : PX := fun ρ po xx => pa ρ (fun d => ∃ ds, d.items = some ds ∧ po (.lst ds)) xx
def pTupOf (pa : PX) : PX := fun ρ po xx => pa ρ (fun d => ∃ ds, d.items = some ds ∧ po (.tup ds)) xx
theorem RV.its {ds : List D} (h : RV c M ρ σ H .b v d) (e : d.items = some ds) : ∃ p xs, v = .ref p ∧ (SqL c.g.K H p xs ∨ SqT c.g.K H p xs) ∧ RpA c.g.K H (Bs c ρ σ) xs ds := by
  rcases h with h | ⟨a, vs, es, e1, e2, h3, h4, h5⟩
  · exact items_rp h e
  · subst e2; simp [D.items] at e; subst e
    exact ⟨a, vs, e1, .inl (sq_of h3), h5⟩
theorem sx_listOf (ha : SX g W .b k ta pa) : SX g W .f k (tCB (Evl.rListS g.K) (tCons ta tNil)) (pListOf pa) := fun c hc N σ H ρ rp hk po xx hp hx Q q =>
  ha c hc N σ H ρ rp hk _ xx hp hx _ fun x H1 d M1 hM1 ⟨ds, hd, hp⟩ r1 e1 hv1 => by
    subst hc
    obtain ⟨p, xs, rfl, h1, h2⟩ := hv1.its hd
    exact ⟨p, xs, rfl, h1, fun l hl => q _ _ _ M1 hM1 hp (r1.new hl) (e1.trans (.of (Ex.new hl))) (rv_newL r1 hl h2)⟩
theorem sx_tupOf (ha : SX g W .b k ta pa) : SX g W .e k (tCB (rTupS g.K) (tCons ta tNil)) (pTupOf pa) := fun c hc N σ H ρ rp hk po xx hp hx Q q =>
  ha c hc N σ H ρ rp hk _ xx hp hx _ fun x H1 d M1 hM1 ⟨ds, hd, hp⟩ r1 e1 hv1 => by
    subst hc
    rcases hv1 with hv | ⟨a, vs, es, e3, e2, h3, h4, h5⟩
    · cases hv with
      | lst h1 h2 =>
        simp [D.items] at hd; subst hd
        exact ⟨_, _, rfl, .inl ⟨h1.sq, fun l hl => q _ _ _ M1 hM1 hp (r1.new hl) (e1.trans (.of (Ex.new hl))) (rp_tupNew (fun a z => r1.bsAt z) hl h2)⟩⟩
      | tup h1 h2 =>
        simp [D.items] at hd; subst hd
        exact ⟨_, _, rfl, .inr ⟨h1.sq, q _ _ _ M1 hM1 hp r1 e1 (.tup h1 h2)⟩⟩
      | _ => simp [D.items] at hd
    · subst e2; simp [D.items] at hd; subst hd; subst e3
      exact ⟨a, vs, rfl, .inl ⟨sq_of h3, fun l hl => q _ _ _ M1 hM1 hp (r1.new hl) (e1.trans (.of (Ex.new hl))) (rp_tupNew (fun a z => r1.bsAt z) hl h5)⟩⟩
/-! calls by keywords alone -/
theorem rot_pd {α β : Type} {R : α → β → Prop} {xs : List α} {ys : List β} (h : Paired R xs ys) : ∀ is : List Nat, Paired R (rot is xs) (rot is ys)
  | [] => .nil
  | i :: is => by
    have ih := rot_pd h is
    unfold rot at ih ⊢
    cases e : ys[i]? with
    | none =>
      have e' : xs[i]? = none := by
        rw [List.getElem?_eq_none_iff] at e ⊢
        rw [pd_len h]; exact e
      rw [List.filterMap_cons, List.filterMap_cons, e, e']
      exact ih
    | some y =>
      obtain ⟨x, e', r⟩ := pd_get' h e
      rw [List.filterMap_cons, List.filterMap_cons, e, e']
      exact .cons r ih
def pCallK (n : Nat) (is : List Nat) (n' : Nat) (G : GD) (pa : PXs) : PX := fun ρ po xx => pa ρ (fun zs => zs.length = n ∧ (rot is zs).length = n' ∧ G (rot is zs) po xx) xx
def pCallKL (mr : Md) (n : Nat) (is : List Nat) (n' : Nat) (G : GD) (pa : PXs) : PX := fun ρ po xx => pCallK n is n' G pa ρ (fun d => (mr = .e ∧ d.lf = true ∨ mr = .f ∧ d.lfi = true) ∧ po d) xx
theorem sx_callKE {G : GD} {is : List Nat} {n' : Nat} (hm : mr = .e ∨ mr = .f) (ha : SA g W .e k1 tr pr) : SX g W mr (k1 + k) (tCallKS n is (spD g n' false mr k G) (WE W) tr) (pCallK n is n' G pr) := fun c hc N σ H ρ r hk po xx hp hx Q q =>
  ha c hc N σ H ρ r (by omega) _ xx hp (hx.sub (by omega)) _ fun vs H1 ds M1 hM1 ⟨hn, hl, hG⟩ r1 e1 hv => ⟨by rw [pd_len hv]; exact hn,
    call_core (A := Bs c ρ σ) r1 hc (fun a => sa_bs) (fun a => r1.bsAt) none (fun a z => by cases z) (rot_pd hv is) hl rfl (by omega) hG
      (fun v H' d M' hM hd r' e' hF hr => q v H' d M' (by omega) hd r' (e1.trans e') (ra_ef r1 hF hm hr)) (fun e cls dd H' M' hM z hr r' => hx e cls dd H' M' (by omega) z hr r')⟩
theorem sx_callKL {G : GD} {is : List Nat} {n' : Nat} (ha : SA g W .t k1 tr pr) : SX g W .f (k1 + k) (tCallKS n is (spD g n' false mr k G) (WE W) tr) (pCallKL mr n is n' G pr) := fun c hc N σ H ρ r hk po xx hp hx Q q =>
  ha c hc N σ H ρ r (by omega) _ xx hp (hx.sub (by omega)) _ fun vs H1 ds M1 hM1 ⟨hn, hl, hG⟩ r1 e1 hv => ⟨by rw [pd_len hv]; exact hn,
    call_core (A := Sa ρ σ) r1 hc (fun a z => z) (fun a z => r1.bsAt (sa_bs z)) none (fun a z => by cases z) (rot_pd hv is) hl rfl (by omega) hG
      (fun v H' d M' hM hd r' e' hF hr => q v H' d M' (by omega) hd.2 r' (e1.trans e') (ra_lf r1 r' hF hd.1 hr)) (fun e cls dd H' M' hM z hr r' => hx e cls dd H' M' (by omega) z hr r')⟩
end
end PD

/-! what else is met; help for the words' own proofs -/
namespace PD
open PySem PySem.Spec PyProof.Rows L2 Evl SL
section
variable {g : Gx} {W : XW} {mr : Md} {c : Cf} {N M M' L L' k k' k1 k2 k3 n m : Nat} {ρ ρ' : Env} {σ σ' : L2.St} {H H' : Hp} {md : Md} {v : V} {d : D} {ta tb tc te : TE} {pa pb pc : PX} {tr : TA} {pr : PXs} {K : PySem.W.Frag} {t : TS} {p : PS'} {κ : PK}
theorem SS.mono (h : SS g W mr k t p) (e : k ≤ k') : SS g W mr k' t p := fun c hc N σ H ρ r hk κ hp D hD => h c hc N σ H ρ r (by omega) κ hp D (hD.sub (by omega))
theorem SX.mono (h : SX g W md k ta pa) (e : k ≤ k') : SX g W md k' ta pa := fun c hc N σ H ρ r hk po xx hp hx Q q => h c hc N σ H ρ r (by omega) po xx hp (hx.sub (by omega)) Q fun v H' d M hM => q v H' d M (by omega)
theorem sa_ct (ha : SX g W .t k1 ta pa) (hr : SA g W .t k2 tr pr) : SA g W .t (k1 + k2) (tCons ta tr) (pCons pa pr) := sa_cons (by simp) ha hr
theorem sa_ce (ha : SX g W .e k1 ta pa) (hr : SA g W .e k2 tr pr) : SA g W .e (k1 + k2) (tCons ta tr) (pCons pa pr) := sa_cons (by simp) ha hr
theorem sa_cb (ha : SX g W .b k1 ta pa) (hr : SA g W .b k2 tr pr) : SA g W .b (k1 + k2) (tCons ta tr) (pCons pa pr) := sa_cons (by simp) ha hr
def qYes : PXb := fun _ po _ => po true
theorem sx_andVe (ha : SX g W .t k1 ta pa) (hb : SX g W .e k2 tb pb) : SX g W .e (k1 + k2) (tAndV ta tb) (pAndV pa pb) := fun c hc N σ H ρ rp hk po xx hp hx Q q =>
  ha c hc N σ H ρ rp (by omega) _ xx hp (hx.sub (by omega)) _ fun x H1 d M1 hM1 hd r1 e1 hv1 => by
    obtain ⟨b, e0, h0⟩ := onB_of hd
    clear hd; subst e0
    refine ⟨b, rv_bl hv1, ?_⟩
    cases b with
    | true =>
      rw [if_pos rfl] at h0 ⊢
      exact hb c hc M1 σ H1 ρ r1 (by omega) po xx h0 (hx.sub (by omega)) Q fun v H2 d M2 hM2 hb r2 e2 hv => q v H2 d M2 (by omega) hb r2 (e1.trans e2) hv
    | false =>
      rw [if_neg (by decide)] at h0 ⊢
      exact q _ H1 _ M1 (by omega) h0 r1 e1 (.bl false)
theorem sx_orVe (ha : SX g W .t k1 ta pa) (hb : SX g W .e k2 tb pb) : SX g W .e (k1 + k2) (tOrV ta tb) (pOrV pa pb) := fun c hc N σ H ρ rp hk po xx hp hx Q q =>
  ha c hc N σ H ρ rp (by omega) _ xx hp (hx.sub (by omega)) _ fun x H1 d M1 hM1 hd r1 e1 hv1 => by
    obtain ⟨b, e0, h0⟩ := onB_of hd
    clear hd; subst e0
    refine ⟨b, rv_bl hv1, ?_⟩
    cases b with
    | false =>
      rw [if_neg (by decide)] at h0 ⊢
      exact hb c hc M1 σ H1 ρ r1 (by omega) po xx h0 (hx.sub (by omega)) Q fun v H2 d M2 hM2 hb r2 e2 hv => q v H2 d M2 (by omega) hb r2 (e1.trans e2) hv
    | true =>
      rw [if_pos rfl] at h0 ⊢
      exact q _ H1 _ M1 (by omega) h0 r1 e1 (.bl true)
def rAddSt : R2 := fun x y H Q => ∃ i j, x = .str i ∧ y = .str j ∧ i.length + j.length ≤ sizeLine ∧ Q (.str (i ++ j)) H
def pAddS : P2 := fun x y k => match x, y with
  | .str a, .str b => a.length + b.length ≤ 100000 ∧ k (.str (a ++ b))
  | _, _ => False
theorem os_addS : OpS K rAddSt pAddS := fun H B x y d e hx hy po Q hp q => by
  unfold pAddS at hp; split at hp
  · cases hx; cases hy
    exact ⟨_, _, rfl, rfl, sz_of hp.1, q _ _ hp.2 (.str _)⟩
  · exact hp.elim
def pDict : PX := fun _ po _ => po .emp
theorem sx_dict : SX g W .e 0 tDNewK pDict := fun c hc N σ H ρ rp hk po xx hp hx Q q => fun p hp' => q _ _ _ N (by omega) hp (rp.new hp') (.of (Ex.new hp')) (.dk (kvs := []) upd_same fun z => rp.bs_ne z hp' rfl)
/-- {i: j} -/
def pDisp1 (i j : Int) : PX := fun _ po _ => po (.dk [(i, j)])
theorem sx_disp1 {i j : Int} : SX g W .e 0 (tDisp [(tC (.int i), tC (.int j))]) (pDisp1 i j) := fun c hc N σ H ρ rp hk po xx hp hx Q q => fun p hp' => by
  refine ⟨upd_same, [(.inl i, .int j)], rfl, by show 1 ≤ 15; decide, ?_⟩
  have ex : Ex H (upd (upd H p (.dK [])) p (.dK (kvD [(i, j)]))) := fun a o e => by
    rw [upd_ne (ne_of_none e hp'), upd_ne (ne_of_none e hp')]; exact e
  exact q _ _ _ N (by omega) hp (rp.ex ex) (.of ex) (.dk (kvs := [(i, j)]) upd_same fun z => rp.bs_ne z hp' rfl)
/-- type(x), a dict among them -/
def D.tyB : D → Option String
  | .dk _ => some "dict"
  | .scr _ => some "list"
  | d => d.tyN
def pTyp : PB := fun us k => match us with
  | [d] => ∃ s, d.tyB = some s ∧ k (.ty s)
  | _ => False
theorem tyB_of {B : AS} {s : String} (h : Rp K H B v d) (e : d.tyB = some s) : TyB K H v s := by
  cases h with
  | lst h1 h2 => simp [D.tyB, D.tyN] at e; subst e; exact .lst h1.sq
  | tup h1 h2 => simp [D.tyB, D.tyN] at e; subst e; exact .tup h1.sq
  | dk h1 h2 => simp [D.tyB, D.tyN] at e; subst e; exact .dK h1
  | scr h1 => simp [D.tyB, D.tyN] at e; subst e; exact .lst h1.sq
  | non => simp [D.tyB, D.tyN] at e; subst e; exact .non
  | bl b => simp [D.tyB, D.tyN] at e; subst e; exact .bl b
  | int b => simp [D.tyB, D.tyN] at e; subst e; exact .int b
  | str b => simp [D.tyB, D.tyN] at e; subst e; exact .str b
  | ty => simp [D.tyB, D.tyN] at e
  | ad => simp [D.tyB, D.tyN] at e
  | cls => simp [D.tyB, D.tyN] at e
  | exc0 => simp [D.tyB, D.tyN] at e
  | exc1 => simp [D.tyB, D.tyN] at e
  | ml => simp [D.tyB, D.tyN] at e
theorem oa_typ : OpA K (L2.rTyp K) pTyp := fun H B xs ds h po Q hp q => by
  match ds, hp, h with
  | [d], ⟨s, hs, hp⟩, h =>
    obtain ⟨x, rfl, hx⟩ := pd1 h
    exact ⟨x, s, rfl, tyB_of hx hs, q _ _ hp (.ty s)⟩
/-- a new source -/
def spS (g : Gx) (n : Nat) (G : List D → Prop) : Sp := fun vs H Q _ => ∃ (A : AS) (ds : List D), ds.length = n ∧ RpA g.K H A vs ds ∧ G ds ∧ ∀ p H', H p = none → Ex H H' → (∃ ws, H' p = some (.lst ws) ∧ g.Wf 0 ws) → Q (.ref p) H'
def kAsgS (i : Nat) (G : List D → Prop) (pa : PXs) : PS' := fun κ ρ => pa ρ (fun ds => G ds ∧ κ.nx (ρ.set i (some .s))) (κ.xx ρ)
theorem ss_asgS {i : Nat} {G : List D → Prop} (ha : SA g W .t k tr pr) (hn : ∀ ds, G ds → ds.length = n) : SS g W mr k (tAsg (tCallS (spS g n G) (WE W) tr) (gName i)) (kAsgS i G pr) := fun c hc N σ H ρ r hk κ hp D hD => by
  refine ha c hc N σ H ρ r hk _ _ hp (hD.xf (by omega)) _ fun vs H1 ds M1 hM1 ⟨hG, hd⟩ r1 e1 hv => ?_
  subst hc
  refine ⟨Sa ρ σ, ds, hn ds hG, hv, hG, fun p H2 hp2 e2 ⟨ws, h1, h2⟩ => ?_⟩
  have rF := r1.addF (M := M1) hp2 (.of e2) (fun a z => by
    obtain ⟨us, g1, g2⟩ := r1.srcs a z
    exact ⟨us, e2 _ _ g1, g2⟩) (Nat.le_refl _) h1
  exact hD.nx _ _ _ M1 hM1 hd (rF.setOwn (w := .s) trivial (r1.freshH0 hp2) (fun xs e => by cases e) (fun _ => ⟨ws, h1, c.g.wm _ _ _ (Nat.zero_le _) h2⟩) fun z => r1.bs_ne (.inl z) hp2 rfl)
/-! introductions -/
theorem ite_t {b : Bool} {A B : Prop} (hb : b = true) (h : A) : (if b = true then A else B) := by rw [if_pos hb]; exact h
theorem ite_f {b : Bool} {A B : Prop} (hb : b = false) (h : B) : (if b = true then A else B) := by rw [if_neg (by rw [hb]; decide)]; exact h

theorem lc_ind {pw : PXs} {pg : PGt} {bt : PXb} {pe : PX} {vs : List Nat} {po : D → Prop} {xx : Exn → Prop} {ds : List D} (hc : clr ρ vs = true) (hw : ∀ q : List D → Prop, q ds → pw ρ q xx) (hl : ds.length ≤ 90000) (I : Nat → List D → Prop) (h0 : I 0 [])
    (hs : ∀ i d acc, ds[i]? = some d → acc.length ≤ i → I i acc → pLcTurn pg bt pe (wipeE ρ vs) d acc (I (i + 1))) (hd : ∀ acc, I ds.length acc → po (.lst acc)) : LcAll pw pg bt pe vs ρ po xx := ⟨⟨hc, hw _ ⟨hl, I, h0, hs, hd⟩⟩⟩
/-- each item gives its value -/
theorem lc_map {pw : PXs} {pg : PGt} {pe : PX} {vs : List Nat} {po : D → Prop} {xx : Exn → Prop} {ds : List D} (f : D → D) (hc : clr ρ vs = true) (hw : ∀ q : List D → Prop, q ds → pw ρ q xx) (hl : ds.length ≤ 90000)
    (hs : ∀ d, d ∈ ds → ∃ ρ', pg d (wipeE ρ vs) = some ρ' ∧ ∀ q : D → Prop, q (f d) → pe ρ' q (fun _ => False)) (hd : po (.lst (ds.map f))) : LcAll pw pg qYes pe vs ρ po xx := by
  refine lc_ind hc hw hl (fun i acc => acc = (ds.take i).map f) rfl ?_ fun acc e => by rw [e, List.take_length]; exact hd
  rintro i d acc hi _ rfl
  obtain ⟨ρ', h1, h2⟩ := hs d (List.mem_of_getElem? hi)
  unfold pLcTurn
  rw [h1]
  simp only [qYes, if_true]
  refine h2 _ ?_
  rw [List.take_add_one, hi, List.map_append]
  rfl
/-- .. that pass a test -/
theorem lc_filter {pw : PXs} {pg : PGt} {bt : PXb} {pe : PX} {vs : List Nat} {po : D → Prop} {xx : Exn → Prop} {ds : List D} (b : D → Bool) (f : D → D) (hc : clr ρ vs = true) (hw : ∀ q : List D → Prop, q ds → pw ρ q xx) (hl : ds.length ≤ 90000)
    (hs : ∀ d, d ∈ ds → ∃ ρ', pg d (wipeE ρ vs) = some ρ' ∧ (∀ q : Bool → Prop, q (b d) → bt ρ' q (fun _ => False)) ∧ (b d = true → ∀ q : D → Prop, q (f d) → pe ρ' q (fun _ => False))) (hd : po (.lst ((ds.filter b).map f))) : LcAll pw pg bt pe vs ρ po xx := by
  refine lc_ind hc hw hl (fun i acc => acc = ((ds.take i).filter b).map f) rfl ?_ fun acc e => by rw [e, List.take_length]; exact hd
  rintro i d acc hi _ rfl
  obtain ⟨ρ', h1, h2, h3⟩ := hs d (List.mem_of_getElem? hi)
  unfold pLcTurn
  rw [h1]
  refine h2 _ ?_
  rw [List.take_add_one, hi, List.filter_append, List.map_append]
  cases hb : b d with
  | true =>
    rw [if_pos rfl]
    refine h3 hb _ ?_
    simp [hb]
  | false =>
    rw [if_neg (by decide)]
    simp [hb]
theorem for_ind {pw : PXs} {pg : PGt} {p : PS'} {ds : List D} (hw : ∀ q : List D → Prop, q ds → pw ρ q (κ.xx ρ)) (hl : ds.length ≤ 100000) (I : Nat → Env → Prop) (h0 : I 0 ρ)
    (hs : ∀ i d ρ, ds[i]? = some d → I i ρ → kForTurn pg p κ ρ d (I (i + 1))) (hd : ∀ ρ, I ds.length ρ → κ.nx ρ) : ForAll pw pg p κ ρ := ⟨hw _ ⟨hl, I, h0, hs, hd⟩⟩
/-- a loop whose end is known from what is behind each turn -/
def forGo (pg : PGt) (p : PS') (κ : PK) : List D → Env → Prop
  | [], ρ => κ.nx ρ
  | d :: ds, ρ => kForTurn pg p κ ρ d (forGo pg p κ ds)
theorem for_go {pw : PXs} {pg : PGt} {p : PS'} {ds : List D} (hw : ∀ q : List D → Prop, q ds → pw ρ q (κ.xx ρ)) (hl : ds.length ≤ 100000) (h : forGo pg p κ ds ρ) : ForAll pw pg p κ ρ := by
  refine for_ind hw hl (fun i ρ => forGo pg p κ (ds.drop i) ρ) h (fun i d ρ hi h => ?_) fun ρ h => by rw [List.drop_length] at h; exact h
  have hlt := (List.getElem?_eq_some_iff.mp hi).1
  rw [List.drop_eq_getElem_cons hlt] at h
  rw [List.getElem?_eq_getElem hlt] at hi
  rw [Option.some.inj hi] at h
  exact h
end
end PD

/-! comprehensions of two clauses -/
namespace PD
open PySem PySem.Spec PyProof.Rows L2 Evl SL
structure Lc2In (pw1 : PXs) (pg1 : PGt) (pe : PX) (vs1 : List Nat) (ρ' : Env) (acc : List D) (Nx : List D → Prop) : Prop where
  out : clr ρ' vs1 = true ∧ pw1 ρ' (fun es => es.length ≤ 300 ∧ ∃ J : Nat → List D → Prop, J 0 acc ∧
  (∀ j e acc', es[j]? = some e → J j acc' → match pg1 e (wipeE ρ' vs1) with | some ρ'' => pe ρ'' (fun y => J (j + 1) (acc' ++ [y])) (fun _ => False) | none => False) ∧ ∀ acc', J es.length acc' → Nx acc') (fun _ => False)
structure Lc2All (pw : PXs) (pg : PGt) (pw1 : PXs) (pg1 : PGt) (pe : PX) (vs vs1 : List Nat) (ρ : Env) (po : D → Prop) (xx : Exn → Prop) : Prop where
  out : clr ρ vs = true ∧ pw ρ (fun ds => ds.length ≤ 300 ∧ ∃ I : Nat → List D → Prop, I 0 [] ∧
  (∀ i d acc, ds[i]? = some d → I i acc → match pg d (wipeE ρ vs) with | some ρ' => Lc2In pw1 pg1 pe vs1 ρ' acc (I (i + 1)) | none => False) ∧ ∀ acc, I ds.length acc → po (.lst acc)) xx
def pLc2 (pw : PXs) (pg : PGt) (pw1 : PXs) (pg1 : PGt) (pe : PX) (vs vs1 : List Nat) : PX := Lc2All pw pg pw1 pg1 pe vs vs1
section
variable {g : Gx} {W : XW} {mr : Md} {c : Cf} {N M M' L L' k k1 k2 k3 k4 : Nat} {ρ ρ' : Env} {σ σ' : L2.St} {H H' : Hp} {md : Md} {v : V} {d : D} {te : TE} {tt : TT} {pe : PX} {wi wi1 : TI} {pw pw1 : PXs} {gt gt1 : TG} {pg pg1 : PGt} {is is1 : List Nat}
theorem sx_lc2 {vs vs1 : List Nat} (hw : SW g W .b k1 wi pw) (hg : SG g is gt pg) (his : ∀ i ∈ is, i ∈ vs) (hw1 : SW g W .b k2 wi1 pw1) (hg1 : SG g is1 gt1 pg1) (his1 : ∀ i ∈ is1, i ∈ vs1) (he : SX g W .e k3 te pe) :
    SX g W .f (k1 + 300 * (k2 + 300 * k3)) (tLc2 wi gt tYes wi1 gt1 tYes te vs vs1) (pLc2 pw pg pw1 pg1 pe vs vs1) := fun c hc N σ H ρ r hk po xx hp hx Q q => by
  obtain ⟨⟨hcl, hp⟩⟩ := hp
  refine hw c hc N σ H ρ r (by omega) _ xx hp (hx.sub (by omega)) _ fun J kv H1 ds M1 hM1 ⟨hlen, I, hI0, hIs, hId⟩ r1 e1 hkv hJ => ?_
  intro Dl hD
  have h0 := r1.freshH0 hD
  have nF : ¬ c.F Dl := fun z => r1.bs_ne (.inl z) hD rfl
  -- the place: the list so far, its turn
  let At : Nat → Nat → List D → Hp → Prop := fun cost n acc H' => ∃ us M', M' ≤ M1 + cost ∧ H' Dl = some (.lst us) ∧ RpA c.g.K H' (Bs (c.addF Dl) ρ σ) us acc ∧ Rep (c.addF Dl) M' ρ σ H' ∧ acc.length ≤ n ∧ Ext (Sa ρ σ) H1 H'
  refine ⟨fun i m H' => m = ds.length - i ∧ i ≤ ds.length ∧ ∃ acc, At (i * (k2 + 300 * k3)) (i * 300) acc H' ∧ I i acc, ⟨_, rfl, Nat.zero_le _, [], ⟨[], M1, by omega, upd_same, .nil, r1.addNew hD, Nat.zero_le _, .of (Ex.new hD)⟩, hI0⟩, ?_⟩
  rintro i m H' ⟨rfl, hi, acc, ⟨us, M', hM', hDl, hus, r', hacc, hext⟩, hgo⟩
  have hkt : ∀ p ∈ kv, Kt g.K H' (Bs (c.addF Dl) ρ σ) p.1 p.2 := fun p hp => by subst hc; exact kt_addF hD hext (hkv p hp)
  have hkk : i * (k2 + 300 * k3) ≤ 300 * (k2 + 300 * k3) := Nat.mul_le_mul_right _ (by omega)
  by_cases hlt : i < ds.length
  case neg =>
    left
    refine ⟨hJ.stop H' _ i hkt (by omega), ?_⟩
    have hieq : i = ds.length := by omega
    rw [hieq] at hgo
    exact q _ H' _ M' (by omega) (hId acc hgo) r'.dropF (e1.trans hext) (.inr ⟨Dl, us, acc, rfl, rfl, hDl, h0, nF, hus, r'⟩)
  right
  have hkk' : (i + 1) * (k2 + 300 * k3) ≤ 300 * (k2 + 300 * k3) := Nat.mul_le_mul_right _ (by omega)
  have hs1 : (i + 1) * (k2 + 300 * k3) = i * (k2 + 300 * k3) + (k2 + 300 * k3) := Nat.succ_mul ..
  rw [hs1] at hkk'
  refine ⟨hJ.go H' _ i hkt hlt, fun H2 => ∃ acc, At ((i + 1) * (k2 + 300 * k3)) ((i + 1) * 300) acc H2 ∧ I (i + 1) acc, fun H2 ⟨acc, h1, h2⟩ => ⟨ds.length - (i + 1), by omega, rfl, by omega, acc, h1, h2⟩, fun x H2 hy => ?_⟩
  obtain ⟨d, hd, e2, hx2⟩ := hJ.yld H' _ i x H2 hkt (fun a z => r'.bsAt z) hlt hy
  have hgo := hIs i d acc hd hgo
  split at hgo
  case h_2 => exact hgo.elim
  rename_i ρ' hρ'
  obtain ⟨⟨hcl1, hgo⟩⟩ := hgo
  have r2 := r'.ex e2
  have bw : ∀ a, Bs (c.addF Dl) (wipeE ρ vs) (L2.wipe σ vs) a ↔ Bs (c.addF Dl) ρ σ a := bs_wipe hcl
  refine hg (c.addF Dl) hc M' (wipeE ρ vs) (L2.wipe σ vs) H2 x d ρ' (r2.wipe vs) (by subst hc; exact hx2.less fun a z => (bw a).mp z) hρ' _ fun σ2 r3 hwi hB1 hS1 hown => ?_
  obtain ⟨hB2, hS2⟩ := hown fun j hj => wipeE_none (his j hj)
  refine ⟨by rw [hwi vs his, wipe_wipe vs fun _ z => z], ?_⟩
  simp only [tYes, if_true]
  have nSa : ¬ Sa ρ' σ2 Dl := fun z => (r'.fr Dl (.inr rfl)).1 (sa_own ((sa_wipe hcl Dl).mp (hS1 Dl z)))
  have sub : ∀ a, Sa ρ' σ2 a → Sa ρ σ a := fun a z => (sa_wipe hcl a).mp (hS1 a z)
  have sup : ∀ a, Sa ρ σ a → Sa ρ' σ2 a := fun a z => hS2 a ((sa_wipe hcl a).mpr z)
  have extSub : ∀ {G G' : Hp}, Ext (Sa ρ' σ2) G G' → Ext (Sa ρ σ) G G' := fun e a o h n => e a o h fun z => n (sub a z)
  refine hw1 (c.addF Dl) hc M' σ2 H2 ρ' r3 (by omega) _ _ hgo (xf_no fun _ z => z) _ fun J1 kv1 H4 es M4 hM4 ⟨hlen1, Jn, hJ0, hJs, hJd⟩ r4 e4 hkv1 hJ1 => ?_
  have e24 : Ext (Sa ρ σ) H' H4 := Ext.trans (.of e2) (extSub e4)
  -- the inner loop
  have nS : ¬ Sa ρ σ Dl := fun z => nSa (sup Dl z)
  have r40 : Rep (c.addF Dl) (max M' M4) ρ σ H4 := r'.step e24 (fun a z => (r4.srcs a (sup a z)).mono (Nat.le_max_right ..)) (Nat.le_max_left ..)
  have bs2 : ∀ a, Bs (c.addF Dl) ρ' σ2 a ↔ Bs (c.addF Dl) ρ σ a := fun a => ⟨fun z => (bw a).mp (hB1 a z), fun z => hB2 a ((bw a).mpr z)⟩
  let At2 : Nat → Nat → List D → Hp → Prop := fun cost n acc G => ∃ us M', M' ≤ M1 + cost ∧ G Dl = some (.lst us) ∧ RpA c.g.K G (Bs (c.addF Dl) ρ σ) us acc ∧ Rep (c.addF Dl) M' ρ σ G ∧ Rep (c.addF Dl) M' ρ' σ2 G ∧ acc.length ≤ n ∧ Ext (Sa ρ σ) H1 G ∧ Ext (fun a => Sa ρ σ a ∨ a = Dl) H4 G
  refine ⟨fun j m G => m = es.length - j ∧ j ≤ es.length ∧ ∃ acc', At2 (i * (k2 + 300 * k3) + (k2 + j * k3)) (i * 300 + j) acc' G ∧ Jn j acc', ⟨_, rfl, Nat.zero_le _, acc, ⟨us, max M' M4, by omega, e24 Dl _ hDl nS, rpA_ext e24 (fun _ z => sa_bs z) hus, r40, r4.mono (Nat.le_max_right ..), by omega, hext.trans e24, Ext.refl⟩, hJ0⟩, ?_⟩
  rintro j m G ⟨rfl, hj, acc', ⟨us', M5, hM5, hDl5, hus5, r5, r5', hacc5, hext5, e45⟩, hgo5⟩
  have hkt1 : ∀ p ∈ kv1, Kt g.K G (Bs (c.addF Dl) ρ' σ2) p.1 p.2 := fun p hp => by
    have h := hkv1 p hp
    subst hc
    have gg : ∀ a o, H4 a = some o → ¬ Bs (c.addF Dl) ρ' σ2 a → G a = some o ∧ ¬ Bs (c.addF Dl) ρ' σ2 a := fun a o e n => ⟨e45 a o e fun z => n (z.elim (fun z => sa_bs (sup a z)) fun z => .inl (.inr z)), n⟩
    rcases h with h | ⟨a, ws, qs, h1, h2, h3, h4, h5⟩
    · exact .inl (Rp.mono gg _ _ h)
    · exact .inr ⟨a, ws, qs, h1, h2, e45 a _ h3 (fun z => z.elim (fun z => h4.1 (sup a z)) fun z => h4.2 (.inr z)), RpA.mono gg _ _ h5⟩
  have hjj : j * k3 ≤ 300 * k3 := Nat.mul_le_mul_right _ (by omega)
  by_cases hlt1 : j < es.length
  case neg =>
    left
    refine ⟨hJ1.stop G _ j hkt1 (by omega), acc', ⟨us', M5, by rw [hs1]; omega, hDl5, hus5, r5, by omega, hext5⟩, ?_⟩
    have hieq : j = es.length := by omega
    rw [hieq] at hgo5
    exact hJd _ hgo5
  right
  have hjj' : (j + 1) * k3 ≤ 300 * k3 := Nat.mul_le_mul_right _ (by omega)
  have hs2 : (j + 1) * k3 = j * k3 + k3 := Nat.succ_mul ..
  rw [hs2] at hjj'
  refine ⟨hJ1.go G _ j hkt1 hlt1, fun G2 => ∃ acc', At2 (i * (k2 + 300 * k3) + (k2 + (j + 1) * k3)) (i * 300 + (j + 1)) acc' G2 ∧ Jn (j + 1) acc', fun G2 ⟨acc', h1, h3⟩ => ⟨es.length - (j + 1), by omega, rfl, by omega, acc', h1, h3⟩, fun x1 G2 hy1 => ?_⟩
  obtain ⟨d1, hd1, e6, hx6⟩ := hJ1.yld G _ j x1 G2 hkt1 (fun a z => r5'.bsAt z) hlt1 hy1
  have hgo6 := hJs j d1 acc' hd1 hgo5
  split at hgo6
  case h_2 => exact hgo6.elim
  rename_i ρ'' hρ''
  have bw1 : ∀ a, Bs (c.addF Dl) (wipeE ρ' vs1) (L2.wipe σ2 vs1) a ↔ Bs (c.addF Dl) ρ' σ2 a := bs_wipe hcl1
  have r6 := r5'.ex e6
  refine hg1 (c.addF Dl) hc M5 (wipeE ρ' vs1) (L2.wipe σ2 vs1) G2 x1 d1 ρ'' (r6.wipe vs1) (by subst hc; exact hx6.less fun a z => (bw1 a).mp z) hρ'' _ fun σ3 r7 hwi3 hB3 hS3 hown3 => ?_
  obtain ⟨hB4, hS4⟩ := hown3 fun j hj => wipeE_none (his1 j hj)
  refine ⟨by rw [hwi3 vs1 his1, wipe_wipe vs1 fun _ z => z], ?_⟩
  have sub3 : ∀ a, Sa ρ'' σ3 a → Sa ρ' σ2 a := fun a z => (sa_wipe hcl1 a).mp (hS3 a z)
  have sup3 : ∀ a, Sa ρ' σ2 a → Sa ρ'' σ3 a := fun a z => hS4 a ((sa_wipe hcl1 a).mpr z)
  refine he (c.addF Dl) hc M5 σ3 G2 ρ'' r7 (by omega) _ _ hgo6 (xf_no fun _ z => z) _ fun y G3 z M6 hM6 hz r8 e8 hvy => ?_
  have e68' : Ext (Sa ρ' σ2) G G3 := Ext.trans (.of e6) fun a o h n => e8 a o h fun z => n (sub3 a z)
  have e68 : Ext (Sa ρ σ) G G3 := extSub e68'
  have hD8 : G3 Dl = some (.lst us') := e68 Dl _ hDl5 nS
  have r9 : Rep (c.addF Dl) (max M5 M6) ρ σ G3 := r5.step e68 (fun a z => (r8.srcs a (sup3 a (sup a z))).mono (Nat.le_max_right ..)) (Nat.le_max_left ..)
  have r9' : Rep (c.addF Dl) (max M5 M6) ρ' σ2 G3 := r5'.step e68' (fun a z => (r8.srcs a (sup3 a z)).mono (Nat.le_max_right ..)) (Nat.le_max_left ..)
  have hvy' : Rp c.g.K G3 (Bs (c.addF Dl) ρ σ) y z := Rp.less (fun a z => hB4 a ((bw1 a).mpr ((bs2 a).mpr z))) hvy
  have up : ∀ a o, G3 a = some o → ¬ Bs (c.addF Dl) ρ σ a → upd G3 Dl (.lst (us' ++ [y])) a = some o ∧ ¬ Bs (c.addF Dl) ρ σ a := fun a o e n => ⟨by rw [upd_ne fun z => n (.inl (.inr z))]; exact e, n⟩
  have hii : i * 300 ≤ 300 * 300 := Nat.mul_le_mul_right _ (by omega)
  refine ⟨us', hD8, sz_lt (by rw [pd_len hus5]; omega), acc' ++ [z], ⟨us' ++ [y], max M5 M6, ?_, upd_same, pd_app (RpA.mono up _ _ (rpA_ext e68 (fun _ z => sa_bs z) hus5)) (.cons (Rp.mono up _ _ hvy') .nil), r9.updF (.inr rfl) h0, r9'.updF (.inr rfl) h0, by simp; omega, ?_, ?_⟩, hz⟩
  · rw [hs2]; omega
  · intro a o ho hn
    have np : a ≠ Dl := ne_of_none ho hD
    rw [upd_ne np]
    exact e68 a o (hext5 a o ho hn) hn
  · intro a o ho hn
    rw [upd_ne fun z => hn (.inr z)]
    exact e68 a o (e45 a o ho hn) fun z => hn (.inl z)
end
end PD

/-! reversed(range(n)) -/
namespace PD
open PySem PySem.Spec PyProof.Rows L2 Evl SL
section
variable {g : Gx} {W : XW} {mr : Md} {c : Cf} {N M M' L L' k k' k1 k2 k3 n m : Nat} {ρ ρ' : Env} {σ σ' : L2.St} {H H' : Hp} {md : Md} {v : V} {d : D} {tr : TA} {pr : PXs} {K : PySem.W.Frag}
def rngRevD (n : Nat) : List D := (List.range n).map fun i : Nat => .int ((n : Int) - 1 - (i : Int))
theorem walk_rngRev {n : Nat} : WalkOk K [] (Itc (0 + (n : Int) - 1) (-1) n) (rngRevD n) where
  go := fun H B i h hi => by show i < n; simpa [rngRevD] using hi
  stop := fun H B i h hi => by show n ≤ i; simpa [rngRevD] using hi
  yld := fun H B i x H' h _ hi hy => by
    obtain ⟨rfl, rfl⟩ := hy
    have hi' : i < n := by simpa [rngRevD] using hi
    refine ⟨.int ((n : Int) - 1 - (i : Int)), ?_, Ex.refl _, ?_⟩
    · unfold rngRevD
      rw [List.getElem?_map, List.getElem?_range hi']
      rfl
    · rw [show (0 : Int) + (n : Int) - 1 + (i : Nat) * -1 = (n : Int) - 1 - (i : Int) by omega]
      exact .int _
def pwRev (pa : PX) : PXs := fun ρ po xx => pa ρ (fun d => onI d fun n => (n ≤ 100000 ∧ -100000 ≤ n) ∧ po (rngRevD n.toNat)) xx
theorem sw_rev {ta : TE} {pa : PX} (ha : SX g W .t k ta pa) : SW g W md k (iRevR (tRg1 ta)) (pwRev pa) := fun c hc N σ H ρ r hk po xx hp hx R q =>
  ha c hc N σ H ρ r hk _ xx hp hx _ fun x H1 d M1 hM1 hd r1 e1 hv1 => by
    obtain ⟨n, e0, h0, h1⟩ := onI_of hd
    clear hd; subst e0
    have := rv_int hv1
    subst this
    refine ⟨n, rfl, by decide, by decide, by omega, by omega, ?_⟩
    rw [Int.sub_zero]
    exact q _ [] H1 _ M1 hM1 h1 r1 e1 (fun p hp => by cases hp) walk_rngRev
end
end PD

/-! equal data -/
namespace PD
open PySem PySem.Spec PyProof.Rows L2 Evl SL
mutual
/-- data without bools: == is equality -/
def D.pl : D → Bool
  | .non => true
  | .int _ => true
  | .str x => PyData.strOk x
  | .lst ds => D.plA ds
  | .tup ds => D.plA ds
  | .bl _ => false
  | .ty _ => false
  | .ad _ => false
  | .cls _ => false
  | .exc _ _ => false
  | .ml _ _ => false
  | .dk _ => false
  | .scr _ => false
def D.plA : List D → Bool
  | [] => true
  | d :: ds => d.pl && D.plA ds
end
mutual
/-- data, bools among them -/
def D.da : D → Bool
  | .non => true
  | .bl _ => true
  | .int _ => true
  | .str x => PyData.strOk x
  | .lst ds => D.daA ds
  | .tup ds => D.daA ds
  | .ty _ => false
  | .ad _ => false
  | .cls _ => false
  | .exc _ _ => false
  | .ml _ _ => false
  | .dk _ => false
  | .scr _ => false
def D.daA : List D → Bool
  | [] => true
  | d :: ds => d.da && D.daA ds
end
mutual
def D.dep : D → Nat
  | .lst ds => D.depA ds + 1
  | .tup ds => D.depA ds + 1
  | .non => 0
  | .bl _ => 0
  | .int _ => 0
  | .str _ => 0
  | .ty _ => 0
  | .ad _ => 0
  | .cls _ => 0
  | .exc _ _ => 0
  | .ml _ _ => 0
  | .dk _ => 0
  | .scr _ => 1
def D.depA : List D → Nat
  | [] => 0
  | d :: ds => max d.dep (D.depA ds)
end
mutual
theorem da_py : ∀ d : D, d.da = true → ∃ x, d.py = some x ∧ PyData.canLay0 x = true ∧ PyData.depth x = d.dep
  | .non, _ => ⟨.none, by simp [D.py], by simp [PyData.canLay0], by simp [PyData.depth, D.dep]⟩
  | .bl b, _ => ⟨.bool b, by simp [D.py], by simp [PyData.canLay0], by simp [PyData.depth, D.dep]⟩
  | .int i, _ => ⟨.int i, by simp [D.py], by simp [PyData.canLay0], by simp [PyData.depth, D.dep]⟩
  | .str x, h => ⟨.str x, by simp [D.py], by simpa [PyData.canLay0, D.da] using h, by simp [PyData.depth, D.dep]⟩
  | .lst ds, h => by
    obtain ⟨xs, h1, h2, h3⟩ := daA_py ds (by simpa [D.da] using h)
    exact ⟨.list xs, by simp [D.py, h1], by simpa [PyData.canLay0] using h2, by simp [PyData.depth, D.dep, h3]⟩
  | .tup ds, h => by
    obtain ⟨xs, h1, h2, h3⟩ := daA_py ds (by simpa [D.da] using h)
    exact ⟨.tuple xs, by simp [D.py, h1], by simpa [PyData.canLay0] using h2, by simp [PyData.depth, D.dep, h3]⟩
  | .ty _, h => by simp [D.da] at h
  | .ad _, h => by simp [D.da] at h
  | .cls _, h => by simp [D.da] at h
  | .exc _ _, h => by simp [D.da] at h
  | .ml _ _, h => by simp [D.da] at h
  | .dk _, h => by simp [D.da] at h
  | .scr _, h => by simp [D.da] at h
theorem daA_py : ∀ ds : List D, D.daA ds = true → ∃ xs, D.pyA ds = some xs ∧ PyData.canLayAll0 xs = true ∧ PyData.depthAll xs = D.depA ds
  | [], _ => ⟨[], by simp [D.pyA], by simp [PyData.canLayAll0], by simp [PyData.depthAll, D.depA]⟩
  | d :: ds, h => by
    simp only [D.daA, Bool.and_eq_true] at h
    obtain ⟨x, h1, h2, h3⟩ := da_py d h.1
    obtain ⟨xs, h4, h5, h6⟩ := daA_py ds h.2
    exact ⟨x :: xs, by simp [D.pyA, h1, h4], by simp [PyData.canLayAll0, h2, h5], by simp [PyData.depthAll, D.depA, h3, h6]⟩
end
mutual
theorem pl_da : ∀ d : D, d.pl = true → d.da = true
  | .non, _ => by simp [D.da]
  | .int i, _ => by simp [D.da]
  | .str x, h => by simpa [D.da, D.pl] using h
  | .lst ds, h => by simp only [D.da]; exact plA_da ds (by simpa [D.pl] using h)
  | .tup ds, h => by simp only [D.da]; exact plA_da ds (by simpa [D.pl] using h)
  | .bl _, h => by simp [D.pl] at h
  | .ty _, h => by simp [D.pl] at h
  | .ad _, h => by simp [D.pl] at h
  | .cls _, h => by simp [D.pl] at h
  | .exc _ _, h => by simp [D.pl] at h
  | .ml _ _, h => by simp [D.pl] at h
  | .dk _, h => by simp [D.pl] at h
  | .scr _, h => by simp [D.pl] at h
theorem plA_da : ∀ ds : List D, D.plA ds = true → D.daA ds = true
  | [], _ => by simp [D.daA]
  | d :: ds, h => by
    simp only [D.plA, Bool.and_eq_true] at h
    simp [D.daA, pl_da d h.1, plA_da ds h.2]
end
/-- what plain data may be -/
inductive PlC : D → PyData → Prop
  | non : PlC .non .none
  | int (i : Int) : PlC (.int i) (.int i)
  | str (x : Str) : PlC (.str x) (.str x)
  | lst {ds : List D} {xs : List PyData} : D.plA ds = true → D.pyA ds = some xs → PlC (.lst ds) (.list xs)
  | tup {ds : List D} {xs : List PyData} : D.plA ds = true → D.pyA ds = some xs → PlC (.tup ds) (.tuple xs)
theorem plC_of {d : D} {x : PyData} (h : d.pl = true) (e : d.py = some x) : PlC d x := by
  cases d with
  | non => simp [D.py] at e; subst e; exact .non
  | int i => simp [D.py] at e; subst e; exact .int i
  | str z => simp [D.py] at e; subst e; exact .str z
  | lst ds =>
    simp only [D.py, Option.map_eq_some_iff] at e
    obtain ⟨xs, h3, rfl⟩ := e
    exact .lst (by simpa [D.pl] using h) h3
  | tup ds =>
    simp only [D.py, Option.map_eq_some_iff] at e
    obtain ⟨xs, h3, rfl⟩ := e
    exact .tup (by simpa [D.pl] using h) h3
  | _ => simp [D.pl] at h
theorem pyA_cons {d : D} {ds : List D} {xs : List PyData} (h : D.pyA (d :: ds) = some xs) : ∃ x r, xs = x :: r ∧ d.py = some x ∧ D.pyA ds = some r := by
  simp only [D.pyA] at h
  split at h
  · rename_i x r h1 h2
    cases h
    exact ⟨x, r, rfl, h1, h2⟩
  · cases h
theorem pyA_nil {xs : List PyData} (h : D.pyA [] = some xs) : xs = [] := by simp [D.pyA] at h; exact h
theorem plA_cons {d : D} {ds : List D} (h : D.plA (d :: ds) = true) : d.pl = true ∧ D.plA ds = true := by simpa [D.plA] using h
theorem eqv_leaf {d e : D} {x y : PyData} (hd : PlC d x) (he : PlC e y) (n1 : ∀ ds, d ≠ .lst ds) (n2 : ∀ ds, d ≠ .tup ds) : PyData.eqv x y = true ↔ d = e := by
  cases hd with
  | lst => exact absurd rfl (n1 _)
  | tup => exact absurd rfl (n2 _)
  | non => cases he <;> simp [PyData.eqv]
  | int i => cases he <;> simp [PyData.eqv]
  | str i => cases he <;> simp [PyData.eqv]
theorem eqv_lst {ds : List D} {e : D} {xs : List PyData} {y : PyData} (he : PlC e y) (ih : ∀ es ys, D.plA es = true → D.pyA es = some ys → (PyData.eqvAll xs ys = true ↔ ds = es)) : PyData.eqv (.list xs) y = true ↔ D.lst ds = e := by
  cases he with
  | lst h1 h2 => rw [PyData.eqv, ih _ _ h1 h2]; simp
  | _ => simp [PyData.eqv]
theorem eqv_tup {ds : List D} {e : D} {xs : List PyData} {y : PyData} (he : PlC e y) (ih : ∀ es ys, D.plA es = true → D.pyA es = some ys → (PyData.eqvAll xs ys = true ↔ ds = es)) : PyData.eqv (.tuple xs) y = true ↔ D.tup ds = e := by
  cases he with
  | tup h1 h2 => rw [PyData.eqv, ih _ _ h1 h2]; simp
  | _ => simp [PyData.eqv]
theorem eqvA_nil {es : List D} {ys : List PyData} (h : D.pyA es = some ys) : PyData.eqvAll [] ys = true ↔ [] = es := by
  cases es with
  | nil => rw [pyA_nil h]; simp [PyData.eqvAll]
  | cons e es =>
    obtain ⟨y, r, rfl, _, _⟩ := pyA_cons h
    simp [PyData.eqvAll]
theorem eqvA_cons {d : D} {ds es : List D} {x : PyData} {xs ys : List PyData} (hp : D.plA es = true) (h : D.pyA es = some ys) (i1 : ∀ e y, e.pl = true → e.py = some y → (PyData.eqv x y = true ↔ d = e)) (i2 : ∀ es ys, D.plA es = true → D.pyA es = some ys → (PyData.eqvAll xs ys = true ↔ ds = es)) :
    PyData.eqvAll (x :: xs) ys = true ↔ d :: ds = es := by
  cases es with
  | nil => rw [pyA_nil h]; simp [PyData.eqvAll]
  | cons e es =>
    obtain ⟨y, r, rfl, h1, h2⟩ := pyA_cons h
    obtain ⟨p1, p2⟩ := plA_cons hp
    rw [PyData.eqvAll, Bool.and_eq_true, i1 e y p1 h1, i2 es r p2 h2]
    simp
mutual
theorem eqv_pl : ∀ (d : D), d.pl = true → ∀ x, d.py = some x → ∀ e y, e.pl = true → e.py = some y → (PyData.eqv x y = true ↔ d = e)
  | .lst ds, hd, x, h1, e, y, he, h2 => by
    simp only [D.py, Option.map_eq_some_iff] at h1
    obtain ⟨xs, h3, rfl⟩ := h1
    exact eqv_lst (plC_of he h2) (eqvA_pl ds (by simpa [D.pl] using hd) xs h3)
  | .tup ds, hd, x, h1, e, y, he, h2 => by
    simp only [D.py, Option.map_eq_some_iff] at h1
    obtain ⟨xs, h3, rfl⟩ := h1
    exact eqv_tup (plC_of he h2) (eqvA_pl ds (by simpa [D.pl] using hd) xs h3)
  | .non, hd, x, h1, e, y, he, h2 => eqv_leaf (plC_of hd h1) (plC_of he h2) (fun _ z => by cases z) (fun _ z => by cases z)
  | .int i, hd, x, h1, e, y, he, h2 => eqv_leaf (plC_of hd h1) (plC_of he h2) (fun _ z => by cases z) (fun _ z => by cases z)
  | .str z, hd, x, h1, e, y, he, h2 => eqv_leaf (plC_of hd h1) (plC_of he h2) (fun _ z => by cases z) (fun _ z => by cases z)
  | .bl _, hd, _, _, _, _, _, _ => by simp [D.pl] at hd
  | .ty _, hd, _, _, _, _, _, _ => by simp [D.pl] at hd
  | .ad _, hd, _, _, _, _, _, _ => by simp [D.pl] at hd
  | .cls _, hd, _, _, _, _, _, _ => by simp [D.pl] at hd
  | .exc _ _, hd, _, _, _, _, _, _ => by simp [D.pl] at hd
  | .ml _ _, hd, _, _, _, _, _, _ => by simp [D.pl] at hd
  | .dk _, hd, _, _, _, _, _, _ => by simp [D.pl] at hd
  | .scr _, hd, _, _, _, _, _, _ => by simp [D.pl] at hd
theorem eqvA_pl : ∀ (ds : List D), D.plA ds = true → ∀ xs, D.pyA ds = some xs → ∀ es ys, D.plA es = true → D.pyA es = some ys → (PyData.eqvAll xs ys = true ↔ ds = es)
  | [], _, xs, h1, es, ys, _, h2 => by rw [pyA_nil h1]; exact eqvA_nil h2
  | d :: ds, hd, xs, h1, es, ys, he, h2 => by
    obtain ⟨x, r, rfl, a1, a2⟩ := pyA_cons h1
    obtain ⟨p1, p2⟩ := plA_cons hd
    exact eqvA_cons he h2 (eqv_pl d p1 x a1) (eqvA_pl ds p2 r a2)
end
mutual
theorem eqv_refl : ∀ d : PyData, PyData.canLay0 d = true → PyData.eqv d d = true
  | .none, _ => by simp [PyData.eqv]
  | .bool b, _ => by simp [PyData.eqv]
  | .int i, _ => by simp [PyData.eqv]
  | .str x, _ => by simp [PyData.eqv]
  | .list ds, h => by rw [PyData.eqv]; exact eqvAll_refl ds (by rw [PyData.canLay0] at h; exact h)
  | .tuple ds, h => by rw [PyData.eqv]; exact eqvAll_refl ds (by rw [PyData.canLay0] at h; exact h)
  | .dict _, h => by simp [PyData.canLay0] at h
theorem eqvAll_refl : ∀ ds : List PyData, PyData.canLayAll0 ds = true → PyData.eqvAll ds ds = true
  | [], _ => by simp [PyData.eqvAll]
  | d :: ds, h => by
    rw [PyData.canLayAll0, Bool.and_eq_true] at h
    rw [PyData.eqvAll, eqv_refl d h.1, eqvAll_refl ds h.2]
    rfl
end
theorem shaped_da {d : D} (h : d.da = true) (hd : d.dep ≤ 64) : ∃ x, d.py = some x ∧ SeqAt.shaped x = true := by
  obtain ⟨x, h1, h2, h3⟩ := da_py d h
  exact ⟨x, h1, Bool.and_eq_true_iff.mpr ⟨h2, decide_eq_true (by omega)⟩⟩
theorem pEqD_pl {neg : Bool} {d e : D} {k : D → Prop} (hd : d.pl = true) (he : e.pl = true) (d1 : d.dep ≤ 64) (d2 : e.dep ≤ 64) (h : ∀ b : Bool, (b = true ↔ d = e) → k (.bl (ng neg b))) : pEqD neg d e k := by
  obtain ⟨x, h1, h2⟩ := shaped_da (pl_da d hd) d1
  obtain ⟨y, h3, h4⟩ := shaped_da (pl_da e he) d2
  exact ⟨x, y, h1, h3, h2, h4, h _ (eqv_pl d hd x h1 e y he h3)⟩
theorem pEqD_same {neg : Bool} {d : D} {k : D → Prop} (hd : d.da = true) (d1 : d.dep ≤ 64) (h : k (.bl (ng neg true))) : pEqD neg d d k := by
  obtain ⟨x, h1, h2, h3⟩ := da_py d hd
  refine ⟨x, x, h1, h1, ?_, ?_, ?_⟩
  · exact Bool.and_eq_true_iff.mpr ⟨h2, decide_eq_true (by omega)⟩
  · exact Bool.and_eq_true_iff.mpr ⟨h2, decide_eq_true (by omega)⟩
  · rw [eqv_refl x h2]; exact h
theorem pEqD_diff {neg : Bool} {d e : D} {k : D → Prop} (hd : d.pl = true) (he : e.pl = true) (d1 : d.dep ≤ 64) (d2 : e.dep ≤ 64) (n : d ≠ e) (h : k (.bl (ng neg false))) : pEqD neg d e k := pEqD_pl hd he d1 d2 fun b hb => by
  cases b with
  | false => exact h
  | true => exact absurd (hb.mp rfl) n
/-- the script, asked whether it is empty -/
theorem pEqD_scr {ns : List Int} {k : D → Prop} (h : ∀ b : Bool, (b = true ↔ ns = []) → k (.bl (ng false b))) : pEqD false (.scr ns) (.lst []) k := by
  have c : ∀ l : List Int, PyData.canLayAll0 (l.map PyData.int) = true ∧ PyData.depthAll (l.map PyData.int) = 0 := fun l => by
    induction l with
    | nil => simp [PyData.canLayAll0, PyData.depthAll]
    | cons x r ih => simp [PyData.canLayAll0, PyData.depthAll, PyData.canLay0, PyData.depth, ih.1, ih.2]
  refine ⟨.list (ns.map .int), .list [], by simp [D.py], by simp [D.py, D.pyA], ?_, by decide +kernel, h _ ?_⟩
  · refine Bool.and_eq_true_iff.mpr ⟨by rw [PyData.canLay0]; exact (c ns).1, decide_eq_true ?_⟩
    rw [PyData.depth, (c ns).2]; decide
  · cases ns with
    | nil => simp [PyData.eqv, PyData.eqvAll]
    | cons x r => simp [PyData.eqv, PyData.eqvAll]
theorem ite_b {b : Bool} {A B : Prop} (h1 : b = true → A) (h2 : b = false → B) : (if b = true then A else B) := by
  cases b with
  | true => exact h1 rfl
  | false => exact h2 rfl
end PD

/-! data that repr shows -/
namespace PD
open PySem PySem.Spec PyProof.Rows L2 Evl SL
/-- this value is data of so many characters at most, so deep -/
def Shs (n dp : Nat) (d : D) : Prop := ∃ x, d.pq = some x ∧ okB x ∧ x.depth ≤ dp ∧ x.shown.length ≤ n
theorem Shs.mono {n n' dp dp' : Nat} {d : D} (h : Shs n dp d) (hn : n ≤ n') (hd : dp ≤ dp') : Shs n' dp' d :=
  let ⟨x, a, b, c, e⟩ := h; ⟨x, a, b, Nat.le_trans c hd, Nat.le_trans e hn⟩
theorem pow_tenB : 2 ^ 14000 ≤ tenB := by decide +kernel
theorem lt_tenB {i : Int} {k : Nat} (h : i.natAbs < 2 ^ k) (hk : k ≤ 14000) : i.natAbs < tenB :=
  Nat.lt_of_lt_of_le h (Nat.le_trans (Nat.pow_le_pow_right (by decide) hk) pow_tenB)
theorem shs_int {i : Int} {k : Nat} (h : i.natAbs < 2 ^ k) (hk : k ≤ 14000) : Shs 4400 0 (.int i) := by
  have hb := lt_tenB h hk
  refine ⟨.int i, by simp only [D.pq], by simp only [okB]; exact hb, by simp only [PyData.depth]; exact Nat.le_refl _, ?_⟩
  have e := int_text_length_le10 (k := 4300) (by decide) hb
  simp only [PyData.shown]
  show (Str.ofString (toString i)).length ≤ _
  rw [PySem.ofString_length]
  omega
theorem shs_non : Shs 4400 0 .non := ⟨.none, by simp only [D.pq], by simp only [okB], by simp only [PyData.depth]; exact Nat.le_refl _, by simp only [PyData.shown]; decide⟩
theorem shs_emp : Shs 4400 1 .emp := ⟨.dict [], by simp only [D.emp, D.pq, List.map_nil], by simp only [okB]; exact ⟨[], rfl, fun p hp => by cases hp⟩, by simp only [PyData.depth, PyData.depthKv]; exact Nat.le_refl _, by simp only [PyData.shown, PyData.shownKv]; rw [dictText_nil]; decide⟩
theorem shs_d11 : Shs 4400 1 (.dk [(1, 1)]) := ⟨.dict [(.int 1, .int 1)], by simp only [D.pq, List.map_cons, List.map_nil], by simp only [okB]; exact ⟨[(1, 1)], rfl, fun p hp => by rw [List.mem_singleton.mp hp]; exact ⟨lt_tenB (k := 2) (by decide) (by decide), lt_tenB (k := 2) (by decide) (by decide)⟩⟩, by simp only [PyData.depth, PyData.depthKv]; decide, by decide +kernel⟩
theorem shs_bl (b : Bool) : Shs 4400 0 (.bl b) := ⟨.bool b, by simp only [D.pq], by simp only [okB], by simp only [PyData.depth]; exact Nat.le_refl _, by simp only [PyData.shown]; cases b <;> decide⟩
theorem shs_items {n dp : Nat} : ∀ {ds : List D}, (∀ d ∈ ds, Shs n dp d) → ∃ xs, D.pqA ds = some xs ∧ okBs xs ∧ PyData.depthAll xs ≤ dp ∧ xs.length = ds.length ∧ ((PyData.shownAll xs).map (·.length)).sum ≤ ds.length * n
  | [], _ => ⟨[], by simp only [D.pqA], by simp only [okBs], by simp only [PyData.depthAll]; omega, rfl, by simp [PyData.shownAll]⟩
  | d :: ds, h => by
    obtain ⟨x, a, b, c, e⟩ := h d (List.mem_cons_self ..)
    obtain ⟨xs, a', b', c', l, e'⟩ := shs_items fun y hy => h y (List.mem_cons_of_mem _ hy)
    refine ⟨x :: xs, ?_, by simp only [okBs]; exact ⟨b, b'⟩, by simp only [PyData.depthAll]; omega, by simp [l], ?_⟩
    · simp only [D.pqA]
      rw [a, a']
    · simp only [PyData.shownAll, List.map_cons, List.sum_cons, List.length_cons, Nat.succ_mul]
      omega
theorem shs_lst {n dp : Nat} {ds : List D} (h : ∀ d ∈ ds, Shs n dp d) : Shs (ds.length * (n + 2) + 3) (dp + 1) (.lst ds) := by
  obtain ⟨xs, a, b, c, l, e⟩ := shs_items h
  refine ⟨.list xs, ?_, by simp only [okB]; exact b, by simp only [PyData.depth]; omega, ?_⟩
  · simp only [D.pq]
    rw [a]; rfl
  · have h2 := listText_len_le (PyData.shownAll xs)
    have h3 := PyData.shownAll_length xs
    simp only [PyData.shown]
    rw [Nat.mul_add]
    omega
theorem shs_tup {n dp : Nat} {ds : List D} (h : ∀ d ∈ ds, Shs n dp d) : Shs (ds.length * (n + 2) + 3) (dp + 1) (.tup ds) := by
  obtain ⟨xs, a, b, c, l, e⟩ := shs_items h
  refine ⟨.tuple xs, ?_, by simp only [okB]; exact b, by simp only [PyData.depth]; omega, ?_⟩
  · simp only [D.pq]
    rw [a]; rfl
  · have h2 := tupleText_len_le (PyData.shownAll xs)
    have h3 := PyData.shownAll_length xs
    simp only [PyData.shown]
    rw [Nat.mul_add]
    omega
theorem shs_two {n dp : Nat} {a b : D} (ha : Shs n dp a) (hb : Shs n dp b) : Shs (2 * (n + 2) + 3) (dp + 1) (.lst [a, b]) := shs_lst (ds := [a, b]) fun d hd => by
  simp only [List.mem_cons, List.mem_nil_iff, or_false] at hd
  rcases hd with rfl | rfl
  · exact ha
  · exact hb
/-- repr of such a value: its text, the same for equal values -/
def txD (d : D) : Str := match d.pq with | some x => x.shown | none => ""
theorem pRepr_of {n dp : Nat} {d : D} {k : D → Prop} (h : Shs n dp d) (hn : n ≤ 16777216) (hd : dp ≤ 40) (hk : k (.str (txD d))) : pRepr [d] k := by
  obtain ⟨x, a, b, c, e⟩ := h
  refine ⟨x, a, b, by omega, by have : sizeLine = 16777216 := rfl; omega, ?_⟩
  have : txD d = x.shown := by unfold txD; rw [a]
  rw [← this]; exact hk
end PD

/-! more rules: range that steps down -/
namespace PD
open PySem PySem.Spec PyProof.Rows L2 Evl SL
def rngS (lo c : Int) (n : Nat) : List D := (List.range n).map fun i : Nat => .int (lo + (i : Int) * c)
theorem walk_rngS {K : PySem.W.Frag} {lo c : Int} {n : Nat} : WalkOk K [] (Itc lo c n) (rngS lo c n) where
  go := fun H B i h hi => by show i < n; simpa [rngS] using hi
  stop := fun H B i h hi => by show n ≤ i; simpa [rngS] using hi
  yld := fun H B i x H' h _ hi hy => by
    obtain ⟨rfl, rfl⟩ := hy
    have hi' : i < n := by simpa [rngS] using hi
    refine ⟨.int (lo + (i : Int) * c), ?_, Ex.refl _, .int _⟩
    unfold rngS
    rw [List.getElem?_map, List.getElem?_range hi']
    rfl
theorem rngS_at {lo c : Int} {n i : Nat} {d : D} (h : (rngS lo c n)[i]? = some d) : i < n ∧ d = .int (lo + (i : Int) * c) := by
  unfold rngS at h
  rw [List.getElem?_map, Option.map_eq_some_iff] at h
  obtain ⟨j, hj, rfl⟩ := h
  have hl := (List.getElem?_eq_some_iff.mp hj).1
  rw [List.length_range] at hl
  rw [List.getElem?_range hl] at hj
  cases hj
  exact ⟨hl, rfl⟩
theorem rngS_len {lo c : Int} {n : Nat} : (rngS lo c n).length = n := by simp [rngS]
def pwR3 (pr : PXs) : PXs := fun ρ po xx => pr ρ (fun us => match us with
  | [.int i, .int j, .int c] => (i ≤ 100000 ∧ -100000 ≤ i ∧ j ≤ 100000 ∧ -100000 ≤ j ∧ c = -1) ∧ po (rngS i (-1) (i - j).toNat)
  | _ => False) xx
variable {g : Gx} {W : XW}
theorem sw_rng3 {md : Md} {k : Nat} {tr : TA} {pr : PXs} (ha : SA g W .t k tr pr) : SW g W md k (iRng3 tr) (pwR3 pr) := fun c hc N σ H ρ r hk po xx hp hx R q =>
  ha c hc N σ H ρ r hk _ xx hp hx _ fun vs H1 ds M1 hM1 hd r1 e1 hv1 => by
    match ds, hd, hv1 with
    | [.int i, .int j, .int z], ⟨⟨h1, h2, h3, h4, h5⟩, hd⟩, hv1 =>
      subst h5
      cases hv1 with
      | cons hx1 hv2 =>
        cases hv2 with
        | cons hx2 hv3 =>
          cases hv3 with
          | cons hx3 hv4 =>
            cases hv4
            have := rv_int hx1; subst this
            have := rv_int hx2; subst this
            have := rv_int hx3; subst this
            exact ⟨i, j, -1, (i - j).toNat, rfl, RgC.neg (by omega) (by omega) (by omega) (by omega), q _ [] H1 _ M1 hM1 hd r1 e1 (fun p hp => by cases hp) walk_rngS⟩
end PD

/-! isinstance with several types -/
namespace PD
open PySem PySem.Spec PyProof.Rows L2 Evl SL
def kitT (s : String) : List String → Option Bool
  | [] => some false
  | c :: cs => match kitB s c with
    | some true => some true
    | some false => kitT s cs
    | none => none
theorem kitT_any {K : PySem.W.Frag} {s : String} : ∀ {cs : List String} {b : Bool}, kitT s cs = some b → PySem.W.kitAny K (.type s) (cs.map Value.type) = some b
  | [], b, h => by cases h; rfl
  | c :: cs, b, h => by
    unfold kitT at h
    cases e : kitB s c with
    | none => rw [e] at h; cases h
    | some z =>
      rw [e] at h
      cases z with
      | true => cases h; exact kitAny_cons (kit_ty e) (fun z => by cases z) fun _ => rfl
      | false => exact kitAny_cons (kit_ty e) (fun _ => kitT_any h) fun z => by cases z
def pIsiT : PB := fun us k => match us with
  | [d, .tup cs] => ∃ s ns b, d.tyI = some s ∧ cs = ns.map D.ty ∧ kitT s ns = some b ∧ k (.bl b)
  | _ => False
theorem tys_of {K : PySem.W.Frag} {H : Hp} {B : AS} : ∀ {ns : List String} {xs : List V}, RpA K H B xs (ns.map D.ty) → Paired ClsV xs (ns.map Value.type)
  | [], _, h => by cases h; exact .nil
  | n :: ns, _, h => by
    cases h with
    | cons h1 h2 => cases h1; exact .cons (.ty n) (tys_of h2)
theorem oa_isiT {K : PySem.W.Frag} : OpA K (rIsiT K) pIsiT := fun H B xs ds h po Q hp q => by
  match ds, hp, h with
  | [d, .tup cs], ⟨s, ns, b, hs, hc, hb, hp⟩, h =>
    obtain ⟨x, y, rfl, hx, hy⟩ := pd2 h
    subst hc
    cases hy with
    | tup h1 h2 => exact ⟨x, _, _, .type s, _, b, rfl, h1.1, tys_of h2, tyx_of hx hs, kitT_any hb, q _ _ hp (.bl b)⟩
end PD

/-! a list against an empty one, whatever stands in it -/
namespace SL
open PySem PySem.Spec PyProof.Rows L2
def rEmp (K : PySem.W.Frag) (neg : Bool) : R2 := fun x y H Q => ∃ a b xs, x = .ref a ∧ y = .ref b ∧ SqL K H a xs ∧ SqL K H b [] ∧ Q (.bl (if neg then !xs.isEmpty else xs.isEmpty)) H
section
variable {X : Cx}
theorem op_eqEmp (room : X.A.units + 64 < cLine) : OpR X (compareOp .Eq) (rEmp X.K false) := by
  intro pins st ss G x y v u R I rx ry h
  obtain ⟨a, b, xs, rfl, rfl, ha, hb, go⟩ := h
  cases (show v = Value.ref a from rx)
  cases (show u = Value.ref b from ry)
  obtain ⟨its, rv, pl, _⟩ := I.list ha
  obtain ⟨jts, rw', pm, _⟩ := I.list hb
  cases rw'
  cases rv with
  | nil => exact SeqAt.eq_listAt (e := fun _ => true) pl.isList pm.isList rfl (by omega) (fun j h1 _ => absurd h1 (by simp)) ⟨.bl _, G, I, rfl, go⟩
  | cons r1 r2 => exact SeqAt.eq_list_lengthsAt pl.isList pm.isList (by simp) (by omega) ⟨.bl _, G, I, rfl, go⟩
theorem op_neEmp (room : X.A.units + 64 < cLine) : OpR X (compareOp .NotEq) (rEmp X.K true) := by
  intro pins st ss G x y v u R I rx ry h
  obtain ⟨a, b, xs, rfl, rfl, ha, hb, go⟩ := h
  cases (show v = Value.ref a from rx)
  cases (show u = Value.ref b from ry)
  obtain ⟨its, rv, pl, _⟩ := I.list ha
  obtain ⟨jts, rw', pm, _⟩ := I.list hb
  cases rw'
  cases rv with
  | nil => exact SeqAt.RcNeAt.lists (e := fun _ => true) pl.isList pm.isList rfl (by omega) (fun j h1 _ => absurd h1 (by simp)) X.prog X.w X.xe _ ⟨.bl _, G, I, rfl, go⟩
  | cons r1 r2 => exact SeqAt.RcNeAt.lists_lengths pl.isList pm.isList (by simp) (by omega) X.prog X.w X.xe _ ⟨.bl _, G, I, rfl, go⟩
end
end SL

/-! a def that draws, called with a source of its own -/
namespace PD
open PySem PySem.Spec PyProof.Rows L2 Evl SL
def pCallN (n : Nat) (G : GD) (Go : List D → Prop) (pro pr : PXs) : PX := fun ρ po xx => pro ρ (fun os => Go os ∧ pr ρ (fun ds => ds.length = n ∧ G ds (fun d => (d.isL = false ∧ d.lf = true) ∧ po d) xx) xx) xx
section
variable {g : Gx} {W : XW} {mr : Md} {k k1 k2 n m : Nat} {tr tro : TA} {pr pro : PXs} {G : GD} {Go : List D → Prop}
theorem sx_callN (hm : mr = .e ∨ mr = .f) (hgo : ∀ ds, Go ds → ds.length = m) (hkk : k ≤ NM) (ho : SA g W .t k1 tro pro) (ha : SA g W .e k2 tr pr) :
    SX g W .f (k1 + k2) (tCallS (spD g n true mr k G) (WE W) (tCons (tCallS (spS g m Go) (WE W) tro) tr)) (pCallN n G Go pro pr) := fun c hc N σ H ρ r hk po xx hp hx Q q => by
  show tCallS (spS g m Go) (WE W) tro σ H fun s H1 => tr σ H1 fun vs H2 => spD g n true mr k G (s :: vs) H2 Q (WE W σ)
  refine ho c hc N σ H ρ r (by omega) _ xx hp (hx.sub (by omega)) _ fun ovs H1 ods M1 hM1 hd r1 e1 hv => ?_
  obtain ⟨hG, hd⟩ := hd
  subst hc
  refine ⟨Sa ρ σ, ods, hgo ods hG, hv, hG, fun p H2 hp2 e2 hw => ?_⟩
  obtain ⟨ws, h1, h2⟩ := hw
  have rF := r1.addF (M := M1) hp2 (.of e2) (fun a z => by
    obtain ⟨us, g1, g2⟩ := r1.srcs a z
    exact ⟨us, e2 _ _ g1, g2⟩) (Nat.le_refl _) h1
  refine ha (c.addF p) rfl M1 σ H2 ρ rF (by omega) _ xx hd (Xf.addF (hx.sub (by omega))) _ fun vs H3 ds M2 hM2 hd3 r3 e3 hv3 => ?_
  obtain ⟨hl, hG3⟩ := hd3
  obtain ⟨pO, pP, _⟩ := r3.fr p (.inr rfl)
  have hp3 : H3 p = some (.lst ws) := e3 p _ h1 fun z => pO (sa_own z)
  have ne : ∀ a, Bs c ρ σ a → a ≠ p := fun a z => r1.bs_ne z hp2
  have back : ∀ H', (∀ a o, H3 a = some o → some p ≠ some a → H' a = some o) → Rep c (max M1 M2) ρ σ H' ∧ Ext (Sa ρ σ) H1 H' := fun H' q1 => by
    have keep : ∀ a o, H1 a = some o → ¬ Sa ρ σ a → H' a = some o := fun a o e n => by
      have np : a ≠ p := ne_of_none e hp2
      exact q1 a o (e3 a o (e2 a o e) n) fun z => by cases z; exact np rfl
    have srcs : ∀ a, Sa ρ σ a → SrcAt c a (max M1 M2) H' := fun a z => by
      obtain ⟨us, g1, g2⟩ := r3.srcs a z
      exact ⟨us, q1 a _ g1 (fun e => by cases e; exact pO (sa_own z)), c.g.wm _ _ _ (Nat.le_max_right ..) g2⟩
    exact ⟨r1.step (M := max M1 M2) keep srcs (Nat.le_max_left ..), keep⟩
  refine ⟨some p, vs, ds, Bs c ρ σ, 0, _, _, rfl, rfl, hl, RpA.less (fun a z => ?_) hv3, fun a z => ⟨fun e => ?_, r3.bsAt (bs_addF z)⟩, fun a e => ?_, by omega, hG3, ?_, fun e cls dd H' M' hM' z hr q1 _ => hx e cls dd H' (max M1 M2) (by omega) z hr (back H' q1).1⟩
  · rcases z with z | z
    · exact bs_addF z
    · cases z; exact .inl (.inr rfl)
  · cases e; exact ne p z rfl
  · cases e; exact ⟨ws, hp3, h2⟩
  · rintro v H' d M hM ⟨⟨hL, hlf⟩, hpo⟩ ⟨q1, q2, q3⟩
    obtain ⟨r', keep⟩ := back H' q1
    have hrp : ∃ B, Rp c.g.K H' B v d := by
      rcases hm with z | z
      · subst z; exact ⟨_, q3⟩
      · subst z
        rcases q3 with ⟨_, q3⟩ | ⟨_, _, _, _, e, _⟩
        · exact ⟨_, q3⟩
        · subst e; cases hL
    obtain ⟨B, hB⟩ := hrp
    exact q v H' d (max M1 M2) (by omega) hpo r' (e1.trans keep) (.inl ⟨hL, Rp.lf (fun a z => r'.bsAt z) d v hlf hB⟩)
/-- a list against an empty one -/
def pEmp (neg : Bool) : P2 := fun x y k => onL x fun ds => y = .lst [] ∧ k (.bl (ng neg ds.isEmpty))
theorem os_emp {K : PySem.W.Frag} {neg : Bool} : OpS K (rEmp K neg) (pEmp neg) := fun H B x y d e hx hy po Q hp q => by
  obtain ⟨ds, e1, e2, hp9⟩ := onL_of hp
  subst e1; subst e2
  cases hx with
  | @lst a xs _ h1 h2 =>
    cases hy with
    | @lst b ys _ h3 h4 =>
      cases h4
      refine ⟨a, b, xs, rfl, rfl, h1.sq, h3.sq, ?_⟩
      have e : xs.isEmpty = ds.isEmpty := by cases h2 <;> rfl
      have hs := q _ _ hp9 (.bl (ng neg ds.isEmpty))
      rw [e]
      cases neg <;> exact hs
/-- the script and a list -/
def pCatS : P2 := fun x y k => ∃ ns : List Int, x = .scr ns ∧ onL y fun es => ns.length + es.length ≤ 100000 ∧ k (.lst (ns.map D.int ++ es))
theorem pd_scr {K : PySem.W.Frag} {H : Hp} {B : AS} : ∀ ns : List Int, RpA K H B (ns.map V.int) (ns.map D.int)
  | [] => .nil
  | i :: r => .cons (.int i) (pd_scr r)
variable {ta tb : TE} {pa pb : PX}
theorem sx_catS (ha : SX g W .b k1 ta pa) (hb : SX g W .b k2 tb pb) : SX g W .f (k1 + k2) (tOp (rCatQ g.K) ta tb) (pOp pCatS pa pb) := fun c hc N σ H ρ rp hk po xx hp hx Q q =>
  ha c hc N σ H ρ rp (by omega) _ xx hp (hx.sub (by omega)) _ fun x H1 d M1 hM1 hd r1 e1 hv1 =>
    hb c hc M1 σ H1 ρ r1 (by omega) _ xx hd (hx.sub (by omega)) _ fun y H2 e M2 hM2 he r2 e2 hv2 => by
      obtain ⟨ns, e3, he⟩ := he
      obtain ⟨es, e4, hz, he9⟩ := onL_of he
      subst e3; subst e4; subst hc
      have hv1' := RV.ext (md := .b) (M := M1) (M' := M2) (by simp) e2 hv1
      obtain ⟨a, ha1, ha2⟩ : ∃ a, x = .ref a ∧ SqL c.g.K H2 a (ns.map V.int) := by
        rcases hv1' with h | ⟨_, _, _, _, h, _⟩
        · cases h with
          | scr h => exact ⟨_, rfl, h.sq⟩
        · cases h
      obtain ⟨b, ys, hb1, h3, h4⟩ := RV.isLst (.inr rfl) hv2
      subst ha1; subst hb1
      have hl := pd_len h4
      refine ⟨a, b, _, ys, rfl, rfl, ha2, h3, sz_of (by rw [List.length_map]; omega), fun p hp => ?_⟩
      exact q _ _ _ M2 (by omega) he9 (r2.new hp) ((e1.trans e2).trans (.of (Ex.new hp))) (rv_newL r2 hp (pd_app (pd_scr ns) h4))
end
end PD

/-! try .. except X as n, the exception stands in the tracked heap from the suite on; isinstance of it -/
namespace SL
open PySem PySem.Spec PyProof.Rows L2 PD
theorem exO_ok {P : Program} {w : World} {H : Hp} {h : Heap} {a : Addr} {c : Value} {dd : Option Addr} {o : Obj} {fv : Array Value} (e : h.get? a = some o) (z : L2N.Zn c dd o) (d : o.data = .fields fv) : ObjOk P w H h a (exO a c dd) :=
  ⟨⟨o, fv, e, z.1, z.2.1, d, z.2.2 fv d⟩, ⟨o, e⟩, fun h1 h2 ⟨o, fv, e, r⟩ k => ⟨o, fv, k _ e, r⟩⟩
theorem exO_at {P : Program} {w : World} {H : Hp} {h : Heap} {a : Addr} {c : Value} {dd : Option Addr} (k : HOk P w H h) (e : H a = some (exO a c dd)) : ∃ o fv, h.get? a = some o ∧ o.cls = c ∧ o.dict = dd ∧ o.data = .fields fv ∧ fv[2]? = some .none := (k a _ e).1
section
variable {X : Cx} {pins : List (Addr × Obj)} {σ : L2.St} {H : Hp} {s : Shared} {a : Addr} {u : HO} {oe : Obj} {vs : Array Value}
/-- an object that nothing told of is tracked -/
theorem adopt (I : Inv X pins σ H s) (na : H a = none) (n0 : X.s_0.heap.get? a = none) (nL : a ≠ X.env.locals) (ha : s.heap.get? a = some oe) (hd : oe.data = .fields vs) (np : ∀ p ∈ X.pn ++ pins, p.1 ≠ a) (new : ∀ H', ObjOk X.prog X.w H' s.heap a u) : Inv X pins σ (upd H a u) s := by
  refine ⟨I.ok, I.os, I.bare, ⟨I.base.keep, I.base.slot, fun b o e n hx => ?_, I.base.there, fun b xs q => ?_, fun b o xs q => ?_, fun b ps q => ?_⟩, I.loc, I.cell, ?_, fun x c e => ?_, fun p hp => ?_, fun b ob e => ?_, I.len⟩
  · rw [upd_ne (fun z => by rw [z, n0] at e; cases e)]
    exact I.base.free b o e n hx
  · have q' := I.base.tups b xs q
    rw [upd_ne (ne_of_none q' na)]; exact q'
  · have q' := I.base.frzs b o xs q
    rw [upd_ne (ne_of_none q' na)]; exact q'
  · obtain ⟨more, q'⟩ := I.base.tbls b ps q
    exact ⟨more, by rw [upd_ne (ne_of_none q' na)]; exact q'⟩
  · rw [upd_ne (fun z => nL z.symm)]; exact I.free
  · rw [upd_ne ?_]
    · exact I.freeC x c e
    · intro z
      obtain ⟨v, o, ho, hdd⟩ := I.cell x c e
      rw [z, ha] at ho; cases ho; rw [hd] at hdd; cases hdd
  · obtain ⟨q1, q2, q3, q4, q5⟩ := I.pin p hp
    exact ⟨q1, by rw [upd_ne (np p hp)]; exact q2, q3, q4, q5⟩
  · by_cases hb : b = a
    · subst hb; rw [upd_same] at e; cases e; exact new _
    · rw [upd_ne hb] at e
      exact (I.hok b ob e).stay (fun _ _ _ q => q) (fun c q => by rw [upd_ne (ne_of_none q na)]; exact q) fun c xs q => by rw [upd_ne (ne_of_none q na)]; exact q
theorem suite0 (I : Inv X pins σ H s) : Inv (X.suite a (X.pn ++ pins)) [] σ H s :=
  ⟨I.ok.suite _ _, I.os, I.bare, I.base, I.loc, I.cell, I.free, I.freeC, fun p hp => I.pin p (by rw [List.append_nil] at hp; exact hp), I.hok, I.len⟩
theorem unsuite0 {pn' : List (Addr × Obj)} (I : Inv (X.suite a (X.pn ++ pins)) pn' σ H s) (ok : X.Ok) : Inv X pins σ H s :=
  ⟨ok, I.os, I.bare, I.base, I.loc, I.cell, I.free, I.freeC, fun p hp => I.pin p (List.mem_append_left _ hp), I.hok, I.len⟩
end
/-- slot i is wiped behind -/
def wiped (i : Nat) (D : Ends) : Ends := { nx := fun σ' H' => D.nx (σ'.set i none) H', rt := D.rt, bk := fun σ' H' => D.bk (σ'.set i none) H', ct := fun σ' H' => D.ct (σ'.set i none) H' }
def wAsT (K : PySem.W.Frag) (sub : Str → Option Bool) (i : Nat) (ts : Addr → TS) (Wout : WX) (D : Ends) : WX := fun cls d σ H =>
  ∃ m b, cls = exV K m ∧ sub m = some b ∧ (b = true → ∀ a, H a = none → ts a (wiped i D) (σ.set i (some (.ref a))) (upd H a (exO a cls d))) ∧ (b = false → Wout cls d σ H)
def tTry (K : PySem.W.Frag) (W : WX) (sub : Str → Option Bool) (i : Nat) (tb : WX → TS) (ts : Addr → TS) : TS := fun D σ H => tb (wAsT K sub i ts W D) D σ H
/-! ### the catch, in steps -/
/-- where a caught object lies: in no frame, in nothing that stood before, under no pin -/
structure Away (X : Cx) (pins : List (Addr × Obj)) (H : Hp) (ground : Heap) (at_ : Addr) : Prop where
  none_ : H at_ = none
  off : ground.get? at_ = none
  before : X.s_0.heap.get? at_ = none
  frame : at_ ∉ frs X.stack
  pin : ∀ p ∈ X.pn ++ pins, p.1 ≠ at_
/-- an object with fields is no frame -/
theorem no_frame {st ground : Heap} {l : List PySem.Env} {at_ : Addr} {ob : Obj} {fv : Array Value} (ff : st.FunFrames ground l) (lies : st.get? at_ = some ob) (fields : ob.data = .fields fv) : at_ ∉ frs l := by
  intro inside
  have ⟨_, ob2, lies2, plain⟩ := ff.mem inside
  have same := Option.some.inj (lies.symm.trans lies2)
  exact plain fv (same ▸ fields)
theorem sky_off {ground : Heap} {l : List PySem.Env} {at_ : Addr} {P : Obj → Prop} {loc : Addr} {st : Heap} (sky : Sky ground l at_ P loc st) : ground.get? at_ = none ∧ at_ ∉ frs l := by
  match sky with
  | .inl ⟨_, off, ff, ob, fv, lies, _, fields, _⟩ => exact ⟨off, no_frame ff lies fields⟩
  | .inr (.inl fl) =>
    have ⟨ob, fv, lies, _, fields⟩ := fl.there
    exact ⟨fl.2.1, no_frame fl.2.2.1 lies fields⟩
  | .inr (.inr hh) =>
    have ⟨_, off, ff, ob, fv, _, _, _, lies, _, fields, _⟩ := hh
    exact ⟨off, no_frame ff lies fields⟩
theorem away_of {X : Cx} {pins : List (Addr × Obj)} {σ : L2.St} {H : Hp} {st : Shared} {ground : Heap} {at_ loc : Addr} {P : Obj → Prop} {now : Heap} (hex : X.ex = []) (J : Inv X pins σ H st) (nb : ∀ b o, st.heap.get? b = some o → b ∉ frs X.stack → ground.get? b = some o)
    (sky : Sky ground X.stack at_ P loc now) (none_ : H at_ = none) : Away X pins H ground at_ := by
  obtain ⟨off, frame⟩ := sky_off sky
  have gone : ∀ ob, st.heap.get? at_ ≠ some ob := fun ob lies => by
    have := nb at_ ob lies frame
    rw [off] at this; cases this
  refine ⟨none_, off, ?_, frame, ?_⟩
  · cases old : X.s_0.heap.get? at_ with
    | none => rfl
    | some ob =>
      have ⟨ob2, lies⟩ := J.base.there at_ ob old (by rw [hex]; intro z; cases z)
      exact absurd lies (gone ob2)
  · intro p hp same
    have lies := (J.pin p hp).1
    rw [same] at lies
    exact gone _ lies
section
variable {X : Cx} {x n : Str} {c : Value} {sub : Str → Option Bool} {i : Nat} {body suite : List Stmt} {b₀ : Stmt} {np pos pos' : Pos} {tb : WX → TS} {ts : Addr → TS} {Wout : WX}
/-- the clause's test -/
theorem clause_test {pins : List (Addr × Obj)} {σ : L2.St} {H : Hp} {st : Shared} {at_ : Addr} {Q E : Value → Shared → Prop} (hc : Names X x c) (I : Inv (X.suite at_ (X.pn ++ pins)) [] σ H st) (go : Q c st) :
    wpAny (model X.prog X.w) (X.A.mark (some (.ref at_))) (eval (.Name x np) X.env) Q E st := by
  have ⟨hg, notD, own⟩ := hc
  cases own with
  | inl here => exact ld_glob (X := X.suite at_ (X.pn ++ pins)) I hg here go notD
  | inr there => exact ld_blt (X := X.suite at_ (X.pn ++ pins)) I hg there.1 there.2.1 go there.2.2 notD
/-- an ending of the suite, its name forgotten -/
theorem clause_end {pins : List (Addr × Obj)} {st : Shared} {at_ : Addr} {D : Ends} {fl : Flow} (ok : X.Ok) (hN : X.N.Nodup) (hi : X.N[i]? = some n) (hln : X.env.kindOf n = some .local) (h : SP (X.suite at_ (X.pn ++ pins)) [] (wiped i D) fl st) :
    wpAny (model X.prog X.w) X.A (do bindName X.env n .none; unbindBehindTheSuite X.env n pos') (fun _ st' => SP X pins D fl st') X.xe st := by
  have out : ∀ {σ' : L2.St} {H' : Hp} {Q : Shared → Prop}, Inv (X.suite at_ (X.pn ++ pins)) [] σ' H' st → (∀ st', Inv X pins (σ'.set i none) H' st' → Q st') →
      wpAny (model X.prog X.w) X.A (do bindName X.env n .none; unbindBehindTheSuite X.env n pos') (fun _ st' => Q st') X.xe st := fun I q => gone_ok (unsuite0 I ok) hN hi hln q
  match fl, h with
  | .next, ⟨_, _, I, q⟩ => exact out I fun _ J => ⟨_, _, J, q⟩
  | .brk, ⟨_, _, I, q⟩ => exact out I fun _ J => ⟨_, _, J, q⟩
  | .cont, ⟨_, _, I, q⟩ => exact out I fun _ J => ⟨_, _, J, q⟩
  | .ret _, ⟨_, _, _, I, rel, q⟩ => exact out I fun _ J => ⟨_, _, _, J, rel, q⟩
theorem ps_try_asT (hs : X.stack = X.env :: X.outer) (hf : X.env.frame = some X.env.locals) (hex : X.ex = []) (hN : X.N.Nodup) (hi : X.N[i]? = some n) (hln : X.env.kindOf n = some .local) (hc : Names X x c) (hsub : ∀ m b, sub m = some b → PySem.W.exmOne X.K (exV X.K m) c = some b) (tk : L2N.Takes X Wout)
    (hb : ∀ (W : WX) (pn : List (Addr × Obj)) (xe : Value → Shared → Prop), L2N.Takes (X.tr pn xe) W → PassesOwn (model X.prog X.w) X.A X.env xe → PSs (X.tr pn xe) body (tb W)) (hsu : ∀ (a : Addr) (pn : List (Addr × Obj)), PSs (X.suite a pn) (b₀ :: suite) (ts a)) :
    PS X (.Try body [.ExceptHandler (some (.Name x np)) (some n) (b₀ :: suite) pos'] [] [] pos) (tTry X.K Wout sub i tb ts) := by
  constructor
  intro pins st σ H D I h
  have ok := I.ok
  have frames : X.A.frames = some (X.env :: X.outer) := hs ▸ ok.frames
  apply wpAny_Try_except
  -- what the body lets out
  let out : Value → Shared → Prop := fun e s₁ => wpAny (model X.prog X.w) X.A (noteFrame e X.env) (fun _ s₂ => wpAny (model X.prog X.w) X.A (setFlight e none) (fun _ s₃ => wpAny (model X.prog X.w) X.A (handleBy e X.env [.ExceptHandler (some (.Name x np)) (some n) (b₀ :: suite) pos']) (SP X pins D) X.xe s₃) X.xe s₂) X.xe s₁
  have takes : L2N.Takes (X.tr (X.pn ++ pins) out) (wAsT X.K sub i ts Wout D) := by
    rintro u now ⟨at_, ground, st', pins', σ', H', cls, dd, rfl, J', nb, up, sky, none_, os, ag, name, b, isCls, known, yes, no⟩
    have J : Inv X pins σ' H' st' := J'.ofTry ok
    have aw := away_of hex J nb sky none_
    have loc : at_ ≠ X.env.locals := fun z => aw.frame (by rw [hs]; exact List.mem_filterMap.mpr ⟨X.env, .head _, by rw [hf, z]⟩)
    have match_ : PySem.W.exmOne X.K cls c = some b := isCls ▸ hsub name b known
    show wpAny _ X.A (noteFrame (.ref at_) X.env) _ _ now
    have skyH : Sky ground (X.env :: X.outer) at_ (L2N.Zn cls dd) X.env.locals now.heap := hs ▸ sky
    apply L2N.Sky.land L2N.Zn.steady frames hf skyH
    intro h1 fly1 up1
    have J1 := J.landed (s' := { now with heap := h1 }) nb fly1.1 (up.trans up1) os ag
    have ⟨ob1, fv1, lies1, cls1, fields1⟩ := fly1.there
    refine wpAny_handleBy_cons ?_ (fun z => by cases z)
    apply codeAny_handlers_test
    apply clause_test hc (suite0 (a := at_) J1)
    have kind : PySem.W.Looks (model X.prog X.w) h1 (typeOf (.ref at_)) cls := fun _ _ _ _ keep q => wpAny_typeOf_ref (keep at_ ob1 lies1) (cls1.1 ▸ q)
    apply (PySem.W.exm_one J1.kIn kind match_).here
    cases b with
    | true =>
      apply codeAny_handlers_suite_as
      apply HandSPX.lands_againZ fly1
      intro h2 fly2 up2
      have J2 := J.landed (s' := { now with heap := h2 }) nb fly2.1 ((up.trans up1).trans up2) os ag
      have ⟨ob2, fv2, lies2, cls2, fields2⟩ := fly2.there
      have told := adopt J2 none_ aw.before loc lies2 fields2 aw.pin fun _ => exO_ok (P := X.prog) (w := X.w) lies2 cls2 fields2
      refine store_ok (X := X.suite at_ (X.pn ++ pins)) (v := .ref at_) (suite0 (a := at_) told) hN hi (.inl hln) rfl ?_ (.inr hln)
      intro st2 I2
      exact wpAny_mono ((hsu at_ (X.pn ++ pins)).run [] st2 _ _ _ I2 (yes rfl at_ none_)) (fun fl st3 q => clause_end ok hN hi hln q) fun _ _ z => z.elim
    | false =>
      show wpAny _ X.A (handleBy (.ref at_) X.env []) _ _ _
      apply wpAny_handleBy_nil
      have ⟨_, _, _, ob, fv, tb, _, _, lies, _, fields, tr, _⟩ := fly1
      have up_ : wpAny (model X.prog X.w) X.A (setFlight (.ref at_) X.env.frame) (fun _ st4 => wpAny (model X.prog X.w) X.A (throw (.ref at_) : Sem Flow) (SP X pins D) X.xe st4) X.xe { now with heap := h1 } := by
        rw [hf]
        apply HandSPX.setFlight_upZ fly1
        intro h3 held up3
        exact wpAny_throw (tk _ _ ⟨at_, ground, st', pins, σ', H', cls, dd, rfl, J, nb, (up.trans up1).trans up3, .inr (.inr (hs ▸ held)), none_, os, ag, no rfl⟩)
      unfold PySem.passOn
      apply wpAny_bind
      apply wpAny_field lies fields tr
      have known : ¬ ((Value.ref tb == Value.none) = true) := by simp
      rw [if_neg known]
      first
        | exact wpAny_bind (wpAny_pure (wpAny_bind up_))
        | exact wpAny_bind up_
  apply wpAny_mono ((hb _ (X.pn ++ pins) out takes PassesOwn.looking).run [] st σ H D (I.toTry out) h)
  · intro fl st1 ended
    match fl, ended with
    | .next, ⟨_, _, J, q⟩ => exact wpAny_execs_nil ⟨_, _, J.ofTry ok, q⟩
    | .brk, ⟨_, _, J, q⟩ => exact ⟨_, _, J.ofTry ok, q⟩
    | .cont, ⟨_, _, J, q⟩ => exact ⟨_, _, J.ofTry ok, q⟩
    | .ret _, ⟨_, _, _, J, rel, q⟩ => exact ⟨_, _, _, J.ofTry ok, rel, q⟩
  · exact fun _ _ q => q
end
/-! isinstance of it, its index -/
def rIsX (K : PySem.W.Frag) (kit : Str → Str → Option Bool) : List V → Hp → VK → Prop := fun xs H Q => ∃ (a : Addr) (dd : Option Addr) (n m : Str) (b : Bool), xs = [.ref a, .ref (adE K m)] ∧ H a = some (exO a (exV K n) dd) ∧ (dd = none ∨ ∃ p fs, dd = some p ∧ H p = some (.xd fs)) ∧ kit n m = some b ∧ Q (.bl b) H
/-- what is known of the classes -/
structure KitX (K : PySem.W.Frag) (kit : Str → Str → Option Bool) : Prop where
  ref : ∀ n m b, kit n m = some b → exV K n = .ref (adE K n) ∧ exV K m = .ref (adE K m) ∧ ExcC K (adE K n) ∧ PySem.W.kitOne K (exV K n) (exV K m) = some b
theorem inst_of {X : Cx} {pins : List (Addr × Obj)} {σ : L2.St} {H : Hp} {s : Shared} {a D : Addr} {dd : Option Addr} (I : Inv X pins σ H s) (h : H a = some (exO a (.ref D) dd)) (hd : dd = none ∨ ∃ p fs, dd = some p ∧ H p = some (.xd fs)) :
    ∃ o od, PySem.W.InstAt s.heap a o D od := by
  obtain ⟨o, fv, e1, e2, e3, e4, _⟩ := exO_at I.hok h
  have no : PySem.W.notCls o = true := by unfold PySem.W.notCls; rw [e4]
  rcases hd with z | ⟨p, fs, z, hp⟩
  · exact ⟨o, none, e1, e2, no, by rw [e3, z]; trivial⟩
  · obtain ⟨mA, ⟨od, ho⟩, _⟩ := (show ∃ mA, s.heap.Ns1 p mA ∧ ∀ f, RelO (fs.lookup f) (mA f) from I.hok p _ hp)
    obtain ⟨es, ep, ho, _⟩ := ho
    exact ⟨o, some od, e1, e2, no, by rw [e3, z]; exact ho⟩
theorem call_isX {X : Cx} {kit : Str → Str → Option Bool} (hk : KitX X.K kit) : CallR X (.builtin "isinstance") (rIsX X.K kit) := by
  intro pins s σ H xs us Q I r h
  obtain ⟨a, dd, n, m, b, rfl, ha, hd, hb, q⟩ := h
  obtain ⟨k1, k2, C, k4⟩ := hk.ref n m b hb
  obtain ⟨u1, u2, rfl, r1, r2⟩ := vals2 r
  cases (show u1 = Value.ref a from r1)
  cases (show u2 = Value.ref (adE X.K m) from r2)
  rw [k1] at ha
  obtain ⟨o, od, J⟩ := inst_of I ha hd
  rw [k1, k2] at k4
  have hcl : (PySem.W.clsIn X.K (adE X.K n)).isSome = true := by
    obtain ⟨cd, hc, _⟩ := PySem.W.any_some C.hd
    rw [hc]; rfl
  exact PySem.W.kia_one (PySem.W.kitx_exc (od := od) hcl C.hg C.hk C.hs C.ha C.hn C.ht C.hm) I.kIn J k4 (fun z => nomatch z) fun tk => ⟨.bl b, H, I.tok tk, rfl, q⟩
def tIdx (K : PySem.W.Frag) (ok : Str → Bool) (f : Str) (te : TE) : TE := fun σ H Q => te σ H fun x H1 => ∃ (a p : Addr) (n : Str) (fs : List (Str × V)) (v : V), x = .ref a ∧ ok n = true ∧ H1 a = some (exO a (exV K n) (some p)) ∧ H1 p = some (.xd fs) ∧ fs.lookup f = some v ∧ Q v H1
theorem pe_idx {X : Cx} {ok : Str → Bool} {e : Expr} {te : TE} {pos : Pos} {f : Str} (hk : ∀ n, ok n = true → exV X.K n = .ref (adE X.K n) ∧ XfC X.K (adE X.K n) ∧ PySem.W.findIn X.K (.ref (adE X.K n)) f = some none)
    (he : PE X e te) (hb : attributeBase e f X.env (eval e X.env) = eval e X.env := by rfl) : PE X (.Attribute e f pos) (tIdx X.K ok f te) := by
  refine ⟨fun pins s σ H Q I h => ?_⟩
  refine attr_of hb (thn (he.run pins s σ H _ I h) fun u s1 hh => ?_)
  obtain ⟨x, H1, I1, rx, a, p, n, fs, v, ex, ho, ha, ea, l, q⟩ := hh
  subst ex
  obtain rfl : u = Value.ref a := rx
  obtain ⟨k1, T, hno⟩ := hk n ho
  rw [k1] at ha
  obtain ⟨o, fv, e1, e2, e3, e4, _⟩ := exO_at I1.hok ha
  have hx : ObjOk X.prog X.w H1 s1.heap p (.xd fs) := I1.hok p _ ea
  obtain ⟨mA, hns, hr⟩ := hx
  obtain ⟨od, ho, hl⟩ := lookIn_ns hns
  obtain ⟨u, hu, ru⟩ := RelO.some_of (v := v) (o := mA f) (by rw [← l]; exact hr f)
  have J : PySem.W.InstAt s1.heap a o (adE X.K n) (some od) := ⟨e1, e2, by unfold PySem.W.notCls; rw [e4] <;> rfl, by rw [e3]; exact ho⟩
  exact HandSPX.exc_get I1.kIn J T.ga T.gg T.exC (PySem.W.findObj_own T.hdC hno rfl (by rw [hl, hu])) (handed_of ru) ⟨v, H1, I1.tok _, ru, q⟩
/-! raise X('..') -/
def tRaise (K : PySem.W.Frag) (W : WX) (n : Str) : TS := fun _ σ H => W (exV K n) none σ H
/-- a class over ValueError without own __init__ -/
structure MkX (K : PySem.W.Frag) (n : Str) : Prop where
  ref : exV K n = .ref (adE K n)
  own : PySem.W.excIn K (adE K n) [.type "ValueError", .type "Exception", .type "BaseException", .type "object"] "ValueError.__new__" = true
  keep : PySem.W.keepIn K (.ref (adE K n)) = true
  sub : PySem.W.subIn K (.ref (adE K n)) (.type "BaseException") = some true
  ty : PySem.W.typeIn K (.ref (adE K n)) = some (.type "type")
theorem ps_raiseT {X : Cx} {W : WX} {n m : Str} {j : Nat} {p p2 pos pos' : Pos} (hc : X.calm = true) (tk : L2N.Takes X W) (hx : MkX X.K n) (gC : X.mg n = some (.ref (adE X.K n))) (hg : Gl X n) (hdb : (n == ("__debug__" : Str)) = false := by decide) :
    PS X (.Raise (some (.Call (.Name n p) [.Constant (.str m) j p2] [] pos)) none pos') (tRaise X.K W n) := by
  have h := L2N.ps_raise (pos := pos') hc tk (L2N.pmk_own (m := m) (j := j) (p := p) (p2 := p2) (pos := pos) PySem.F.excBase_ValueError hx.own gC hx.keep (raises_own hx.sub hx.ty) hg hdb)
  have e : tRaise X.K W n = fun _ σ H => (fun (_ : L2.St) (H : Hp) (Q : XK) => Q (.ref (adE X.K n)) none H) σ H fun cls d H' => W cls d σ H' := by
    funext D σ H
    show W (exV X.K n) none σ H = _
    rw [hx.ref]
  rw [e]; exact h
/-! defs that may raise and ask repr -/
section
variable {P : Program} {w : World} {K : PySem.W.Frag} {mg : Str → Option Value} {base : Heap} {CX : CXT} {n : Nat} {fa : Addr} {rec : FuncData} {par : List Str} {sp : Sp}
theorem okGX {nm ql : Str} {tx : Stmt} {N : List Str} (o : Fun K nm ql tx fa rec) (sc : FnScope N par (defScope tx)) (many : ∀ xs G R X, sp xs G R X → xs.length = par.length)
    (body : ∀ (cv : Value) (Z : Around) (fs : List PySem.Env) (st : Shared) (G : Hp) (xs : List V) (R : VK) (X : XK), (Z.deeper (envOfC ql (defScope tx) st.heap.objs.size fa cv)).guards = some [] → Room n (Z.deeper (envOfC ql (defScope tx) st.heap.objs.size fa cv)) → sp xs G R X →
      ∃ t, PSs (cxOf CX P w K mg base N ql (defScope tx) fa cv Z fs st G X) (defBody tx) t ∧ t { nx := fun _ G' => R .non G', rt := R } (start N xs) G) : FnG P w K mg base CX (n + 1) fa rec par sp := by
  obtain ⟨c1, c2, c3, c4, c5, c6, cv, c8, c9, er, there, ccode⟩ := o.ex
  subst er
  constructor
  · exact many
  intro Z fs st G gs ys xs R X hgd room env bnd rel want
  have sizes := many _ _ _ _ want
  have inK : K.In st.heap := env.mod.kin.keeps (fun b u g => (env.bs b u g).1)
  have noLim : st.heap.NoLimit := env.mod.nolimit.keeps (fun b u g => (env.bs b u g).1)
  have kinds : ∀ z ∈ par.zip ys, (defScope tx).names.lookup z.1 = some .local ∨ ((defScope tx).names.lookup z.1 = some .cell ∧ ((cellsFrom (st.heap.objs.size + 1) (defScope tx).names []).lookup z.1).isSome = true) := by
    rintro ⟨nn, vv⟩ hz
    cases sc.par nn (List.of_mem_zip hz).1 with
    | inl hl => exact Or.inl hl
    | inr hr => exact Or.inr ⟨hr, PySem.W.cellsFrom_some _ _ _ (Or.inl hr)⟩
  apply codeAny_call_function room.depth (inK _ _ there) rfl sc.co sc.gen rfl (PySem.W.codeRec_of inK ccode)
  apply bnd
  apply wpAny_newFunctionEnv_cells sc.kind kinds
  intro ev ee st1 into
  subst ee
  refine ⟨noLim.keeps into.toInCall.keep, codeAny_func ?_⟩
  obtain ⟨t, ht, go⟩ := body cv Z fs st G xs R X hgd (room.deeper _) want
  have now : Inv (cxOf CX P w K mg base N ql (defScope tx) fa cv Z fs st G X) [] (start N xs) G st1 := inv_start sc room.hd env sizes rel into
  apply wpAny_mono (ht.run [] st1 (start N xs) G _ now go)
  · intro fl st2 hs
    match fl, hs with
    | .ret u, hs =>
      obtain ⟨v, ss, G2, J, rv, hq⟩ := hs
      exact ⟨v, G2, J.os, J.bare, J.base, J.hok, rv, hq⟩
    | .next, hs =>
      obtain ⟨ss, G2, J, hq⟩ := hs
      exact ⟨V.non, G2, J.os, J.bare, J.base, J.hok, rfl, hq⟩
    | .brk, hs =>
      obtain ⟨_, _, _, hq⟩ := hs
      exact hq.elim
    | .cont, hs =>
      obtain ⟨_, _, _, hq⟩ := hs
      exact hq.elim
  · intro ex st2 hs
    exact hs
end
/-- nothing is let out where nothing may be -/
def W0 : WX := fun _ _ _ _ => False
theorem pass00 {X : Cx} {σ : L2.St} : PassesAt (L2N.CX X.prog X.w) X σ (WE W0 σ) := fun _ _ _ _ _ _ h => by
  obtain ⟨_, _, _, _, _, _, _, _, _, _, _, _, z⟩ := h
  exact z.elim
theorem takes00 {X : Cx} : L2N.Takes X (fun _ _ _ _ => False) := fun _ _ x => by
  obtain ⟨_, _, _, _, _, _, _, _, _, _, _, _, _, _, _, _, z⟩ := x
  exact z.elim
/-- a def that may let an error out, which bears no context -/
theorem okXN {P : Program} {w : World} {K : PySem.W.Frag} {mg : Str → Option Value} {base : Heap} {nm ql : Str} {tx : Stmt} {fa : Addr} {rec : FuncData} {N par : List Str} {n : Nat} {sp : Sp} (o : Fun K nm ql tx fa rec) (sc : FnScope N par (defScope tx)) (many : ∀ xs G R X, sp xs G R X → xs.length = par.length)
    (body : ∀ (cv : Value) (Z : Around) (fs : List PySem.Env) (st : Shared) (G : Hp) (xs : List V) (R : VK) (X : XK), Room n (Z.deeper (envOfC ql (defScope tx) st.heap.objs.size fa cv)) → sp xs G R X →
      ∃ t, PSs (cxOf (L2N.CX P w) P w K mg base N ql (defScope tx) fa cv Z fs st G X) (defBody tx) t ∧ t { nx := fun _ G' => R .non G', rt := R } (L2.start N xs) G) : FnOk P w K mg base (L2N.CX P w) (n + 1) fa rec par sp := by
  have ⟨_, _, _, _, _, _, _, _, _, same, there, code⟩ := o.ex
  subst same
  exact fn_of there code sc many fun Z fs st G xs R X room want => body _ Z fs st G xs R X room want
end SL

/-! list.count of flat values; isinstance of an exception with several classes, with ValueError -/
namespace SL
open PySem PySem.Spec PyProof.Rows L2 PD
section
variable {X : Cx}
def rCntF (K : PySem.W.Frag) : V → List V → Hp → VK → Prop := fun x xs H Q => ∃ (a : Addr) (ys : List V) (y : V), x = .ref a ∧ xs = [y] ∧ SqL K H a ys ∧ flatV y = true ∧ ys.all flatV = true ∧ Q (.int (ys.countP (fun z => eqV z y) : Nat)) H
theorem cnt_eqU {x : V} : ∀ {xs : List V} {us : List Value}, Vals xs us → xs.all flatV = true → us.countP (eqU x) = xs.countP fun y => eqV y x
  | _, _, .nil, _ => rfl
  | y :: xs, u :: us, .cons r t, f => by
    rw [List.all_cons, Bool.and_eq_true] at f
    rw [List.countP_cons, List.countP_cons, cnt_eqU t f.2, eqU_of r f.1]
theorem mt_lcountF : MtR X "list.count" (rCntF X.K) := by
  intro pins s σ H x xs v us Q I rx rxs h
  obtain ⟨a, ys, y, rfl, rfl, hs, fy, fys, q⟩ := h
  cases rx
  cases rxs with
  | cons ry rt =>
    rename_i uy ut
    cases rt
    obtain ⟨its, rv, ⟨⟨cls, dd, data, sl⟩, n, ho, hc, hdn, hd⟩, hlen⟩ := I.list hs
    simp only at hc hd
    subst hc hd
    refine call_meets PySem.F.slot_list_count ⟨_, ho, rfl⟩ PySem.F.entry_list_count (PySem.F.args_list_count_2 _ _)
      (SeqAt.list_countAt a its.toArray n dd sl uy (eqU y)) ⟨ho, fun u' hu' => mem_eqAt ry fy rv fys u' (by simpa using hu'), ?_⟩
    have ec : its.toArray.toList.countP (eqU y) = ys.countP fun z => eqV z y := cnt_eqU rv fys
    refine ⟨.int (ys.countP (fun z => eqV z y) : Nat), H, I.tok _, ⟨s.toks, ?_⟩, q⟩
    show Value.int ((its.toArray.toList.countP (eqU y) : Nat) : Int) s.toks = Value.int ((ys.countP (fun z => eqV z y) : Nat) : Int) s.toks
    rw [ec]
/-! several classes at once -/
def kitS (kit : Str → Str → Option Bool) (n : Str) : List Str → Option Bool
  | [] => some false
  | m :: ms => match kit n m, kitS kit n ms with
    | some b, some d => some (b || d)
    | _, _ => none
def rIsXT (K : PySem.W.Frag) (kit : Str → Str → Option Bool) : List V → Hp → VK → Prop := fun xs H Q => ∃ (a tp : Addr) (dd : Option Addr) (n : Str) (ms : List Str) (b : Bool), xs = [.ref a, .ref tp] ∧ H tp = some (.tup (ms.map fun m => .ref (adE K m))) ∧ H a = some (exO a (exV K n) dd) ∧ (dd = none ∨ ∃ p fs, dd = some p ∧ H p = some (.xd fs)) ∧
  ms ≠ [] ∧ kitS kit n ms = some b ∧ Q (.bl b) H
theorem kitS_any {K : PySem.W.Frag} {kit : Str → Str → Option Bool} (hk : KitX K kit) {n : Str} : ∀ {ms : List Str} {b : Bool}, kitS kit n ms = some b → PySem.W.kitAny K (exV K n) (ms.map fun m => .ref (adE K m)) = some b
  | [], b, h => by cases h; rfl
  | m :: ms, b, h => by
    unfold kitS at h
    split at h
    · rename_i b1 d1 h1 h2
      cases h
      obtain ⟨_, k2, _, k4⟩ := hk.ref n m b1 h1
      have ih := kitS_any hk h2
      rw [List.map_cons]
      unfold PySem.W.kitAny
      rw [← k2, k4]
      cases b1 with
      | true => rfl
      | false => show PySem.W.kitAny K (exV K n) _ = some (false || d1); rw [ih]; rfl
    · cases h
theorem kitS_ref {K : PySem.W.Frag} {kit : Str → Str → Option Bool} (hk : KitX K kit) {n m : Str} {ms : List Str} {b : Bool} (h : kitS kit n (m :: ms) = some b) : exV K n = .ref (adE K n) ∧ ExcC K (adE K n) := by
  unfold kitS at h
  split at h
  · rename_i b1 d1 h1 h2
    obtain ⟨k1, _, C, _⟩ := hk.ref n m b1 h1
    exact ⟨k1, C⟩
  · cases h
theorem refs_of {K : PySem.W.Frag} : ∀ {ms : List Str} {us : List Value}, Vals (ms.map fun m => .ref (adE K m)) us → us = ms.map fun m => .ref (adE K m)
  | [], _, h => by cases h; rfl
  | m :: ms, _, h => by
    cases h with
    | cons r t =>
      rw [List.map_cons, ← refs_of t]
      cases (show _ = Value.ref (adE K m) from r)
      rfl
theorem call_isXT {kit : Str → Str → Option Bool} (hk : KitX X.K kit) : CallR X (.builtin "isinstance") (rIsXT X.K kit) := by
  intro pins s σ H xs us Q I r h
  obtain ⟨a, tp, dd, n, ms, b, rfl, hT, ha, hd, hne, hb, q⟩ := h
  match ms, hne with
  | m :: ms, _ =>
  obtain ⟨k1, C⟩ := kitS_ref hk hb
  have k4 := kitS_any hk hb
  obtain ⟨u1, u2, rfl, r1, r2⟩ := vals2 r
  cases (show u1 = Value.ref a from r1)
  cases (show u2 = Value.ref tp from r2)
  rw [k1] at ha k4
  obtain ⟨o, od, J⟩ := inst_of I ha hd
  have hcl : (PySem.W.clsIn X.K (adE X.K n)).isSome = true := by
    obtain ⟨cd, hc, _⟩ := PySem.W.any_some C.hd
    rw [hc]; rfl
  obtain ⟨_, its, rv, o2, h1, h2, n2, h3⟩ := (show ObjOk X.prog X.w H s.heap tp (.tup ((m :: ms).map fun m => .ref (adE X.K m))) from I.hok tp _ hT)
  have e3 := refs_of rv
  subst e3
  obtain ⟨oc, od2, dt, sl⟩ := o2
  simp only at h2 h3
  subst h2 h3
  exact PySem.W.kia_tup (PySem.W.kitx_exc (od := od) hcl C.hg C.hk C.hs C.ha C.hn C.ht C.hm) I.kIn J h1 k4 (fun z => nomatch z) fun tk => ⟨.bl b, H, I.tok tk, rfl, q⟩
/-- isinstance(e, T), T a built-in class -/
def rIsXV (K : PySem.W.Frag) (ok : Str → Bool) (T : String) : List V → Hp → VK → Prop := fun xs H Q => ∃ (a : Addr) (dd : Option Addr) (n : Str), xs = [.ref a, .ty T] ∧ H a = some (exO a (exV K n) dd) ∧ (dd = none ∨ ∃ p fs, dd = some p ∧ H p = some (.xd fs)) ∧ ok n = true ∧ Q (.bl true) H
theorem call_isXV {ok : Str → Bool} {T : String} (hk : ∀ n, ok n = true → exV X.K n = .ref (adE X.K n) ∧ ExcC X.K (adE X.K n) ∧ PySem.W.kitOne X.K (.ref (adE X.K n)) (.type T) = some true) : CallR X (.builtin "isinstance") (rIsXV X.K ok T) := by
  intro pins s σ H xs us Q I r h
  obtain ⟨a, dd, n, rfl, ha, hd, hb, q⟩ := h
  obtain ⟨k1, C, k4⟩ := hk n hb
  obtain ⟨u1, u2, rfl, r1, r2⟩ := vals2 r
  cases (show u1 = Value.ref a from r1)
  cases (show u2 = Value.type T from r2)
  rw [k1] at ha
  obtain ⟨o, od, J⟩ := inst_of I ha hd
  have hcl : (PySem.W.clsIn X.K (adE X.K n)).isSome = true := by
    obtain ⟨cd, hc, _⟩ := PySem.W.any_some C.hd
    rw [hc]; rfl
  exact PySem.W.kia_one (PySem.W.kitx_exc (od := od) hcl C.hg C.hk C.hs C.ha C.hn C.ht C.hm) I.kIn J k4 (fun z => nomatch z) fun tk => ⟨.bl true, H, I.tok tk, rfl, q⟩
end
end SL

/-! raise, try .. except X as n, isinstance of what was caught, its index -/
namespace PD
open PySem PySem.Spec PyProof.Rows L2 Evl SL
section
variable {g : Gx} {W : XW} {mr : Md} {c : Cf} {N M M' L k k1 k2 k3 : Nat} {ρ : Env} {σ : L2.St} {H H' : Hp} {md : Md} {ta : TE} {pa : PX} {tb : XW → TS} {ts : TS} {p q : PS'} {n : Str}
def kRaise (n : Str) : PS' := fun κ ρ => κ.xx ρ ⟨n, none⟩
theorem ss_raise : SS g W mr 0 (tRaise g.K W n) (kRaise n) := fun c hc N σ H ρ r hk κ hp D hD => by
  subst hc
  exact hD.xx ρ σ H N ⟨n, none⟩ _ none (by omega) hp ⟨rfl, rfl⟩ r
/-- the suite's ends: its name is forgotten behind -/
def sufK (i : Nat) (κ : PK) : PK := { nx := fun ρ => κ.nx (ρ.set i none), rt := κ.rt, bk := fun ρ => κ.bk (ρ.set i none), ct := fun ρ => κ.ct (ρ.set i none), xx := fun _ _ => False }
def tryK (i : Nat) (sub : Str → Option Bool) (q : PS') (κ : PK) : PK := { κ with xx := fun ρ e => ∃ b, sub e.cls = some b ∧ (b = true → q (sufK i κ) (ρ.set i (some (.d (.exc e.cls e.ix))))) ∧ (b = false → κ.xx ρ e) }
def kTry (i : Nat) (sub : Str → Option Bool) (p q : PS') : PS' := fun κ ρ => p (tryK i sub q κ) ρ
theorem rp_exc {e : Exn} {cls : Value} {dd : Option Addr} {a : Addr} (r : Rep c M ρ σ H) (hr : XR c.g.K H e cls dd) (na : H a = none) : Rp c.g.K (upd H a (exO a cls dd)) (Bs c ρ σ) (.ref a) (.exc e.cls e.ix) := by
  obtain ⟨n, ix⟩ := e
  obtain ⟨h1, h2⟩ := hr
  have nb : ¬ Bs c ρ σ a := fun z => r.bs_ne z na rfl
  subst h1
  cases ix with
  | none =>
    have h2 : dd = none := h2
    subst h2
    exact .exc0 upd_same nb
  | some j =>
    obtain ⟨p, h2, h3⟩ := (show ∃ p, dd = some p ∧ H p = some (.xd [("index", .int j)]) from h2)
    subst h2
    refine .exc1 upd_same nb (by rw [upd_ne (ne_of_none h3 na)]; exact h3) fun z => ?_
    obtain ⟨xs, g⟩ := r.bsAt z
    rw [h3] at g; cases g
/-! where more is known of the frame -/
def SXh (P : Cf → Prop) (g : Gx) (W : XW) (md : Md) (k : Nat) (t : TE) (p : PX) : Prop :=
  ∀ c, c.g = g → P c → ∀ N σ H ρ, Rep c N ρ σ H → N + k ≤ NM → ∀ po xx, p ρ po xx → Xf W c N k ρ σ xx → ∀ Q, Af c N k ρ σ H md po Q → t σ H Q
def SSh (P : Cf → Prop) (g : Gx) (W : XW) (mr : Md) (k : Nat) (t : TS) (p : PS') : Prop :=
  ∀ c, c.g = g → P c → ∀ N σ H ρ, Rep c N ρ σ H → N + k ≤ NM → ∀ κ, p κ ρ → ∀ D, EndsOk c W mr (N + k) κ D → t D σ H
theorem SX.h {P : Cf → Prop} {k : Nat} {t : TE} {p : PX} (h : SX g W md k t p) : SXh P g W md k t p := fun c hc _ => h c hc
theorem SS.h {P : Cf → Prop} {k : Nat} {t : TS} {p : PS'} (h : SS g W mr k t p) : SSh P g W mr k t p := fun c hc _ => h c hc
theorem SSh.mono {P : Cf → Prop} {k k' : Nat} {t : TS} {p : PS'} (h : SSh P g W mr k t p) (e : k ≤ k') : SSh P g W mr k' t p := fun c hc hp N σ H ρ r hk κ hq D hD => h c hc hp N σ H ρ r (by omega) κ hq D (hD.sub (by omega))
theorem ssh_seq {P : Cf → Prop} {t u : TS} (h1 : SSh P g W mr k1 t p) (h2 : SSh P g W mr k2 u q) : SSh P g W mr (k1 + k2) (tSeq t u) (kSeq p q) := fun c hc hP N σ H ρ r hk κ hp D hD => by
  refine h1 c hc hP N σ H ρ r (by omega) _ hp _ ⟨fun ρ' σ' H' M hM hq r' => ?_, fun ρ σ H M hM => hD.bk ρ σ H M (by omega), fun ρ σ H M hM => hD.ct ρ σ H M (by omega), fun v H d M hM => hD.rt v H d M (by omega), fun ρ σ H M e cls dd hM => hD.xx ρ σ H M e cls dd (by omega)⟩
  exact h2 c hc hP M σ' H' ρ' r' (by omega) κ hq D (hD.sub (by omega))
theorem ssh_asgD {P : Cf → Prop} {i : Nat} (ha : SXh P g W .e k ta pa) : SSh P g W mr k (tAsg ta (gName i)) (kAsgD i pa) := fun c hc hP N σ H ρ r hk κ hp D hD =>
  ha c hc hP N σ H ρ r hk _ _ hp (hD.xf (by omega)) _ fun v H1 d M1 hM1 hd r1 e1 hv1 => hD.nx _ _ H1 M1 hM1 hd (r1.setD hv1)
theorem SXh.fe {P : Cf → Prop} (h : SXh P g W .f k ta pa) : SXh P g W .e k ta pa := fun c hc hP N σ H ρ r hk po xx hp hx Q q =>
  h c hc hP N σ H ρ r hk po xx hp hx Q fun v H' d M hM hd r' e hv => q v H' d M hM hd r' e hv.fe
theorem ssh_asgF {P : Cf → Prop} {i : Nat} (ha : SXh P g W .f k ta pa) : SSh P g W mr k (tAsg ta (gName i)) (kAsgF i pa) := fun c hc hP N σ H ρ r hk κ hp D hD =>
  ha c hc hP N σ H ρ r hk _ _ hp (hD.xf (by omega)) _ fun v H1 d M1 hM1 hd r1 e1 hv1 => by
    rcases hv1 with ⟨hl, hv1⟩ | ⟨a, vs, ds, rfl, rfl, h1, h2, h3, h4, h5⟩
    · exact hD.nx _ _ H1 M1 hM1 hd (by rw [asO_d hl]; exact r1.setD hv1)
    · exact hD.nx _ _ H1 M1 hM1 hd (h5.setOwn (w := .o ds) trivial h2 (fun xs e => by cases e; exact ⟨vs, h1, h4⟩) (fun e => by cases e) h3)
/-- the exception at a stands in the frame's heap -/
def HotCf (a : Addr) (c : Cf) : Prop := ∀ N ρ σ H, Rep c N ρ σ H → ∃ cls dd, H a = some (exO a cls dd)
theorem hot_addK {a : Addr} {n : Str} {ix : Option Int} : HotCf a (c.addK (.ref a) (.exc n ix)) := fun N ρ σ H r => by
  have h := r.kd (.ref a, .exc n ix) (List.mem_cons_self ..)
  have h : Rp c.g.K H (Bs c ρ σ) (.ref a) (.exc n ix) := h
  cases h with
  | exc0 h1 _ => exact ⟨_, _, h1⟩
  | exc1 h1 _ _ _ => exact ⟨_, _, h1⟩
theorem ss_try {i : Nat} {sub : Str → Option Bool} {ts : Addr → TS} (hb : ∀ W1, SS g W1 mr k1 (tb W1) p) (hs : ∀ a, SSh (HotCf a) g W0 mr k2 (ts a) q) : SS g W mr (k1 + k2) (tTry g.K W sub i tb ts) (kTry i sub p q) := fun c hc N σ H ρ r hk κ hp D hD => by
  refine hb _ c hc N σ H ρ r (by omega) _ hp D ⟨fun ρ σ H M hM => hD.nx ρ σ H M (by omega), fun ρ σ H M hM => hD.bk ρ σ H M (by omega), fun ρ σ H M hM => hD.ct ρ σ H M (by omega), fun v H d M hM => hD.rt v H d M (by omega), ?_⟩
  rintro ρ' σ' H' M e cls dd hM ⟨b, hb2, hy, hn⟩ hr r'
  subst hc
  refine ⟨e.cls, b, hr.1, hb2, fun eb a na => ?_, fun eb => hD.xx ρ' σ' H' M e cls dd (by omega) (hn eb) hr r'⟩
  have r2 := (r'.new (o := exO a cls dd) na).addK (rp_exc r' hr na)
  have q00 := rp_exc (e := e) r' hr na
  have q0 : Rp (c.addK (.ref a) (.exc e.cls e.ix)).g.K (upd H' a (exO a cls dd)) (Bs (c.addK (.ref a) (.exc e.cls e.ix)) ρ' σ') (.ref a) (.exc e.cls e.ix) := q00
  refine hs a (c.addK (.ref a) (.exc e.cls e.ix)) rfl hot_addK M _ _ _ (r2.setD q0) (by omega) _ (hy eb) _ ⟨?_, ?_, ?_, ?_, ?_⟩
  · exact fun ρ2 σ2 H2 M2 hM2 h r2 => hD.nx _ _ _ M2 (by omega) h r2.dropK.1.setN
  · exact fun ρ2 σ2 H2 M2 hM2 h r2 => hD.bk _ _ _ M2 (by omega) h r2.dropK.1.setN
  · exact fun ρ2 σ2 H2 M2 hM2 h r2 => hD.ct _ _ _ M2 (by omega) h r2.dropK.1.setN
  · exact fun v2 H2 d2 M2 hM2 h r2 => hD.rt v2 H2 d2 M2 (by omega) h r2
  · exact fun _ _ _ _ _ _ _ _ z => z.elim
/-! the classes -/
def subE (n m : Str) : Bool := n == m || m == "SliderError"
def kitN (ns : List Str) (n m : Str) : Option Bool := if ns.contains n && ns.contains m then some (subE n m) else none
theorem kitN_in {ns : List Str} {n m : Str} {b : Bool} (h : kitN ns n m = some b) : n ∈ ns ∧ m ∈ ns ∧ b = subE n m := by
  unfold kitN at h
  split at h
  · rename_i e
    simp only [Bool.and_eq_true, List.contains_iff_mem] at e
    exact ⟨e.1, e.2, (Option.some.inj h).symm⟩
  · cases h
theorem adE_of {K : PySem.W.Frag} {n : Str} {a : Addr} (h : PySem.W.nsIn K mainGlobals n = some (some (.ref a))) : adE K n = a := by
  unfold adE exV
  rw [h]
/-- what is known of the classes that a law reaches -/
structure ClsX (K : PySem.W.Frag) (ns : List Str) : Prop where
  kit : KitX K (kitN ns)
  exm : ∀ n m b, kitN ns n m = some b → PySem.W.exmOne K (exV K n) (.ref (adE K m)) = some b
  ve : ∀ n, ns.contains n = true → exV K n = .ref (adE K n) ∧ ExcC K (adE K n) ∧ PySem.W.kitOne K (.ref (adE K n)) (.type "ValueError") = some true
def excB (K : PySem.W.Frag) (D : Addr) : Bool := decide (PySem.W.findIn K (.ref D) "__getattribute__" = some (some (.builtin "BaseException.__getattribute__"))) && (decide (PySem.W.findIn K (.ref D) "__getattr__" = some none) && (decide (PySem.W.subIn K (.ref D) (.type "BaseException") = some true) && (PySem.W.hasDictIn K D &&
  (decide (PySem.W.findIn K (.ref D) "__class__" = some (some (.builtin "object.__class__"))) && (decide (PySem.W.specialIn K (.builtin "object.__class__") "__get__" = some (some (.builtin "getset_descriptor.__get__"))) && (decide (PySem.W.takesIn K (.builtin "object.__class__") = some true) && decide (PySem.W.mroIn K D (.type "object") = some true)))))))
theorem excB_ok {K : PySem.W.Frag} {D : Addr} (h : excB K D = true) : ExcC K D := by
  unfold excB at h
  simp only [Bool.and_eq_true, decide_eq_true_eq] at h
  obtain ⟨h1, h2, h3, h4, h5, h6, h7, h8⟩ := h
  exact ⟨h1, h2, h3, h4, h5, h6, h7, h8⟩
def clsB (K : PySem.W.Frag) (ns : List Str) : Bool := ns.all fun n => decide (exV K n = .ref (adE K n)) && (decide (PySem.W.kitOne K (.ref (adE K n)) (.type "ValueError") = some true) && excB K (adE K n) && ns.all fun m => decide (PySem.W.kitOne K (.ref (adE K n)) (.ref (adE K m)) = some (subE n m)) && decide (PySem.W.exmOne K (.ref (adE K n)) (.ref (adE K m)) = some (subE n m)))
theorem clsX_of {K : PySem.W.Frag} {ns : List Str} (h : clsB K ns = true) : ClsX K ns := by
  have all : ∀ n, n ∈ ns → exV K n = .ref (adE K n) ∧ ExcC K (adE K n) ∧ PySem.W.kitOne K (.ref (adE K n)) (.type "ValueError") = some true ∧ ∀ m, m ∈ ns → PySem.W.kitOne K (.ref (adE K n)) (.ref (adE K m)) = some (subE n m) ∧ PySem.W.exmOne K (.ref (adE K n)) (.ref (adE K m)) = some (subE n m) := fun n hn => by
    have := List.all_eq_true.mp h n hn
    simp only [Bool.and_eq_true, decide_eq_true_eq] at this
    obtain ⟨t1, ⟨t2, t3⟩, t4⟩ := this
    refine ⟨t1, excB_ok t3, t2, fun m hm => ?_⟩
    have q := List.all_eq_true.mp t4 m hm
    simp only [Bool.and_eq_true, decide_eq_true_eq] at q
    exact q
  refine ⟨⟨fun n m b e => ?_⟩, fun n m b e => ?_, fun n e => ?_⟩
  · obtain ⟨hn, hm, rfl⟩ := kitN_in e
    obtain ⟨q1, q2, _, q3⟩ := all n hn
    exact ⟨q1, (all m hm).1, q2, by rw [q1, (all m hm).1]; exact (q3 m hm).1⟩
  · obtain ⟨hn, hm, rfl⟩ := kitN_in e
    obtain ⟨q1, q2, _, q3⟩ := all n hn
    rw [q1]; exact (q3 m hm).2
  · obtain ⟨q1, q2, q4, _⟩ := all n (List.contains_iff_mem.mp e)
    exact ⟨q1, q2, q4⟩
def mkB (K : PySem.W.Frag) (n : Str) : Bool := decide (exV K n = .ref (adE K n)) && (PySem.W.excIn K (adE K n) [.type "ValueError", .type "Exception", .type "BaseException", .type "object"] "ValueError.__new__" && (PySem.W.keepIn K (.ref (adE K n)) && (decide (PySem.W.subIn K (.ref (adE K n)) (.type "BaseException") = some true) && decide (PySem.W.typeIn K (.ref (adE K n)) = some (.type "type")))))
theorem mkX_of {K : PySem.W.Frag} {n : Str} (h : mkB K n = true) : MkX K n := by
  unfold mkB at h
  simp only [Bool.and_eq_true, decide_eq_true_eq] at h
  obtain ⟨h1, h2, h3, h4, h5⟩ := h
  exact ⟨h1, h2, h3, h4, h5⟩
/-! words -/
theorem sx_cls : SX g W .f 0 (tC (.ref (adE g.K n))) (pC (.cls n)) := fun c hc N σ H ρ r hk po xx hp hx Q q => by
  subst hc
  exact q _ H _ N (by omega) hp r Ext.refl (.inl ⟨rfl, .cls n⟩)
def pIsX (ns : List Str) : PB := fun us k => match us with
  | [.exc n _, .cls m] => ∃ b, kitN ns n m = some b ∧ k (.bl b)
  | _ => False
theorem oa_isX {K : PySem.W.Frag} {ns : List Str} : OpA K (rIsX K (kitN ns)) (pIsX ns) := fun H B xs ds h po Q hp q => by
  match ds, hp, h with
  | [.exc n ix, .cls m], ⟨b, hb, hp⟩, h =>
    obtain ⟨x, y, rfl, hx, hy⟩ := pd2 h
    cases hy
    cases hx with
    | exc0 h1 _ => exact ⟨_, none, n, m, b, rfl, h1, .inl rfl, hb, q _ _ hp (.bl b)⟩
    | exc1 h1 _ h2 _ => exact ⟨_, _, n, m, b, rfl, h1, .inr ⟨_, _, rfl, h2⟩, hb, q _ _ hp (.bl b)⟩
/-- several classes -/
def clsL : List D → Option (List Str)
  | [] => some []
  | .cls m :: ds => (clsL ds).map (m :: ·)
  | _ => none
theorem clsL_of {K : PySem.W.Frag} {H : Hp} {B : AS} : ∀ {ds : List D} {ms : List Str} {xs : List V}, clsL ds = some ms → RpA K H B xs ds → xs = ms.map fun m => .ref (adE K m)
  | [], _, _, h, r => by cases h; cases r; rfl
  | d :: ds, ms, _, h, r => by
    cases r with
    | cons r1 r2 =>
      cases d with
      | cls m =>
        cases e : clsL ds with
        | none => simp [clsL, e] at h
        | some ms' =>
          simp [clsL, e] at h
          subst h
          cases r1
          rw [List.map_cons, ← clsL_of e r2]
      | _ => simp [clsL] at h
def pIsXT (ns : List Str) : PB := fun us k => match us with
  | [.exc n _, .tup cs] => ∃ ms b, clsL cs = some ms ∧ ms ≠ [] ∧ kitS (kitN ns) n ms = some b ∧ k (.bl b)
  | _ => False
theorem oa_isXT {K : PySem.W.Frag} {ns : List Str} : OpA K (rIsXT K (kitN ns)) (pIsXT ns) := fun H B xs ds h po Q hp q => by
  match ds, hp, h with
  | [.exc n ix, .tup cs], ⟨ms, b, hc, hne, hb, hp⟩, h =>
    obtain ⟨x, y, rfl, hx, hy⟩ := pd2 h
    cases hy with
    | tup g1 g2 =>
      have e := clsL_of hc g2
      cases hx with
      | exc0 h1 _ => exact ⟨_, _, none, n, ms, b, rfl, by rw [← e]; exact g1.1, h1, .inl rfl, hne, hb, q _ _ hp (.bl b)⟩
      | exc1 h1 _ h2 _ => exact ⟨_, _, _, n, ms, b, rfl, by rw [← e]; exact g1.1, h1, .inr ⟨_, _, rfl, h2⟩, hne, hb, q _ _ hp (.bl b)⟩
def pIsXV (ns : List Str) : PB := fun us k => match us with
  | [.exc n _, .ty t] => t = "ValueError" ∧ ns.contains n = true ∧ k (.bl true)
  | _ => False
theorem oa_isXV {K : PySem.W.Frag} {ns : List Str} : OpA K (rIsXV K (fun n => ns.contains n) "ValueError") (pIsXV ns) := fun H B xs ds h po Q hp q => by
  match ds, hp, h with
  | [.exc n ix, .ty t], ⟨ht, hb, hp⟩, h =>
    subst ht
    obtain ⟨x, y, rfl, hx, hy⟩ := pd2 h
    cases hy
    cases hx with
    | exc0 h1 _ => exact ⟨_, none, n, rfl, h1, .inl rfl, hb, q _ _ hp (.bl true)⟩
    | exc1 h1 _ h2 _ => exact ⟨_, _, n, rfl, h1, .inr ⟨_, _, rfl, h2⟩, hb, q _ _ hp (.bl true)⟩
/-! lists of bools: count, index -/
def blL : List D → Option (List Bool)
  | [] => some []
  | .bl b :: ds => (blL ds).map (b :: ·)
  | _ => none
theorem blL_of {K : PySem.W.Frag} {H : Hp} {B : AS} : ∀ {ds : List D} {bs : List Bool} {xs : List V}, blL ds = some bs → RpA K H B xs ds → xs = bs.map V.bl
  | [], _, _, h, r => by cases h; cases r; rfl
  | d :: ds, bs, _, h, r => by
    cases r with
    | cons r1 r2 =>
      cases d with
      | bl m =>
        cases e : blL ds with
        | none => simp [blL, e] at h
        | some bs' =>
          simp [blL, e] at h
          subst h
          cases r1
          rw [List.map_cons, ← blL_of e r2]
      | _ => simp [blL] at h
theorem bl_flat : ∀ {bs : List Bool}, (bs.map V.bl).all flatV = true
  | [] => rfl
  | b :: bs => by rw [List.map_cons, List.all_cons, bl_flat]; rfl
theorem bl_cnt {b : Bool} : ∀ {bs : List Bool}, (bs.map V.bl).countP (fun z => eqV z (.bl b)) = bs.count b
  | [] => rfl
  | a :: bs => by
    rw [List.map_cons, List.countP_cons, bl_cnt, List.count_cons]
    rfl
def pCntB (pa pb : PX) : PX := fun ρ po xx => pa ρ (fun d => ∃ ds bs, d = .lst ds ∧ blL ds = some bs ∧ pb ρ (fun e => ∃ b, e = .bl b ∧ po (.int (bs.count b : Nat))) xx) xx
def pIdxB (pa pb : PX) : PX := fun ρ po xx => pa ρ (fun d => ∃ ds bs, d = .lst ds ∧ blL ds = some bs ∧ pb ρ (fun e => ∃ (b : Bool) (j : Nat), e = .bl b ∧ bs[j]? = some b ∧ (∀ m, m < j → bs[m]? ≠ some b) ∧ po (.int j)) xx) xx
theorem sx_cntB {tb : TE} {pb : PX} (ha : SX g W .t k1 ta pa) (hb : SX g W .t k2 tb pb) : SX g W .f (k1 + k2) (tBM g.K "list" (rCntF g.K) ta (tCons tb tNil)) (pCntB pa pb) := fun c hc N σ H ρ r hk po xx hp hx Q q =>
  ha c hc N σ H ρ r (by omega) _ _ hp (hx.sub (by omega)) _ fun v H1 d M1 hM1 hd r1 e1 hv => by
    obtain ⟨ds, bs, rfl, hb1, hd⟩ := hd
    subst hc
    cases (show Rp c.g.K H1 (Sa ρ σ) v (.lst ds) from hv) with
    | lst h1 h2 =>
      refine ⟨tyV_l h1.1, hb c rfl M1 σ H1 ρ r1 (by omega) _ _ hd (hx.sub (by omega)) _ fun w H2 e M2 hM2 he r2 e2 hw => ?_⟩
      obtain ⟨b, rfl, he⟩ := he
      have hw := (show Rp c.g.K H2 (Sa ρ σ) w (.bl b) from hw)
      cases hw
      have e3 := blL_of hb1 h2
      subst e3
      exact ⟨_, _, _, rfl, rfl, .inl (.inl (e2 _ _ h1.1 h1.2)), rfl, bl_flat, by rw [bl_cnt]; exact q _ H2 _ M2 (by omega) he r2 (e1.trans e2) (.inl ⟨rfl, .int _⟩)⟩
theorem bl_get {bs : List Bool} {m : Nat} {z : V} (h : (bs.map V.bl)[m]? = some z) : ∃ a, bs[m]? = some a ∧ z = .bl a := by
  rw [List.getElem?_map] at h
  cases e : bs[m]? with
  | none => rw [e] at h; cases h
  | some a => rw [e] at h; cases h; exact ⟨a, rfl, rfl⟩
theorem sx_idxB {tb : TE} {pb : PX} (ha : SX g W .t k1 ta pa) (hb : SX g W .t k2 tb pb) : SX g W .f (k1 + k2) (tBM g.K "list" (rIndex g.K) ta (tCons tb tNil)) (pIdxB pa pb) := fun c hc N σ H ρ r hk po xx hp hx Q q =>
  ha c hc N σ H ρ r (by omega) _ _ hp (hx.sub (by omega)) _ fun v H1 d M1 hM1 hd r1 e1 hv => by
    obtain ⟨ds, bs, rfl, hb1, hd⟩ := hd
    subst hc
    cases (show Rp c.g.K H1 (Sa ρ σ) v (.lst ds) from hv) with
    | lst h1 h2 =>
      refine ⟨tyV_l h1.1, hb c rfl M1 σ H1 ρ r1 (by omega) _ _ hd (hx.sub (by omega)) _ fun w H2 e M2 hM2 he r2 e2 hw => ?_⟩
      obtain ⟨b, j, rfl, g1, g2, he⟩ := he
      have hw := (show Rp c.g.K H2 (Sa ρ σ) w (.bl b) from hw)
      cases hw
      have e3 := blL_of hb1 h2
      subst e3
      refine ⟨_, _, .bl b, j, .bl b, rfl, rfl, .inl (.inl (e2 _ _ h1.1 h1.2)), rfl, bl_flat, by rw [List.getElem?_map, g1]; rfl, beq_self_eq_true b, fun m z hm hz => ?_, q _ H2 _ M2 (by omega) he r2 (e1.trans e2) (.inl ⟨rfl, .int _⟩)⟩
      obtain ⟨a, h3, rfl⟩ := bl_get hz
      show (a == b) = false
      exact beq_eq_false_iff_ne.mpr fun z => g2 m hm (by rw [h3, z])
def pIdx (ok : Str → Bool) (pa : PX) : PX := fun ρ po xx => pa ρ (fun d => match d with
  | .exc n (some j) => ok n = true ∧ po (.int j)
  | _ => False) xx
theorem sx_idx {ok : Str → Bool} (ha : SX g W .t k ta pa) : SX g W .f k (tIdx g.K ok "index" ta) (pIdx ok pa) := fun c hc N σ H ρ r hk po xx hp hx Q q =>
  ha c hc N σ H ρ r hk _ _ hp hx _ fun v H1 d M1 hM1 hd r1 e1 hv => by
    subst hc
    match d, hd, hv with
    | .exc n (some j), ⟨h1, h2⟩, hv =>
      cases (show Rp c.g.K H1 (Sa ρ σ) v (.exc n (some j)) from hv) with
      | exc1 e2 _ e3 _ => exact ⟨_, _, n, _, .int j, rfl, h1, e2, e3, rfl, q _ H1 _ M1 hM1 h2 r1 e1 (.inl ⟨rfl, .int j⟩)⟩
end
/-! defs that let nothing out -/
def Gof0 (p : PS') (hasS : Bool) (m : Nat) : GD := fun ds po _ => p (topK po fun _ => False) (env0 hasS ds m)
theorem rd_def0 {g : Gx} {mr : Md} {k n m : Nat} {hasS : Bool} {t : TS} {p : PS'} {vs : List V} {H : Hp} {Q : VK} {E : XK} {Nx : List Str} (hs : SS g W0 mr k t p) (hm : mr = .e ∨ mr = .f) (hN : Nx.length = n + (if hasS then 1 else 0) + m) (h : spD g n hasS mr k (Gof0 p hasS m) vs H Q E) : t (fin Q) (L2.start Nx vs) H := by
  obtain ⟨S, us, ds, F, N, po, xx, rfl, rfl, rfl, hu, hF, hS, hk, hG, hQ, hE⟩ := h
  have r := rep_start (m := m) (Nx := Nx) hu hF hS hN
  refine hs _ rfl N _ H _ r hk _ hG _ ⟨?_, ?_, ?_, ?_, ?_⟩
  · intro ρ σ H' M hM hp r'
    exact hQ .non H' .non M hM hp (ro_non r' hm)
  · intro ρ σ H' M hM hp r'; exact hp.elim
  · intro ρ σ H' M hM hp r'; exact hp.elim
  · intro v H' d M hM hp ro; exact hQ v H' d M hM hp ro
  · intro ρ σ H' M e cls dd hM hp; exact hp.elim
end PD

namespace SL
/-! ### the mathematics: greatest common divisors of lists, rows, moves -/
def gcdL (ns : List Int) : Int := ns.foldl (fun g x => ((Int.gcd g x : Nat) : Int)) 0
theorem gcd_foldl_dvd : ∀ (ns : List Int) (g : Int), (ns.foldl (fun g x => ((Int.gcd g x : Nat) : Int)) g) ∣ g ∧ ∀ x ∈ ns, (ns.foldl (fun g x => ((Int.gcd g x : Nat) : Int)) g) ∣ x
  | [], g => ⟨Int.dvd_refl g, fun _ h => by cases h⟩
  | y :: r, g => by
    have ih := gcd_foldl_dvd r ((Int.gcd g y : Nat) : Int)
    refine ⟨Int.dvd_trans ih.1 (Int.gcd_dvd_left g y), fun x hx => ?_⟩
    rcases List.mem_cons.mp hx with e | e
    · subst e
      exact Int.dvd_trans ih.1 (Int.gcd_dvd_right g x)
    · exact ih.2 x e
theorem gcd_foldl_greatest : ∀ (ns : List Int) (g d : Int), d ∣ g → (∀ x ∈ ns, d ∣ x) → d ∣ (ns.foldl (fun g x => ((Int.gcd g x : Nat) : Int)) g)
  | [], g, d, h, _ => h
  | y :: r, g, d, h, hx => gcd_foldl_greatest r _ d (Int.dvd_coe_gcd h (hx y (List.mem_cons_self ..))) fun x hm => hx x (List.mem_cons_of_mem _ hm)
theorem gcd_foldl_nn : ∀ (ns : List Int) (g : Int), 0 ≤ g → 0 ≤ (ns.foldl (fun g x => ((Int.gcd g x : Nat) : Int)) g)
  | [], g, h => h
  | y :: r, g, h => gcd_foldl_nn r _ (Int.natCast_nonneg _)
theorem gcdL_dvd {ns : List Int} {x : Int} (h : x ∈ ns) : gcdL ns ∣ x := (gcd_foldl_dvd ns 0).2 x h
theorem gcdL_greatest {ns : List Int} {d : Int} (h : ∀ x ∈ ns, d ∣ x) : d ∣ gcdL ns := gcd_foldl_greatest ns 0 d (Int.dvd_zero d) h
theorem gcdL_nn (ns : List Int) : 0 ≤ gcdL ns := gcd_foldl_nn ns 0 (Int.le_refl 0)
theorem gcdL_pos {ns : List Int} {x : Int} (h : x ∈ ns) (hx : x ≠ 0) : 0 < gcdL ns := by
  have h1 := gcdL_nn ns
  have h2 := gcdL_dvd h
  rcases Int.lt_or_eq_of_le h1 with h3 | h3
  · exact h3
  · rw [← h3] at h2
    exact absurd (Int.zero_dvd.mp h2) hx
theorem gcdL_le {ns : List Int} {x : Int} (h : x ∈ ns) (hx : 0 < x) : gcdL ns ≤ x := Int.le_of_dvd hx (gcdL_dvd h)
theorem dvd_antisymm' {a b : Int} (ha : 0 ≤ a) (hb : 0 ≤ b) (h1 : a ∣ b) (h2 : b ∣ a) : a = b := Int.dvd_antisymm ha hb h1 h2
/-- divided by the greatest common divisor -/
def red (ns : List Int) : List Int := ns.map fun x => x / gcdL ns
theorem red_len (ns : List Int) : (red ns).length = ns.length := by unfold red; rw [List.length_map]
theorem red_mul {ns : List Int} {x : Int} (h : x ∈ ns) : x / gcdL ns * gcdL ns = x := Int.ediv_mul_cancel (gcdL_dvd h)
theorem div_one' (x : Int) : x / 1 = x := Int.ediv_one x
theorem red_self {ns : List Int} (h : gcdL ns = 1) : red ns = ns := by
  unfold red
  rw [h]
  simp
theorem gcdL_smul {ns : List Int} {k : Int} (hk : 0 < k) : gcdL (ns.map fun x => k * x) = k * gcdL ns := by
  refine dvd_antisymm' (gcdL_nn _) (Int.mul_nonneg (by omega) (gcdL_nn _)) ?_ ?_
  · obtain ⟨c, hc⟩ : k ∣ gcdL (ns.map fun x => k * x) := gcdL_greatest fun x hx => by
      obtain ⟨y, _, rfl⟩ := List.mem_map.mp hx
      exact Int.dvd_mul_right k y
    rw [hc]
    refine Int.mul_dvd_mul_left k (gcdL_greatest fun y hy => ?_)
    have := gcdL_dvd (ns := ns.map fun x => k * x) (List.mem_map.mpr ⟨y, hy, rfl⟩)
    rw [hc] at this
    exact Int.dvd_of_mul_dvd_mul_left (by omega) this
  · refine gcdL_greatest fun x hx => ?_
    obtain ⟨y, hy, rfl⟩ := List.mem_map.mp hx
    exact Int.mul_dvd_mul_left k (gcdL_dvd hy)
theorem red_smul {ns : List Int} {k : Int} (hk : 0 < k) : red (ns.map fun x => k * x) = red ns := by
  unfold red
  rw [gcdL_smul hk, List.map_map]
  refine List.map_congr_left fun x _ => ?_
  show k * x / (k * gcdL ns) = x / gcdL ns
  exact Int.mul_ediv_mul_of_pos _ _ hk
theorem gcdL_red {ns : List Int} (h : 0 < gcdL ns) : gcdL (red ns) = 1 := by
  have e : (red ns).map (fun x => gcdL ns * x) = ns := by
    unfold red
    rw [List.map_map]
    conv => rhs; rw [← List.map_id ns]
    refine List.map_congr_left fun x hx => ?_
    show gcdL ns * (x / gcdL ns) = x
    rw [Int.mul_comm]
    exact red_mul hx
  have h2 := gcdL_smul (ns := red ns) h
  rw [e] at h2
  have : gcdL ns * gcdL (red ns) = gcdL ns * 1 := by rw [Int.mul_one]; exact h2.symm
  exact Int.eq_of_mul_eq_mul_left (by omega) this
theorem red_pos {ns : List Int} (h : ∀ x ∈ ns, 1 ≤ x) : ∀ x ∈ red ns, 1 ≤ x := by
  intro x hx
  obtain ⟨y, hy, rfl⟩ := List.mem_map.mp hx
  have h1 := h y hy
  have h2 := gcdL_le hy (by omega)
  have h3 := gcdL_pos hy (by omega)
  exact (Int.le_ediv_iff_mul_le h3).mpr (by omega)
theorem red_get {ns : List Int} {i : Nat} {x : Int} (h : ns[i]? = some x) : (red ns)[i]? = some (x / gcdL ns) := by
  unfold red
  rw [List.getElem?_map, h]
  rfl
/-- two lists that are proportional have the same reduced list -/
theorem red_prop {ns ms : List Int} {a b : Int} (ha : 0 < a) (hb : 0 < b) (h : ns.map (fun x => a * x) = ms.map (fun x => b * x)) : red ns = red ms := by
  rw [← red_smul (ns := ns) ha, h, red_smul hb]
/-! ### rows -/
structure IsRow (ns : List Int) : Prop where
  lo : 2 ≤ ns.length
  hi : ns.length ≤ 8
  pos : ∀ x ∈ ns, 1 ≤ x
  one : gcdL ns = 1
theorem isRow_red {ns : List Int} (h1 : 2 ≤ ns.length) (h2 : ns.length ≤ 8) (h3 : ∀ x ∈ ns, 1 ≤ x) : IsRow (red ns) := by
  refine ⟨by rw [red_len]; exact h1, by rw [red_len]; exact h2, red_pos h3, ?_⟩
  cases ns with
  | nil => exact absurd h1 (by simp)
  | cons x r =>
    have := h3 x (List.mem_cons_self ..)
    exact gcdL_red (gcdL_pos (List.mem_cons_self ..) (by omega))
theorem sum_pos_of : ∀ {ns : List Int}, (∀ x ∈ ns, 1 ≤ x) → (ns.length : Int) ≤ ns.sum
  | [], _ => by simp
  | x :: r, h => by
    have h1 := h x (List.mem_cons_self ..)
    have h2 := sum_pos_of (ns := r) fun y hy => h y (List.mem_cons_of_mem _ hy)
    rw [List.sum_cons, List.length_cons]
    omega
theorem mem_le_sum : ∀ {ns : List Int} {i : Nat} {x : Int}, (∀ x ∈ ns, 1 ≤ x) → ns[i]? = some x → x + ((ns.length : Int) - 1) ≤ ns.sum
  | [], i, x, _, h => by simp at h
  | y :: r, 0, x, hp, h => by
    have e : y = x := by simpa using h
    subst e
    have h2 := sum_pos_of (ns := r) fun z hz => hp z (List.mem_cons_of_mem _ hz)
    rw [List.sum_cons, List.length_cons]
    omega
  | y :: r, i + 1, x, hp, h => by
    have h1 := hp y (List.mem_cons_self ..)
    have h2 := mem_le_sum (ns := r) (i := i) (x := x) (fun z hz => hp z (List.mem_cons_of_mem _ hz)) (by simpa using h)
    rw [List.sum_cons, List.length_cons]
    omega
/-! ### moves -/
def wAfter (ns : List Int) (s : Nat) (t b : Int) : List Int := (ns.map fun x => x * (b - t)).set s (t * (ns.sum - ns.getD s 0))
def mv (ns : List Int) (s : Nat) (t b : Int) : List Int := red (wAfter ns s t b)
theorem wAfter_len (ns : List Int) (s : Nat) (t b : Int) : (wAfter ns s t b).length = ns.length := by unfold wAfter; rw [List.length_set, List.length_map]
theorem wAfter_at {ns : List Int} {s : Nat} {t b : Int} (h : s < ns.length) : (wAfter ns s t b)[s]? = some (t * (ns.sum - ns.getD s 0)) := by
  unfold wAfter
  rw [List.getElem?_set_self (by rw [List.length_map]; exact h)]
theorem wAfter_ne {ns : List Int} {s i : Nat} {t b x : Int} (h : i ≠ s) (hx : ns[i]? = some x) : (wAfter ns s t b)[i]? = some (x * (b - t)) := by
  unfold wAfter
  rw [List.getElem?_set_ne (Ne.symm h), List.getElem?_map, hx]
  rfl
theorem wAfter_pos {ns : List Int} {s : Nat} {t b : Int} (hp : ∀ x ∈ ns, 1 ≤ x) (h2 : 2 ≤ ns.length) (hs : s < ns.length) (h1 : 1 ≤ t) (htb : t < b) : ∀ x ∈ wAfter ns s t b, 1 ≤ x := by
  intro x hx
  obtain ⟨i, hi, e⟩ := List.getElem_of_mem hx
  have e' : (wAfter ns s t b)[i]? = some x := by rw [List.getElem?_eq_getElem hi, e]
  have hi' : i < ns.length := by rw [← wAfter_len ns s t b]; exact hi
  by_cases c : i = s
  · subst c
    rw [wAfter_at hs] at e'
    have e2 := Option.some.inj e'
    have hg : ns[i]? = some (ns.getD i 0) := by rw [List.getD_eq_getElem?_getD, List.getElem?_eq_getElem hi']; rfl
    have := mem_le_sum hp hg
    have h3 : 1 ≤ ns.sum - ns.getD i 0 := by omega
    have := Int.mul_le_mul h1 h3 (by omega) (by omega)
    omega
  · rw [wAfter_ne c (List.getElem?_eq_getElem hi')] at e'
    have e2 := Option.some.inj e'
    have h3 := hp ns[i] (List.getElem_mem hi')
    have h4 : 1 ≤ b - t := by omega
    have := Int.mul_le_mul h3 h4 (by omega) (by omega)
    omega
theorem isRow_mv {ns : List Int} {s : Nat} {t b : Int} (h : IsRow ns) (hs : s < ns.length) (h1 : 1 ≤ t) (htb : t < b) : IsRow (mv ns s t b) :=
  isRow_red (by rw [wAfter_len]; exact h.lo) (by rw [wAfter_len]; exact h.hi) (wAfter_pos h.pos h.lo hs h1 htb)
theorem sum_map_mul (c : Int) : ∀ ns : List Int, (ns.map fun x => x * c).sum = ns.sum * c
  | [] => by simp
  | x :: r => by
    rw [List.map_cons, List.sum_cons, List.sum_cons, sum_map_mul c r, Int.add_mul]
theorem sum_set' : ∀ {l : List Int} {j : Nat} {z y : Int}, l[j]? = some z → (l.set j y).sum = l.sum - z + y
  | [], j, z, y, h => by simp at h
  | a :: r, 0, z, y, h => by
    have e : a = z := Option.some.inj h
    subst e
    show (y :: r).sum = (a :: r).sum - a + y
    rw [List.sum_cons, List.sum_cons]
    omega
  | a :: r, j + 1, z, y, h => by
    have ih := sum_set' (l := r) (j := j) (z := z) (y := y) h
    show (a :: r.set j y).sum = (a :: r).sum - z + y
    rw [List.sum_cons, List.sum_cons, ih]
    omega
theorem getD_some {ns : List Int} {s : Nat} (hs : s < ns.length) : ns[s]? = some (ns.getD s 0) := by
  rw [List.getD_eq_getElem?_getD, List.getElem?_eq_getElem hs]
  rfl
theorem wAfter_sum {ns : List Int} {s : Nat} {t b : Int} (hs : s < ns.length) : (wAfter ns s t b).sum = b * (ns.sum - ns.getD s 0) := by
  unfold wAfter
  rw [sum_set' (z := ns.getD s 0 * (b - t)) (by rw [List.getElem?_map, getD_some hs]; rfl), sum_map_mul]
  generalize ns.sum = S
  generalize ns.getD s 0 = x
  grind
/-- red is exact: each item times the common divisor is the item of before; the sums too -/
theorem red_sum (ns : List Int) : (red ns).sum * gcdL ns = ns.sum := by
  unfold red
  rw [← sum_map_mul, List.map_map]
  congr 1
  conv => rhs; rw [← List.map_id ns]
  exact List.map_congr_left fun x hx => red_mul hx
theorem mv_share {ns : List Int} {s : Nat} {t b : Int} (h : IsRow ns) (hs : s < ns.length) (h1 : 1 ≤ t) (htb : t < b) : (mv ns s t b).getD s 0 * b = t * (mv ns s t b).sum := by
  have hw : (wAfter ns s t b)[s]? = some (t * (ns.sum - ns.getD s 0)) := wAfter_at hs
  have hm := List.mem_of_getElem? hw
  have hpos := wAfter_pos h.pos h.lo hs h1 htb _ hm
  have g0 := gcdL_pos hm (by omega)
  have e1 : (mv ns s t b).getD s 0 * gcdL (wAfter ns s t b) = t * (ns.sum - ns.getD s 0) := by
    rw [List.getD_eq_getElem?_getD]
    unfold mv
    rw [red_get hw]
    exact red_mul hm
  have e2 : (mv ns s t b).sum * gcdL (wAfter ns s t b) = b * (ns.sum - ns.getD s 0) := by
    unfold mv
    rw [red_sum, wAfter_sum hs]
  generalize (mv ns s t b).getD s 0 = u at *
  generalize (mv ns s t b).sum = v at *
  generalize gcdL (wAfter ns s t b) = g at *
  generalize ns.sum - ns.getD s 0 = r at *
  have : (u * b) * g = (t * v) * g := by grind
  exact Int.eq_of_mul_eq_mul_right (by omega) this
theorem mv_get {ns : List Int} {s i : Nat} {t b x : Int} (hi : i ≠ s) (hx : ns[i]? = some x) : ∃ y, (mv ns s t b)[i]? = some y ∧ y * gcdL (wAfter ns s t b) = x * (b - t) := by
  have hw := wAfter_ne (t := t) (b := b) hi hx
  exact ⟨_, red_get hw, red_mul (List.mem_of_getElem? hw)⟩
theorem mv_ratio {ns : List Int} {s i j : Nat} {t b x y : Int} (h : IsRow ns) (hs : s < ns.length) (h1 : 1 ≤ t) (htb : t < b) (hi : i ≠ s) (hj : j ≠ s) (hx : ns[i]? = some x) (hy : ns[j]? = some y) :
    ∃ u v, (mv ns s t b)[i]? = some u ∧ (mv ns s t b)[j]? = some v ∧ u * y = v * x := by
  obtain ⟨u, hu, eu⟩ := mv_get (t := t) (b := b) hi hx
  obtain ⟨v, hv, ev⟩ := mv_get (t := t) (b := b) hj hy
  refine ⟨u, v, hu, hv, ?_⟩
  have hm := List.mem_of_getElem? (wAfter_at (t := t) (b := b) hs)
  have g0 := gcdL_pos hm (by have := wAfter_pos h.pos h.lo hs h1 htb _ hm; omega)
  generalize gcdL (wAfter ns s t b) = g at *
  have : (u * y) * g = (v * x) * g := by grind
  exact Int.eq_of_mul_eq_mul_right (by omega) this
/-- a move to the share that the slider has changes nothing -/
theorem mv_same {ns : List Int} {s : Nat} {t b : Int} (h : IsRow ns) (hs : s < ns.length) (htb : t < b) (e : ns.getD s 0 * b = t * ns.sum) : mv ns s t b = ns := by
  unfold mv
  have : wAfter ns s t b = ns.map fun x => (b - t) * x := by
    apply List.ext_getElem?
    intro i
    by_cases hi : i < ns.length
    · by_cases c : i = s
      · subst c
        rw [wAfter_at hs, List.getElem?_map, getD_some hs]
        show some _ = some _
        congr 1
        generalize ns.getD i 0 = x at *
        generalize ns.sum = S at *
        grind
      · rw [wAfter_ne c (List.getElem?_eq_getElem hi), List.getElem?_map, List.getElem?_eq_getElem hi]
        show some _ = some _
        rw [Int.mul_comm]
    · rw [List.getElem?_eq_none (by rw [wAfter_len]; omega), List.getElem?_eq_none (by rw [List.length_map]; omega)]
  rw [this, red_smul (by omega), red_self h.one]
/-! ### lowest terms -/
theorem gcd_pos_of {a b : Int} (h : 0 < b) : 0 < ((Int.gcd a b : Nat) : Int) := by
  have : Int.gcd a b ≠ 0 := fun z => by
    have := (Int.gcd_eq_zero_iff.mp z).2
    omega
  omega
theorem lowest_eq {a b : Int} : a / ((Int.gcd a b : Nat) : Int) * b = a * (b / ((Int.gcd a b : Nat) : Int)) := by
  obtain ⟨c, hc⟩ := Int.gcd_dvd_left a b
  obtain ⟨d, hd⟩ := Int.gcd_dvd_right a b
  by_cases h : ((Int.gcd a b : Nat) : Int) = 0
  · rw [h, Int.ediv_zero, Int.ediv_zero]; simp
  · have e1 : a / ((Int.gcd a b : Nat) : Int) = c := Int.ediv_eq_of_eq_mul_right h hc
    have e2 : b / ((Int.gcd a b : Nat) : Int) = d := Int.ediv_eq_of_eq_mul_right h hd
    rw [e1, e2]
    generalize ((Int.gcd a b : Nat) : Int) = g at *
    grind
/-- sizes -/
def Sz (k : Nat) (ns : List Int) : Prop := ∀ x ∈ ns, x.natAbs < 2 ^ k
end SL

namespace SL
open PySem PySem.Spec PyProof.Rows L2
abbrev Mv := Nat × Int × Int
/-- a valid move of one of n sliders, its numbers below 2 ^ k -/
structure OkM (n k : Nat) (m : Mv) : Prop where
  s : m.1 < n
  t : 1 ≤ m.2.1
  tb : m.2.1 < m.2.2
  g : Int.gcd m.2.1 m.2.2 = 1
  z : m.2.2.natAbs < 2 ^ k
def areW (ns : List Int) : Bool := decide (2 ≤ ns.length ∧ ns.length ≤ 8) && ns.all fun x => decide (1 ≤ x)
def isRowB (ns : List Int) : Bool := areW ns && decide (gcdL ns = 1)
theorem isRowB_of {ns : List Int} (h : IsRow ns) : isRowB ns = true := by
  unfold isRowB areW
  rw [decide_eq_true ⟨h.lo, h.hi⟩, decide_eq_true h.one]
  simp only [Bool.true_and, Bool.and_true, List.all_eq_true, decide_eq_true_eq]
  exact h.pos
def mvM (r : List Int) (m : Mv) : List Int := mv r m.1 m.2.1 m.2.2
def mvs (r : List Int) (ms : List Mv) : List Int := ms.foldl mvM r
/-! sizes -/
theorem two_pow_le {a b : Nat} (h : a ≤ b) : (2 : Nat) ^ a ≤ 2 ^ b := Nat.pow_le_pow_right (by decide) h
theorem Sz.mono {j k : Nat} {ns : List Int} (h : Sz j ns) (e : j ≤ k) : Sz k ns := fun x hx => Nat.lt_of_lt_of_le (h x hx) (two_pow_le e)
theorem add_lt_pow {x y : Int} {a : Nat} (hx : x.natAbs < 2 ^ a) (hy : y.natAbs < 2 ^ a) : (x + y).natAbs < 2 ^ (a + 1) := by
  rw [Nat.pow_succ]
  omega
theorem sub_lt_pow {x y : Int} {a : Nat} (hx : x.natAbs < 2 ^ a) (hy : y.natAbs < 2 ^ a) : (x - y).natAbs < 2 ^ (a + 1) := by
  rw [Nat.pow_succ]
  omega
theorem sum_lt {k : Nat} : ∀ {ns : List Int}, Sz k ns → ns.sum.natAbs ≤ ns.length * 2 ^ k
  | [], _ => by simp
  | x :: r, h => by
    have h1 := h x (List.mem_cons_self ..)
    have h2 := sum_lt (ns := r) fun y hy => h y (List.mem_cons_of_mem _ hy)
    rw [List.sum_cons, List.length_cons, Nat.add_mul, Nat.one_mul]
    omega
theorem sum_lt8 {k : Nat} {ns : List Int} (h : Sz k ns) (h8 : ns.length ≤ 8) : ns.sum.natAbs < 2 ^ (k + 4) := by
  have h1 := sum_lt h
  have h2 : ns.length * 2 ^ k ≤ 8 * 2 ^ k := Nat.mul_le_mul_right _ h8
  have h3 : 0 < 2 ^ k := Nat.pow_pos (by decide)
  rw [Nat.pow_add]
  omega
theorem gcdL_lt {k : Nat} {ns : List Int} (h : Sz k ns) (hp : ∀ x ∈ ns, 1 ≤ x) (h1 : 1 ≤ ns.length) : 0 < gcdL ns ∧ (gcdL ns).natAbs < 2 ^ k := by
  cases ns with
  | nil => exact absurd h1 (by simp)
  | cons x r =>
    have a := hp x (List.mem_cons_self ..)
    have b := h x (List.mem_cons_self ..)
    have c := gcdL_le (ns := x :: r) (List.mem_cons_self ..) (by omega)
    have d := gcdL_pos (ns := x :: r) (List.mem_cons_self ..) (by omega)
    exact ⟨d, by omega⟩
theorem wAfter_sz {k j : Nat} {ns : List Int} {s : Nat} {t b : Int} (h : Sz k ns) (h8 : ns.length ≤ 8) (hs : s < ns.length) (ht : 1 ≤ t) (htb : t < b) (hb : b.natAbs < 2 ^ j) : Sz (k + j + 5) (wAfter ns s t b) := by
  intro x hx
  obtain ⟨i, hi, e⟩ := List.getElem_of_mem hx
  have e' : (wAfter ns s t b)[i]? = some x := by rw [List.getElem?_eq_getElem hi, e]
  have hi' : i < ns.length := by rw [← wAfter_len ns s t b]; exact hi
  by_cases c : i = s
  · subst c
    rw [wAfter_at hs] at e'
    have e2 := Option.some.inj e'
    subst e2
    have h1 : (ns.sum - ns.getD i 0).natAbs < 2 ^ (k + 5) := sub_lt_pow (sum_lt8 h h8) (Nat.lt_of_lt_of_le (h _ (List.mem_of_getElem? (getD_some hs))) (two_pow_le (by omega)))
    have h2 := wide_lt (a := j) (b := k + 5) (show t.natAbs < 2 ^ j by omega) h1
    rw [show k + j + 5 = j + (k + 5) by omega]
    exact h2
  · rw [wAfter_ne c (List.getElem?_eq_getElem hi')] at e'
    have e2 := Option.some.inj e'
    subst e2
    have h2 := wide_lt (a := k) (b := j) (h ns[i] (List.getElem_mem hi')) (show (b - t).natAbs < 2 ^ j by omega)
    exact Nat.lt_of_lt_of_le h2 (two_pow_le (by omega))
theorem red_sz {k : Nat} {ns : List Int} (h : Sz k ns) : Sz k (red ns) := by
  intro x hx
  obtain ⟨y, hy, rfl⟩ := List.mem_map.mp hx
  refine Nat.lt_of_le_of_lt ?_ (h y hy)
  rw [Int.natAbs_ediv_of_dvd (gcdL_dvd hy)]
  exact Nat.div_le_self _ _
theorem mv_sz {k j : Nat} {ns : List Int} {s : Nat} {t b : Int} (h : Sz k ns) (h8 : ns.length ≤ 8) (hs : s < ns.length) (ht : 1 ≤ t) (htb : t < b) (hb : b.natAbs < 2 ^ j) : Sz (k + j + 5) (mv ns s t b) := red_sz (wAfter_sz h h8 hs ht htb hb)
theorem wide_mul' {i j : Int} {a b : Nat} (ha : i.natAbs < 2 ^ a) (hb : j.natAbs < 2 ^ b) (h : a + b ≤ 900000) : CMulW i j :=
  wide_mul (a := a + 1) (b := b + 1) (Nat.lt_of_lt_of_le ha (two_pow_le (by omega))) (Nat.lt_of_lt_of_le hb (two_pow_le (by omega))) (by omega) (by omega) (by omega)
def shT (ns : List Int) (s : Nat) : Int := ns.getD s 0 / ((Int.gcd (ns.getD s 0) ns.sum : Nat) : Int)
def shB (ns : List Int) (s : Nat) : Int := ns.sum / ((Int.gcd (ns.getD s 0) ns.sum : Nat) : Int)
theorem mvs_take {r : List Int} {ms : List Mv} {i : Nat} {m : Mv} (h : ms[i]? = some m) : mvs r (ms.take (i + 1)) = mvM (mvs r (ms.take i)) m := by
  unfold mvs
  rw [List.take_add_one, h, List.foldl_append]
  rfl
theorem mvM_len (r : List Int) (m : Mv) : (mvM r m).length = r.length := by
  unfold mvM mv
  rw [red_len, wAfter_len]
theorem mvs_len : ∀ (ms : List Mv) (r : List Int), (mvs r ms).length = r.length
  | [], r => rfl
  | m :: ms, r => by
    show (mvs (mvM r m) ms).length = r.length
    rw [mvs_len ms, mvM_len]
theorem mvs_row : ∀ {ms : List Mv} {r : List Int} {n j : Nat}, IsRow r → r.length = n → (∀ m ∈ ms, OkM n j m) → IsRow (mvs r ms)
  | [], r, n, j, h, _, _ => h
  | m :: ms, r, n, j, h, hn, ho => by
    have o := ho m (List.mem_cons_self ..)
    refine mvs_row (ms := ms) (r := mvM r m) (n := n) (j := j) (isRow_mv h (by rw [hn]; exact o.s) o.t o.tb) (by rw [mvM_len, hn]) fun x hx => ho x (List.mem_cons_of_mem _ hx)
theorem mvs_sz : ∀ {ms : List Mv} {r : List Int} {n j k : Nat}, IsRow r → r.length = n → (∀ m ∈ ms, OkM n j m) → Sz k r → Sz (k + ms.length * (j + 5)) (mvs r ms)
  | [], r, n, j, k, h, _, _, z => by
    rw [List.length_nil, Nat.zero_mul]
    exact z
  | m :: ms, r, n, j, k, h, hn, ho, z => by
    have o := ho m (List.mem_cons_self ..)
    have h1 := mvs_sz (ms := ms) (r := mvM r m) (n := n) (j := j) (k := k + j + 5) (isRow_mv h (by rw [hn]; exact o.s) o.t o.tb) (by rw [mvM_len, hn]) (fun x hx => ho x (List.mem_cons_of_mem _ hx)) (mv_sz z h.hi (by rw [hn]; exact o.s) o.t o.tb o.z)
    rw [List.length_cons, Nat.add_mul, Nat.one_mul]
    refine h1.mono ?_
    omega
end SL

namespace SL
open PySem PySem.Spec PyProof.Rows L2
/-! ### moves one after the other, without dividing between -/
theorem set_map_mul (c : Int) : ∀ (l : List Int) (i : Nat) (y : Int), (l.set i y).map (fun x => c * x) = (l.map fun x => c * x).set i (c * y)
  | [], i, y => rfl
  | x :: r, 0, y => rfl
  | x :: r, i + 1, y => by
    show c * x :: (r.set i y).map (fun x => c * x) = c * x :: (r.map fun x => c * x).set i (c * y)
    rw [set_map_mul c r i y]
theorem sum_smul (c : Int) : ∀ ns : List Int, (ns.map fun x => c * x).sum = c * ns.sum
  | [] => by simp
  | x :: r => by rw [List.map_cons, List.sum_cons, List.sum_cons, sum_smul c r, Int.mul_add]
theorem getD_smul (c : Int) (ns : List Int) (s : Nat) : (ns.map fun x => c * x).getD s 0 = c * ns.getD s 0 := by
  rw [List.getD_eq_getElem?_getD, List.getD_eq_getElem?_getD, List.getElem?_map]
  cases ns[s]? with
  | none => show (0 : Int) = c * 0; omega
  | some x => rfl
theorem wAfter_smul (c : Int) (ns : List Int) (s : Nat) (t b : Int) : wAfter (ns.map fun x => c * x) s t b = (wAfter ns s t b).map fun x => c * x := by
  unfold wAfter
  rw [set_map_mul, sum_smul, getD_smul, List.map_map, List.map_map]
  congr 1
  · refine List.map_congr_left fun x _ => ?_
    show c * x * (b - t) = c * (x * (b - t))
    rw [Int.mul_assoc]
  · generalize ns.sum = S
    generalize ns.getD s 0 = x
    grind
theorem red_back {ns : List Int} : (red ns).map (fun x => gcdL ns * x) = ns := by
  unfold red
  rw [List.map_map]
  conv => rhs; rw [← List.map_id ns]
  refine List.map_congr_left fun x hx => ?_
  show gcdL ns * (x / gcdL ns) = x
  rw [Int.mul_comm]
  exact red_mul hx
theorem gcdL_pos' {ns : List Int} (hp : ∀ x ∈ ns, 1 ≤ x) (h1 : 1 ≤ ns.length) : 0 < gcdL ns := by
  cases ns with
  | nil => exact absurd h1 (by simp)
  | cons x r =>
    have a := hp x (List.mem_cons_self ..)
    exact gcdL_pos (ns := x :: r) (List.mem_cons_self ..) (by omega)
theorem red_wAfter {ns : List Int} (hp : ∀ x ∈ ns, 1 ≤ x) (h1 : 1 ≤ ns.length) (m : Mv) : red (wAfter ns m.1 m.2.1 m.2.2) = mvM (red ns) m := by
  unfold mvM mv
  conv => lhs; rw [← red_back (ns := ns)]
  rw [wAfter_smul, red_smul (gcdL_pos' hp h1)]
def wAs (ns : List Int) (ms : List Mv) : List Int := ms.foldl (fun r m => wAfter r m.1 m.2.1 m.2.2) ns
theorem wAs_len : ∀ (ms : List Mv) (ns : List Int), (wAs ns ms).length = ns.length
  | [], ns => rfl
  | m :: ms, ns => by
    show (wAs (wAfter ns m.1 m.2.1 m.2.2) ms).length = ns.length
    rw [wAs_len ms, wAfter_len]
theorem wAs_take {r : List Int} {ms : List Mv} {i : Nat} {m : Mv} (h : ms[i]? = some m) : wAs r (ms.take (i + 1)) = wAfter (wAs r (ms.take i)) m.1 m.2.1 m.2.2 := by
  unfold wAs
  rw [List.take_add_one, h, List.foldl_append]
  rfl
theorem wAs_pos {n j : Nat} : ∀ {ms : List Mv} {ns : List Int}, (∀ x ∈ ns, 1 ≤ x) → 2 ≤ ns.length → ns.length = n → (∀ m ∈ ms, OkM n j m) → ∀ x ∈ wAs ns ms, 1 ≤ x
  | [], ns, hp, _, _, _ => hp
  | m :: ms, ns, hp, h2, hn, ho => by
    have o := ho m (List.mem_cons_self ..)
    refine wAs_pos (ms := ms) (ns := wAfter ns m.1 m.2.1 m.2.2) (wAfter_pos hp h2 (by rw [hn]; exact o.s) o.t o.tb) (by rw [wAfter_len]; exact h2) (by rw [wAfter_len]; exact hn) fun x hx => ho x (List.mem_cons_of_mem _ hx)
theorem wAs_sz {n j : Nat} : ∀ {ms : List Mv} {ns : List Int} {k : Nat}, Sz k ns → ns.length ≤ 8 → ns.length = n → (∀ m ∈ ms, OkM n j m) → Sz (k + ms.length * (j + 5)) (wAs ns ms)
  | [], ns, k, z, _, _, _ => by
    rw [List.length_nil, Nat.zero_mul]
    exact z
  | m :: ms, ns, k, z, h8, hn, ho => by
    have o := ho m (List.mem_cons_self ..)
    have h1 := wAs_sz (ms := ms) (ns := wAfter ns m.1 m.2.1 m.2.2) (k := k + j + 5) (wAfter_sz z h8 (by rw [hn]; exact o.s) o.t o.tb o.z) (by rw [wAfter_len]; exact h8) (by rw [wAfter_len]; exact hn) (fun x hx => ho x (List.mem_cons_of_mem _ hx))
    rw [List.length_cons, Nat.add_mul, Nat.one_mul]
    refine h1.mono ?_
    omega
theorem red_wAs {n j : Nat} : ∀ {ms : List Mv} {ns : List Int}, (∀ x ∈ ns, 1 ≤ x) → 2 ≤ ns.length → ns.length = n → (∀ m ∈ ms, OkM n j m) → red (wAs ns ms) = mvs (red ns) ms
  | [], ns, _, _, _, _ => rfl
  | m :: ms, ns, hp, h2, hn, ho => by
    have o := ho m (List.mem_cons_self ..)
    have h1 := red_wAs (ms := ms) (ns := wAfter ns m.1 m.2.1 m.2.2) (wAfter_pos hp h2 (by rw [hn]; exact o.s) o.t o.tb) (by rw [wAfter_len]; exact h2) (by rw [wAfter_len]; exact hn) fun x hx => ho x (List.mem_cons_of_mem _ hx)
    show red (wAs (wAfter ns m.1 m.2.1 m.2.2) ms) = mvs (mvM (red ns) m) ms
    rw [h1, red_wAfter hp (by omega)]
theorem mvs_app (r : List Int) (xs ys : List Mv) : mvs r (xs ++ ys) = mvs (mvs r xs) ys := by
  unfold mvs
  rw [List.foldl_append]
theorem mvs_cut (r : List Int) (ms : List Mv) (c : Nat) : mvs (mvs r (ms.take c)) (ms.drop c) = mvs r ms := by
  rw [← mvs_app, List.take_append_drop]
theorem euclid {b t S : Int} (h : b ∣ t * S) (hc : Int.gcd b t = 1) : b ∣ S := by
  have h1 := Int.natAbs_dvd_natAbs.mpr h
  rw [Int.natAbs_mul] at h1
  exact Int.natAbs_dvd_natAbs.mp (Nat.Coprime.dvd_of_dvd_mul_left hc h1)
/-- lowest terms are the only ones -/
theorem lowest_uniq {x S t b : Int} (hx : 1 ≤ x) (hS : 1 ≤ S) (hb : 1 ≤ b) (hg : Int.gcd t b = 1) (e : x * b = t * S) : x / ((Int.gcd x S : Nat) : Int) = t ∧ S / ((Int.gcd x S : Nat) : Int) = b := by
  have h1 : b ∣ t * S := ⟨x, by rw [← e, Int.mul_comm]⟩
  have h2 : b ∣ S := by
    have hc : Int.gcd b t = 1 := by rw [Int.gcd_comm]; exact hg
    exact euclid h1 hc
  obtain ⟨c, hc⟩ := h2
  subst hc
  have hx' : x = t * c := by
    have : x * b = (t * c) * b := by rw [e]; grind
    exact Int.eq_of_mul_eq_mul_right (by omega) this
  subst hx'
  have hc0 : 0 < c := by
    by_cases h : 0 < c
    · exact h
    · have h3 : c ≤ 0 := by omega
      have := Int.mul_nonpos_of_nonneg_of_nonpos (show 0 ≤ b by omega) h3
      omega
  have hg2 : Int.gcd (t * c) (b * c) = c.natAbs := by rw [Int.gcd_mul_right, hg, Nat.one_mul]
  rw [hg2]
  have : ((c.natAbs : Nat) : Int) = c := Int.natAbs_of_nonneg (by omega)
  rw [this]
  exact ⟨Int.mul_ediv_cancel t (by omega), Int.mul_ediv_cancel b (by omega)⟩
/-- the slider that is moved last shows its share -/
theorem mvs_last {r : List Int} {ms : List Mv} {m : Mv} {n j : Nat} (h : IsRow r) (hn : r.length = n) (ho : ∀ x ∈ ms ++ [m], OkM n j x) : shT (mvs r (ms ++ [m])) m.1 = m.2.1 ∧ shB (mvs r (ms ++ [m])) m.1 = m.2.2 := by
  have o := ho m (List.mem_append_right _ (List.mem_singleton.mpr rfl))
  have hr := mvs_row (ms := ms) h hn (fun x hx => ho x (List.mem_append_left _ hx))
  have hl : (mvs r ms).length = n := by rw [mvs_len, hn]
  rw [mvs_app]
  show shT (mvM (mvs r ms) m) m.1 = m.2.1 ∧ _
  have h2 : IsRow (mvM (mvs r ms) m) := isRow_mv hr (by rw [hl]; exact o.s) o.t o.tb
  have h3 : (mvM (mvs r ms) m).getD m.1 0 * m.2.2 = m.2.1 * (mvM (mvs r ms) m).sum := mv_share hr (by rw [hl]; exact o.s) o.t o.tb
  have hs : m.1 < (mvM (mvs r ms) m).length := by
    rw [mvM_len, hl]
    exact o.s
  have h4 := h2.pos _ (List.mem_of_getElem? (getD_some hs))
  have h5 := mem_le_sum h2.pos (getD_some hs)
  have h6 := h2.lo
  have ob := o.tb
  have ot := o.t
  exact lowest_uniq h4 (by omega) (by omega) o.g h3
/-- sliders that are never moved keep their ratio -/
theorem mvs_ratio {n j' i j : Nat} : ∀ {ms : List Mv} {r : List Int}, IsRow r → r.length = n → (∀ m ∈ ms, OkM n j' m) → i < n → j < n → (∀ m ∈ ms, i ≠ m.1 ∧ j ≠ m.1) → (mvs r ms).getD i 0 * r.getD j 0 = (mvs r ms).getD j 0 * r.getD i 0
  | [], r, _, _, _, _, _, _ => Int.mul_comm _ _
  | m :: ms, r, hr, hn, ho, hi, hj, hm => by
    have o := ho m (List.mem_cons_self ..)
    have hs : m.1 < r.length := by rw [hn]; exact o.s
    have h2 := isRow_mv hr hs o.t o.tb
    have ih := mvs_ratio (ms := ms) (r := mvM r m) h2 (by rw [mvM_len, hn]) (fun x hx => ho x (List.mem_cons_of_mem _ hx)) hi hj (fun x hx => hm x (List.mem_cons_of_mem _ hx))
    obtain ⟨u, v, e1, e2, e3⟩ := mv_ratio hr hs o.t o.tb (hm m (List.mem_cons_self ..)).1 (hm m (List.mem_cons_self ..)).2 (getD_some (by omega : i < r.length)) (getD_some (by omega : j < r.length))
    have hl : (mvM r m).length = n := by rw [mvM_len, hn]
    have u1 : (mvM r m).getD i 0 = u := by rw [List.getD_eq_getElem?_getD]; unfold mvM; rw [e1]; rfl
    have v1 : (mvM r m).getD j 0 = v := by rw [List.getD_eq_getElem?_getD]; unfold mvM; rw [e2]; rfl
    rw [u1, v1] at ih
    show (mvs (mvM r m) ms).getD i 0 * r.getD j 0 = (mvs (mvM r m) ms).getD j 0 * r.getD i 0
    have up : 1 ≤ u := by rw [← u1]; exact h2.pos _ (List.mem_of_getElem? (getD_some (by have := hl; unfold mvM at this; omega)))
    have vp : 1 ≤ v := by rw [← v1]; exact h2.pos _ (List.mem_of_getElem? (getD_some (by have := hl; unfold mvM at this; omega)))
    generalize (mvs (mvM r m) ms).getD i 0 = A at *
    generalize (mvs (mvM r m) ms).getD j 0 = B at *
    generalize r.getD i 0 = x at *
    generalize r.getD j 0 = y at *
    have : (A * y) * (u * v) = (B * x) * (u * v) := by grind
    exact Int.eq_of_mul_eq_mul_right (by have := Int.mul_le_mul up vp (by omega) (by omega); omega) this
end SL

namespace SL
open PySem PySem.Spec PyProof.Rows L2
/-! ### what moves forget -/
theorem mul_cancel {a b c : Int} (hc : 0 < c) (h : a * c = b * c) : a = b := Int.eq_of_mul_eq_mul_right (by omega) h
theorem row_at {r : List Int} {i : Nat} (h : IsRow r) (hi : i < r.length) : 1 ≤ r.getD i 0 := h.pos _ (List.mem_of_getElem? (getD_some hi))
theorem eq_of_prop {u v : List Int} {n l : Nat} (hu : IsRow u) (hv : IsRow v) (lu : u.length = n) (lv : v.length = n) (hl : l < n) (h : ∀ i, i < n → u.getD i 0 * v.getD l 0 = u.getD l 0 * v.getD i 0) : u = v := by
  have pu := row_at hu (show l < u.length by omega)
  have pv := row_at hv (show l < v.length by omega)
  have e : u.map (fun x => v.getD l 0 * x) = v.map (fun x => u.getD l 0 * x) := by
    apply List.ext_getElem?
    intro i
    rw [List.getElem?_map, List.getElem?_map]
    by_cases hi : i < n
    · rw [getD_some (show i < u.length by omega), getD_some (show i < v.length by omega)]
      have := h i hi
      show some (v.getD l 0 * u.getD i 0) = some (u.getD l 0 * v.getD i 0)
      rw [Int.mul_comm, this]
    · rw [List.getElem?_eq_none (by omega), List.getElem?_eq_none (by omega)]
      rfl
  have := red_prop (by omega) (by omega) e
  rwa [red_self hu.one, red_self hv.one] at this
/-- equal rows behind a move: all others had the same ratios -/
theorem mv_off {u v : List Int} {n j : Nat} {m : Mv} (hu : IsRow u) (hv : IsRow v) (lu : u.length = n) (lv : v.length = n) (o : OkM n j m) (e : mvM u m = mvM v m) {i k : Nat} (hi : i < n) (hk : k < n) (ni : i ≠ m.1) (nk : k ≠ m.1) : u.getD i 0 * v.getD k 0 = u.getD k 0 * v.getD i 0 := by
  have ho : ∀ x ∈ [m], OkM n j x := fun x hx => by rw [List.mem_singleton.mp hx]; exact o
  have r1 := mvs_ratio (ms := [m]) hu lu ho hi hk (fun x hx => by rw [List.mem_singleton.mp hx]; exact ⟨ni, nk⟩)
  have r2 := mvs_ratio (ms := [m]) hv lv ho hi hk (fun x hx => by rw [List.mem_singleton.mp hx]; exact ⟨ni, nk⟩)
  have e1 : mvs u [m] = mvM u m := rfl
  have e2 : mvs v [m] = mvM u m := e.symm
  rw [e1] at r1
  rw [e2] at r2
  have hq : IsRow (mvM u m) := isRow_mv hu (by rw [lu]; exact o.s) o.t o.tb
  have lq : (mvM u m).length = n := by rw [mvM_len, lu]
  have qi := row_at hq (show i < (mvM u m).length by omega)
  have qk := row_at hq (show k < (mvM u m).length by omega)
  generalize (mvM u m).getD i 0 = A at *
  generalize (mvM u m).getD k 0 = B at *
  generalize u.getD i 0 = x at *
  generalize u.getD k 0 = y at *
  generalize v.getD i 0 = z at *
  generalize v.getD k 0 = w at *
  have : (x * w) * (A * B) = (y * z) * (A * B) := by grind
  exact mul_cancel (by have := Int.mul_le_mul qi qk (by omega) (by omega); omega) this
theorem sum_off {u v : List Int} {n g : Nat} {a c : Int} (lu : u.length = n) (lv : v.length = n) (hg : g < n) (h : ∀ i, i < n → i ≠ g → u.getD i 0 * a = v.getD i 0 * c) : (u.sum - u.getD g 0) * a = (v.sum - v.getD g 0) * c := by
  have e : (u.set g 0).map (fun x => x * a) = (v.set g 0).map (fun x => x * c) := by
    apply List.ext_getElem?
    intro i
    rw [List.getElem?_map, List.getElem?_map]
    by_cases hi : i < n
    · by_cases hig : i = g
      · subst hig
        rw [List.getElem?_set_self (by omega), List.getElem?_set_self (by omega)]
        simp
      · rw [List.getElem?_set_ne (Ne.symm hig), List.getElem?_set_ne (Ne.symm hig), getD_some (show i < u.length by omega), getD_some (show i < v.length by omega)]
        show some (u.getD i 0 * a) = some (v.getD i 0 * c)
        rw [h i hi hig]
    · rw [List.getElem?_eq_none (by rw [List.length_set]; omega), List.getElem?_eq_none (by rw [List.length_set]; omega)]
      rfl
  have e2 := congrArg List.sum e
  rw [sum_map_mul, sum_map_mul, sum_set' (getD_some (show g < u.length by omega)), sum_set' (getD_some (show g < v.length by omega))] at e2
  simpa using e2
/-- rows with the same share of one slider: a move leads them to the same row only if they are equal -/
theorem mv_inj {u v : List Int} {n j l : Nat} {m : Mv} {t b : Int} (hu : IsRow u) (hv : IsRow v) (lu : u.length = n) (lv : v.length = n) (o : OkM n j m) (hl : l < n) (t1 : 1 ≤ t) (tb : t < b)
    (su : u.getD l 0 * b = t * u.sum) (sv : v.getD l 0 * b = t * v.sum) (e : mvM u m = mvM v m) : u = v := by
  have off := fun {i k : Nat} => mv_off hu hv lu lv o e (i := i) (k := k)
  have pl := row_at hu (show l < u.length by omega)
  have pl' := row_at hv (show l < v.length by omega)
  refine eq_of_prop (l := l) hu hv lu lv hl fun i hi => ?_
  by_cases hil : i = l
  · rw [hil]
  by_cases hgl : m.1 = l
  · have s1 := sum_off (u := u) (v := v) (g := l) (a := v.getD i 0) (c := u.getD i 0) lu lv hl fun k hk hkl => by
      have := off hk hi (by omega) (by omega)
      rw [this, Int.mul_comm]
    have hk := row_at hu (show i < u.length by omega)
    generalize u.sum = U at *
    generalize v.sum = W at *
    generalize u.getD l 0 = x at *
    generalize v.getD l 0 = y at *
    generalize u.getD i 0 = p at *
    generalize v.getD i 0 = q at *
    have : (p * y) * (b - t) = (x * q) * (b - t) := by grind
    exact mul_cancel (by omega) this
  · by_cases hig : i = m.1
    · have s1 := sum_off (u := u) (v := v) (g := i) (a := v.getD l 0) (c := u.getD l 0) lu lv hi fun k hk hki => by
        have := off hk hl (by omega) (by omega)
        rw [this, Int.mul_comm]
      generalize u.sum = U at *
      generalize v.sum = W at *
      generalize u.getD l 0 = x at *
      generalize v.getD l 0 = y at *
      generalize u.getD i 0 = p at *
      generalize v.getD i 0 = q at *
      have : (p * y) * t = (x * q) * t := by grind
      exact mul_cancel (by omega) this
    · exact off hi hl hig (Ne.symm hgl)
theorem mvs_inj {n j : Nat} : ∀ {ms : List Mv} {u v : List Int} {l : Nat} {t b : Int}, IsRow u → IsRow v → u.length = n → v.length = n → (∀ m ∈ ms, OkM n j m) → l < n → 1 ≤ t → t < b →
    u.getD l 0 * b = t * u.sum → v.getD l 0 * b = t * v.sum → mvs u ms = mvs v ms → u = v
  | [], _, _, _, _, _, _, _, _, _, _, _, _, _, _, _, e => e
  | m :: ms, u, v, l, t, b, hu, hv, lu, lv, ho, hl, t1, tb, su, sv, e => by
    have o := ho m List.mem_cons_self
    have e' : mvs (mvM u m) ms = mvs (mvM v m) ms := e
    have h := mvs_inj (ms := ms) (l := m.1) (t := m.2.1) (b := m.2.2) (isRow_mv hu (by rw [lu]; exact o.s) o.t o.tb) (isRow_mv hv (by rw [lv]; exact o.s) o.t o.tb) (by rw [← lu]; exact mvM_len _ _) (by rw [← lv]; exact mvM_len _ _) (fun x hx => ho x (List.mem_cons_of_mem _ hx)) o.s o.t o.tb
      (mv_share hu (by rw [lu]; exact o.s) o.t o.tb) (mv_share hv (by rw [lv]; exact o.s) o.t o.tb) e'
    exact mv_inj hu hv lu lv o hl t1 tb su sv h
/-- moves forget where the first slider stood, and nothing else -/
theorem mvs_off {n j : Nat} {ms : List Mv} {m : Mv} {u v : List Int} (hu : IsRow u) (hv : IsRow v) (lu : u.length = n) (lv : v.length = n) (ho : ∀ x ∈ m :: ms, OkM n j x) (e : mvs u (m :: ms) = mvs v (m :: ms)) {i k : Nat} (hi : i < n) (hk : k < n) (ni : i ≠ m.1) (nk : k ≠ m.1) :
    u.getD i 0 * v.getD k 0 = u.getD k 0 * v.getD i 0 := by
  have o := ho m List.mem_cons_self
  have e' : mvs (mvM u m) ms = mvs (mvM v m) ms := e
  have h := mvs_inj (ms := ms) (l := m.1) (t := m.2.1) (b := m.2.2) (isRow_mv hu (by rw [lu]; exact o.s) o.t o.tb) (isRow_mv hv (by rw [lv]; exact o.s) o.t o.tb) (by rw [← lu]; exact mvM_len _ _) (by rw [← lv]; exact mvM_len _ _) (fun x hx => ho x (List.mem_cons_of_mem _ hx)) o.s o.t o.tb
    (mv_share hu (by rw [lu]; exact o.s) o.t o.tb) (mv_share hv (by rw [lv]; exact o.s) o.t o.tb) e'
  exact mv_off hu hv lu lv o h hi hk ni nk
theorem wAfter_set {u : List Int} {f : Nat} {y t b : Int} (hf : f < u.length) : wAfter (u.set f y) f t b = wAfter u f t b := by
  unfold wAfter
  have e1 : (u.set f y).getD f 0 = y := by rw [List.getD_eq_getElem?_getD, List.getElem?_set_self hf]; rfl
  rw [e1, sum_set' (getD_some hf), List.map_set, List.set_set]
  congr 1
  congr 1
  omega
/-- the first slider anything, all others multiplied by one number -/
theorem mvs_fwd {n j : Nat} {ms : List Mv} {m : Mv} {r : List Int} {c y : Int} (hr : IsRow r) (lr : r.length = n) (ho : ∀ x ∈ m :: ms, OkM n j x) (hc : 1 ≤ c) (hy : 1 ≤ y) : mvs (red ((r.map fun x => x * c).set m.1 y)) (m :: ms) = mvs r (m :: ms) := by
  have o := ho m List.mem_cons_self
  have hp : ∀ x ∈ (r.map fun x => x * c).set m.1 y, 1 ≤ x := by
    intro x hx
    rcases List.mem_or_eq_of_mem_set hx with h | h
    · obtain ⟨z, hz, rfl⟩ := List.mem_map.mp h
      have := Int.mul_le_mul (hr.pos z hz) hc (by decide) (by have := hr.pos z hz; omega)
      omega
    · rw [h]; exact hy
  have e : mvM (red ((r.map fun x => x * c).set m.1 y)) m = mvM r m := by
    rw [← red_wAfter hp (by rw [List.length_set, List.length_map]; have := hr.lo; omega), wAfter_set (by rw [List.length_map, lr]; exact o.s), show (r.map fun x => x * c) = r.map fun x => c * x from List.map_congr_left fun x _ => Int.mul_comm _ _, wAfter_smul, red_smul (by omega), red_wAfter hr.pos (by have := hr.lo; omega), red_self hr.one]
  show mvs (mvM (red ((r.map fun x => x * c).set m.1 y)) m) ms = mvs (mvM r m) ms
  rw [e]
/-- one other slider, too -/
theorem mvs_parts {n j : Nat} {ms : List Mv} {m : Mv} {r s : List Int} {d : Int} {p k : Nat} (hr : IsRow r) (hs : IsRow s) (lr : r.length = n) (ls : s.length = n) (ho : ∀ x ∈ m :: ms, OkM n j x) (hd : 1 ≤ d) (hp : p < n) (hk : k < n) (np : p ≠ m.1) (nk : k ≠ m.1) (npk : k ≠ p) (e : mvs s (m :: ms) = mvs r (m :: ms)) :
    mvs (red (s.set p (s.getD p 0 + d))) (m :: ms) ≠ mvs r (m :: ms) := by
  intro e2
  have lT : (s.set p (s.getD p 0 + d)).length = n := by rw [List.length_set, ls]
  have pT : ∀ x ∈ s.set p (s.getD p 0 + d), 1 ≤ x := by
    intro x hx
    rcases List.mem_or_eq_of_mem_set hx with h | h
    · exact hs.pos x h
    · have := row_at hs (show p < s.length by omega)
      omega
  have hT : IsRow (red (s.set p (s.getD p 0 + d))) := isRow_red (by rw [lT, ← lr]; exact hr.lo) (by rw [lT, ← lr]; exact hr.hi) pT
  have a1 := mvs_off hs hr ls lr ho e hp hk np nk
  have a2 := mvs_off hT hr (by rw [red_len]; exact lT) lr ho e2 hp hk np nk
  have gp := gcdL_pos' pT (by rw [lT, ← lr]; have := hr.lo; omega)
  have rd : ∀ i, i < n → (red (s.set p (s.getD p 0 + d))).getD i 0 * gcdL (s.set p (s.getD p 0 + d)) = (s.set p (s.getD p 0 + d)).getD i 0 := by
    intro i hi
    have h := getD_some (show i < (s.set p (s.getD p 0 + d)).length by omega)
    have h2 := red_get h
    rw [List.getD_eq_getElem?_getD, h2]
    exact red_mul (List.mem_of_getElem? h)
  have r1 := rd p hp
  have r2 := rd k hk
  have v1 : (s.set p (s.getD p 0 + d)).getD p 0 = s.getD p 0 + d := by rw [List.getD_eq_getElem?_getD, List.getElem?_set_self (by omega)]; rfl
  have v2 : (s.set p (s.getD p 0 + d)).getD k 0 = s.getD k 0 := by rw [List.getD_eq_getElem?_getD, List.getElem?_set_ne (Ne.symm npk), ← List.getD_eq_getElem?_getD]
  rw [v1] at r1
  rw [v2] at r2
  have q := row_at hr (show k < r.length by omega)
  generalize (red (s.set p (s.getD p 0 + d))).getD p 0 = A at *
  generalize (red (s.set p (s.getD p 0 + d))).getD k 0 = B at *
  generalize gcdL (s.set p (s.getD p 0 + d)) = G at *
  generalize s.getD p 0 = x at *
  generalize s.getD k 0 = y at *
  generalize r.getD p 0 = z at *
  generalize r.getD k 0 = w at *
  have h1 : (x + d) * w = y * z := by grind
  have h2 : d * w = 0 := by grind
  have := Int.mul_le_mul hd q (by decide) (by omega)
  omega
end SL

namespace SL
open PySem PySem.Spec PyProof.Rows L2
/-! ### tables -/
theorem wAs_smul (c : Int) : ∀ (ms : List Mv) (u : List Int), wAs (u.map fun x => c * x) ms = (wAs u ms).map fun x => c * x
  | [], u => rfl
  | m :: ms, u => by
    show wAs (wAfter (u.map fun x => c * x) m.1 m.2.1 m.2.2) ms = (wAs (wAfter u m.1 m.2.1 m.2.2) ms).map fun x => c * x
    rw [wAfter_smul, wAs_smul c ms]
/-! moves of one slider, one directly behind the other -/
def mrg : List Mv → List Mv
  | [] => []
  | [m] => [m]
  | m :: m' :: r => if m.1 = m'.1 then mrg (m' :: r) else m :: mrg (m' :: r)
theorem mrg_mem : ∀ {ms : List Mv} {m : Mv}, m ∈ mrg ms → m ∈ ms
  | [], _, h => h
  | [_], _, h => h
  | a :: b :: r, m, h => by
    unfold mrg at h
    split at h
    · exact List.mem_cons_of_mem _ (mrg_mem h)
    · rcases List.mem_cons.mp h with h | h
      · rw [h]; exact List.mem_cons_self
      · exact List.mem_cons_of_mem _ (mrg_mem h)
theorem mrg_len : ∀ ms : List Mv, (mrg ms).length ≤ ms.length
  | [] => Nat.le_refl _
  | [_] => Nat.le_refl _
  | a :: b :: r => by
    unfold mrg
    have := mrg_len (b :: r)
    split
    · rw [List.length_cons (a := a)]; omega
    · rw [List.length_cons (a := a), List.length_cons (a := a)]; omega
/-- the first slider of a list that is merged, and the last move -/
theorem mrg_head : ∀ {m : Mv} {r : List Mv}, ∃ m' r', mrg (m :: r) = m' :: r' ∧ m'.1 = m.1
  | m, [] => ⟨m, [], rfl, rfl⟩
  | m, b :: r => by
    unfold mrg
    split
    · rename_i h
      obtain ⟨m', r', e, h'⟩ := mrg_head (m := b) (r := r)
      exact ⟨m', r', e, by rw [h', h]⟩
    · exact ⟨m, _, rfl, rfl⟩
/-- neighbors have different sliders -/
def Apart : List Mv → Prop
  | [] => True
  | [_] => True
  | m :: m' :: r => m.1 ≠ m'.1 ∧ Apart (m' :: r)
theorem mrg_apart : ∀ ms : List Mv, Apart (mrg ms)
  | [] => trivial
  | [_] => trivial
  | a :: b :: r => by
    unfold mrg
    have ih := mrg_apart (b :: r)
    split
    · exact ih
    · rename_i h
      obtain ⟨m', r', e, h'⟩ := mrg_head (m := b) (r := r)
      rw [e] at ih ⊢
      exact ⟨by rw [h']; exact h, ih⟩
theorem apart_at : ∀ {ms : List Mv} {i : Nat} {x y : Mv}, Apart ms → ms[i]? = some x → ms[i + 1]? = some y → x.1 ≠ y.1
  | [], i, x, y, _, h, _ => by simp at h
  | [_], i, x, y, _, _, h => by simp at h
  | a :: b :: r, 0, x, y, h, h1, h2 => by
    have e1 := Option.some.inj h1
    have e2 := Option.some.inj h2
    rw [← e1, ← e2]
    exact h.1
  | a :: b :: r, i + 1, x, y, h, h1, h2 => apart_at (ms := b :: r) (i := i) h.2 (by simpa using h1) (by simpa using h2)
theorem mrg_fix : ∀ {ms : List Mv}, Apart ms → mrg ms = ms
  | [], _ => rfl
  | [_], _ => rfl
  | a :: b :: r, h => by
    unfold mrg
    rw [if_neg h.1, mrg_fix h.2]
theorem mrg_snoc : ∀ (xs : List Mv) (m : Mv), mrg (xs ++ [m]) = (match (mrg xs).getLast? with | none => [] | some l => if l.1 = m.1 then (mrg xs).dropLast else mrg xs) ++ [m]
  | [], m => rfl
  | [a], m => by
    show (if a.1 = m.1 then mrg [m] else a :: mrg [m]) = _
    show (if a.1 = m.1 then [m] else [a, m]) = (if a.1 = m.1 then [] else [a]) ++ [m]
    split <;> rfl
  | a :: b :: r, m => by
    have ih := mrg_snoc (b :: r) m
    have e1 : mrg (a :: b :: r ++ [m]) = if a.1 = b.1 then mrg (b :: r ++ [m]) else a :: mrg (b :: r ++ [m]) := rfl
    have e2 : mrg (a :: b :: r) = if a.1 = b.1 then mrg (b :: r) else a :: mrg (b :: r) := rfl
    rw [e1, e2, ih]
    split
    · rfl
    · obtain ⟨m', r', e, _⟩ := mrg_head (m := b) (r := r)
      rw [e]
      rw [show (a :: m' :: r').getLast? = (m' :: r').getLast? by simp [List.getLast?_cons_cons]]
      cases h : (m' :: r').getLast? with
      | none => simp at h
      | some l =>
        show a :: ((if l.1 = m.1 then (m' :: r').dropLast else m' :: r') ++ [m]) = (if l.1 = m.1 then (a :: m' :: r').dropLast else a :: m' :: r') ++ [m]
        split <;> rfl
theorem wAfter_two {u : List Int} {s : Nat} {t b t' b' : Int} (hs : s < u.length) : wAfter (wAfter u s t b) s t' b' = (wAfter u s t' b').map fun x => (b - t) * x := by
  have : wAfter u s t b = ((u.map fun x => (b - t) * x).set s (t * (u.sum - u.getD s 0))) := by
    unfold wAfter
    congr 1
    exact List.map_congr_left fun x _ => Int.mul_comm _ _
  rw [this, wAfter_set (by rw [List.length_map]; exact hs), wAfter_smul]
/-- the merged moves do the same, up to a factor -/
theorem wAs_mrg {n j : Nat} : ∀ {ms : List Mv}, (∀ m ∈ ms, OkM n j m) → ∃ c : Int, 1 ≤ c ∧ ∀ u : List Int, u.length = n → wAs u ms = (wAs u (mrg ms)).map fun x => c * x
  | [], _ => ⟨1, by decide, fun u _ => by
      show u = u.map fun x => 1 * x
      simp⟩
  | [m], _ => ⟨1, by decide, fun u _ => by
      show wAs u [m] = (wAs u [m]).map fun x => 1 * x
      simp⟩
  | a :: b :: r, ho => by
    obtain ⟨c, c1, hc⟩ := wAs_mrg (ms := b :: r) fun m hm => ho m (List.mem_cons_of_mem _ hm)
    have oa := ho a List.mem_cons_self
    by_cases h : a.1 = b.1
    · refine ⟨(a.2.2 - a.2.1) * c, ?_, fun u hu => ?_⟩
      · have := oa.tb
        have := Int.mul_le_mul (show 1 ≤ a.2.2 - a.2.1 by omega) c1 (by decide) (by omega)
        omega
      · have e : mrg (a :: b :: r) = mrg (b :: r) := by
          show (if a.1 = b.1 then mrg (b :: r) else a :: mrg (b :: r)) = _
          rw [if_pos h]
        rw [e]
        have h1 : wAs u (a :: b :: r) = (wAs u (b :: r)).map fun x => (a.2.2 - a.2.1) * x := by
          show wAs (wAfter (wAfter u a.1 a.2.1 a.2.2) b.1 b.2.1 b.2.2) r = _
          rw [h, wAfter_two (by rw [hu, ← h]; exact oa.s), wAs_smul]
          rfl
        rw [h1, hc u hu, List.map_map]
        refine List.map_congr_left fun x _ => ?_
        show (a.2.2 - a.2.1) * (c * x) = (a.2.2 - a.2.1) * c * x
        rw [Int.mul_assoc]
    · refine ⟨c, c1, fun u hu => ?_⟩
      have e : mrg (a :: b :: r) = a :: mrg (b :: r) := by
        show (if a.1 = b.1 then mrg (b :: r) else a :: mrg (b :: r)) = _
        rw [if_neg h]
      rw [e]
      show wAs (wAfter u a.1 a.2.1 a.2.2) (b :: r) = (wAs (wAfter u a.1 a.2.1 a.2.2) (mrg (b :: r))).map _
      exact hc _ (by rw [wAfter_len]; exact hu)
theorem mvs_mrg {n j : Nat} {ms : List Mv} {r : List Int} (hr : IsRow r) (lr : r.length = n) (ho : ∀ m ∈ ms, OkM n j m) : mvs r (mrg ms) = mvs r ms := by
  obtain ⟨c, c1, hc⟩ := wAs_mrg ho
  have h1 := red_wAs (ms := ms) hr.pos hr.lo lr ho
  have h2 := red_wAs (ms := mrg ms) hr.pos hr.lo lr fun m hm => ho m (mrg_mem hm)
  rw [red_self hr.one] at h1 h2
  rw [← h1, ← h2, hc r lr, red_smul (by omega)]
/-! the columns -/
def unitW (n i : Nat) : List Int := (List.range n).map fun (a : Nat) => if (a : Int) = (i : Int) then (1 : Int) else 0
def tcols (n : Nat) (ms : List Mv) : List (List Int) := (List.range n).map fun i => wAs (unitW n i) ms
def tblOf (n : Nat) (cols : List (List Int)) : List (List Int) := (List.range n).map fun s => cols.map fun c => c.getD s 0 / gcdL cols.flatten
theorem unit_len (n i : Nat) : (unitW n i).length = n := by unfold unitW; rw [List.length_map, List.length_range]
theorem tbl_smul {n : Nat} {cols : List (List Int)} {c : Int} (hc : 1 ≤ c) : tblOf n (cols.map fun l => l.map fun x => c * x) = tblOf n cols := by
  unfold tblOf
  refine List.map_congr_left fun s _ => ?_
  rw [List.map_map]
  refine List.map_congr_left fun l _ => ?_
  show (l.map fun x => c * x).getD s 0 / gcdL (cols.map fun l => l.map fun x => c * x).flatten = _
  rw [show (cols.map fun l => l.map fun x => c * x).flatten = cols.flatten.map fun x => c * x from (List.map_flatten ..).symm, gcdL_smul (by omega), getD_smul]
  exact Int.mul_ediv_mul_of_pos _ _ (by omega)
theorem tbl_mrg {n j : Nat} {ms : List Mv} (ho : ∀ m ∈ ms, OkM n j m) : tblOf n (tcols n (mrg ms)) = tblOf n (tcols n ms) := by
  obtain ⟨c, c1, hc⟩ := wAs_mrg ho
  have : tcols n ms = (tcols n (mrg ms)).map fun l => l.map fun x => c * x := by
    unfold tcols
    rw [List.map_map]
    exact List.map_congr_left fun i _ => hc _ (unit_len n i)
  rw [this, tbl_smul c1]
/-! not all numbers are 0 -/
def addL (u v : List Int) : List Int := List.zipWith (· + ·) u v
theorem addL_len {u v : List Int} {n : Nat} (h1 : u.length = n) (h2 : v.length = n) : (addL u v).length = n := by unfold addL; rw [List.length_zipWith]; omega
theorem addL_get {u v : List Int} {i : Nat} {x y : Int} (h1 : u[i]? = some x) (h2 : v[i]? = some y) : (addL u v)[i]? = some (x + y) := by
  unfold addL
  rw [List.getElem?_zipWith, h1, h2]
theorem addL_sum : ∀ {u v : List Int}, u.length = v.length → (addL u v).sum = u.sum + v.sum
  | [], [], _ => rfl
  | [], _ :: _, h => by simp at h
  | _ :: _, [], h => by simp at h
  | x :: u, y :: v, h => by
    show ((x + y) :: addL u v).sum = _
    rw [List.sum_cons, List.sum_cons, List.sum_cons, addL_sum (by simpa using h)]
    omega
theorem wAfter_add {u v : List Int} {n s : Nat} {t b : Int} (hu : u.length = n) (hv : v.length = n) (hs : s < n) : wAfter (addL u v) s t b = addL (wAfter u s t b) (wAfter v s t b) := by
  apply List.ext_getElem?
  intro i
  have la := addL_len hu hv
  by_cases hi : i < n
  · have gu := getD_some (show i < u.length by omega)
    have gv := getD_some (show i < v.length by omega)
    by_cases his : i = s
    · subst his
      rw [wAfter_at (by omega), addL_get (wAfter_at (by omega)) (wAfter_at (by omega)), addL_sum (by omega), List.getD_eq_getElem?_getD (l := addL u v), addL_get gu gv]
      show some (t * (u.sum + v.sum - (u.getD i 0 + v.getD i 0))) = _
      congr 1
      grind
    · rw [wAfter_ne his (addL_get gu gv), addL_get (wAfter_ne his gu) (wAfter_ne his gv), Int.add_mul]
  · rw [List.getElem?_eq_none (by rw [wAfter_len]; omega), List.getElem?_eq_none (by rw [addL_len (n := n) (by rw [wAfter_len]; exact hu) (by rw [wAfter_len]; exact hv)]; omega)]
theorem wAs_add {n j : Nat} : ∀ {ms : List Mv} {u v : List Int}, (∀ m ∈ ms, OkM n j m) → u.length = n → v.length = n → wAs (addL u v) ms = addL (wAs u ms) (wAs v ms)
  | [], _, _, _, _, _ => rfl
  | m :: ms, u, v, ho, hu, hv => by
    show wAs (wAfter (addL u v) m.1 m.2.1 m.2.2) ms = addL (wAs (wAfter u m.1 m.2.1 m.2.2) ms) (wAs (wAfter v m.1 m.2.1 m.2.2) ms)
    rw [wAfter_add hu hv (ho m List.mem_cons_self).s, wAs_add (fun x hx => ho x (List.mem_cons_of_mem _ hx)) (by rw [wAfter_len]; exact hu) (by rw [wAfter_len]; exact hv)]
def sumC (n : Nat) : List (List Int) → List Int
  | [] => List.replicate n 0
  | c :: cs => addL c (sumC n cs)
theorem sumC_len {n : Nat} : ∀ {cs : List (List Int)}, (∀ c ∈ cs, c.length = n) → (sumC n cs).length = n
  | [], _ => List.length_replicate ..
  | c :: cs, h => addL_len (h c List.mem_cons_self) (sumC_len fun x hx => h x (List.mem_cons_of_mem _ hx))
theorem wAs_zero {n j : Nat} : ∀ {ms : List Mv}, (∀ m ∈ ms, OkM n j m) → wAs (List.replicate n 0) ms = List.replicate n 0
  | ms, _ => by
    have : List.replicate n (0 : Int) = (List.replicate n (0 : Int)).map fun x => 0 * x := by simp
    rw [this, wAs_smul]
    apply List.ext_getElem?
    intro i
    rw [List.getElem?_map, List.getElem?_map]
    by_cases hi : i < n
    · rw [getD_some (show i < (wAs (List.replicate n 0) ms).length by rw [wAs_len, List.length_replicate]; exact hi), getD_some (show i < (List.replicate n (0 : Int)).length by rw [List.length_replicate]; exact hi)]
      show some (0 * _) = some (0 * _)
      rw [Int.zero_mul, Int.zero_mul]
    · rw [List.getElem?_eq_none (by rw [wAs_len, List.length_replicate]; omega), List.getElem?_eq_none (by rw [List.length_replicate]; omega)]
theorem wAs_sumC {n j : Nat} {ms : List Mv} (ho : ∀ m ∈ ms, OkM n j m) : ∀ {cs : List (List Int)}, (∀ c ∈ cs, c.length = n) → wAs (sumC n cs) ms = sumC n (cs.map fun c => wAs c ms)
  | [], _ => wAs_zero ho
  | c :: cs, h => by
    show wAs (addL c (sumC n cs)) ms = addL (wAs c ms) (sumC n (cs.map fun c => wAs c ms))
    rw [wAs_add ho (h c List.mem_cons_self) (sumC_len fun x hx => h x (List.mem_cons_of_mem _ hx)), wAs_sumC ho fun x hx => h x (List.mem_cons_of_mem _ hx)]
theorem sum_units : ∀ n : Fin 9, sumC n.val ((List.range n.val).map (unitW n.val)) = List.replicate n.val 1 := by decide +kernel
theorem sumC_zero {n : Nat} : ∀ {cs : List (List Int)}, (∀ c ∈ cs, c.length = n) → (∀ c ∈ cs, ∀ x ∈ c, x = 0) → ∀ x ∈ sumC n cs, x = 0
  | [], _, _, x, hx => (List.mem_replicate.mp hx).2
  | c :: cs, h, z, x, hx => by
    obtain ⟨i, hi⟩ := List.getElem?_of_mem hx
    have hl : i < (addL c (sumC n cs)).length := (List.getElem?_eq_some_iff.mp hi).1
    have l2 := sumC_len (n := n) (cs := cs) fun x hx => h x (List.mem_cons_of_mem _ hx)
    have l1 := h c List.mem_cons_self
    rw [addL_len l1 l2] at hl
    have g1 := getD_some (show i < c.length by omega)
    have g2 := getD_some (show i < (sumC n cs).length by omega)
    have e := addL_get g1 g2
    rw [show (addL c (sumC n cs))[i]? = some x from hi] at e
    have z1 := z c List.mem_cons_self _ (List.mem_of_getElem? g1)
    have z2 := sumC_zero (fun x hx => h x (List.mem_cons_of_mem _ hx)) (fun d hd => z d (List.mem_cons_of_mem _ hd)) _ (List.mem_of_getElem? g2)
    have := Option.some.inj e
    omega
theorem tcols_pos {n j : Nat} {ms : List Mv} (h2 : 2 ≤ n) (h8 : n ≤ 8) (ho : ∀ m ∈ ms, OkM n j m) : 0 < gcdL (tcols n ms).flatten := by
  have hl : ∀ c ∈ (List.range n).map (unitW n), c.length = n := fun c hc => by
    obtain ⟨i, _, rfl⟩ := List.mem_map.mp hc
    exact unit_len n i
  have hs := wAs_sumC ho hl
  rw [sum_units ⟨n, by omega⟩] at hs
  have hp := wAs_pos (ms := ms) (ns := List.replicate n 1) (n := n) (j := j) (fun x hx => by rw [(List.mem_replicate.mp hx).2]; decide) (by rw [List.length_replicate]; exact h2) (List.length_replicate ..) ho
  have et : ((List.range n).map (unitW n)).map (fun c => wAs c ms) = tcols n ms := by
    unfold tcols
    rw [List.map_map]
    rfl
  rw [show (List.map (unitW (⟨n, by omega⟩ : Fin 9).val) (List.range (⟨n, by omega⟩ : Fin 9).val)) = (List.range n).map (unitW n) from rfl] at hs
  rw [et] at hs
  by_cases hex : ∃ x ∈ (tcols n ms).flatten, x ≠ 0
  · obtain ⟨x, hx, nx⟩ := hex
    exact gcdL_pos hx nx
  · exfalso
    have lt : ∀ c ∈ tcols n ms, c.length = n := fun c hc => by
      obtain ⟨i, _, rfl⟩ := List.mem_map.mp hc
      rw [wAs_len]
      exact unit_len n i
    have z := sumC_zero lt (fun c hc x hx => Classical.byContradiction fun nx => hex ⟨x, List.mem_flatten.mpr ⟨c, hc, hx⟩, nx⟩)
    rw [← hs] at z
    have l0 : 0 < (wAs (List.replicate n 1) ms).length := by rw [wAs_len, List.length_replicate]; omega
    have g := getD_some l0
    have a := hp _ (List.mem_of_getElem? g)
    have b := z _ (List.mem_of_getElem? g)
    omega
end SL

namespace SL
open PySem PySem.Spec PyProof.Rows L2
/-! ### tables as linear maps -/
theorem sumC_get {n s : Nat} (hs : s < n) : ∀ {cs : List (List Int)}, (∀ c ∈ cs, c.length = n) → (sumC n cs).getD s 0 = (cs.map fun c => c.getD s 0).sum
  | [], _ => by
    show (List.replicate n (0 : Int)).getD s 0 = 0
    rw [List.getD_eq_getElem?_getD, List.getElem?_replicate]
    split <;> rfl
  | c :: cs, h => by
    have l1 := h c List.mem_cons_self
    have l2 := sumC_len (n := n) (cs := cs) fun x hx => h x (List.mem_cons_of_mem _ hx)
    have e := addL_get (getD_some (show s < c.length by omega)) (getD_some (show s < (sumC n cs).length by omega))
    show (addL c (sumC n cs)).getD s 0 = _
    rw [List.getD_eq_getElem?_getD, e, List.map_cons, List.sum_cons, ← sumC_get hs fun x hx => h x (List.mem_cons_of_mem _ hx)]
    rfl
theorem sum_pick (f : Nat → Int) (s : Nat) : ∀ n : Nat, ((List.range n).map fun (j : Nat) => f j * (if (s : Int) = (j : Int) then (1 : Int) else 0)).sum = if s < n then f s else 0
  | 0 => rfl
  | n + 1 => by
    rw [List.range_succ, List.map_append, List.sum_append, sum_pick f s n]
    show _ + (f n * (if (s : Int) = (n : Int) then (1 : Int) else 0) + 0) = _
    by_cases h : s = n
    · subst h
      rw [if_neg (Nat.lt_irrefl s), if_pos rfl, if_pos (Nat.lt_succ_self s)]
      omega
    · rw [if_neg (show ¬ (s : Int) = (n : Int) by omega)]
      by_cases h2 : s < n
      · rw [if_pos h2, if_pos (by omega)]; omega
      · rw [if_neg h2, if_neg (by omega)]; omega
theorem unit_get {n i s : Nat} (hs : s < n) : (unitW n i).getD s 0 = if (s : Int) = (i : Int) then 1 else 0 := by
  unfold unitW
  rw [List.getD_eq_getElem?_getD, List.getElem?_map, List.getElem?_range hs]
  rfl
theorem ext_getD {u v : List Int} {n : Nat} (hu : u.length = n) (hv : v.length = n) (h : ∀ s, s < n → u.getD s 0 = v.getD s 0) : u = v := by
  apply List.ext_getElem?
  intro s
  by_cases hs : s < n
  · rw [getD_some (show s < u.length by omega), getD_some (show s < v.length by omega), h s hs]
  · rw [List.getElem?_eq_none (by omega), List.getElem?_eq_none (by omega)]
theorem as_units {n : Nat} {w : List Int} (hw : w.length = n) : w = sumC n ((List.range n).map fun j => (unitW n j).map fun x => w.getD j 0 * x) := by
  have hl : ∀ c ∈ (List.range n).map (fun j => (unitW n j).map fun x => w.getD j 0 * x), c.length = n := fun c hc => by
    obtain ⟨j, _, rfl⟩ := List.mem_map.mp hc
    rw [List.length_map, unit_len]
  refine ext_getD hw (sumC_len hl) fun s hs => ?_
  rw [sumC_get hs hl, List.map_map]
  have := sum_pick (fun j => w.getD j 0) s n
  rw [if_pos hs] at this
  rw [← this]
  congr 1
  refine List.map_congr_left fun j _ => ?_
  show _ = ((unitW n j).map fun x => w.getD j 0 * x).getD s 0
  rw [getD_smul, unit_get hs]
/-- the weights behind moves, by the columns -/
theorem wAs_lin {n j : Nat} {ms : List Mv} (ho : ∀ m ∈ ms, OkM n j m) {w : List Int} (hw : w.length = n) {s : Nat} (hs : s < n) : (wAs w ms).getD s 0 = ((List.range n).map fun i => w.getD i 0 * (wAs (unitW n i) ms).getD s 0).sum := by
  have hl : ∀ c ∈ (List.range n).map (fun j => (unitW n j).map fun x => w.getD j 0 * x), c.length = n := fun c hc => by
    obtain ⟨j, _, rfl⟩ := List.mem_map.mp hc
    rw [List.length_map, unit_len]
  have e := wAs_sumC ho hl
  rw [← as_units hw] at e
  rw [e, sumC_get hs, List.map_map, List.map_map]
  · congr 1
    refine List.map_congr_left fun i _ => ?_
    show (wAs ((unitW n i).map fun x => w.getD i 0 * x) ms).getD s 0 = _
    rw [wAs_smul, getD_smul]
  · intro c hc
    obtain ⟨d, hd, rfl⟩ := List.mem_map.mp hc
    rw [wAs_len]
    exact hl d hd
def dot (xs ys : List Int) : Int := (List.zipWith (fun x y => x * y) xs ys).sum
theorem dot_range {n : Nat} (f : Nat → Int) : ∀ {w : List Int}, w.length = n → dot ((List.range n).map f) w = ((List.range n).map fun i => w.getD i 0 * f i).sum := by
  intro w hw
  unfold dot
  congr 1
  apply List.ext_getElem?
  intro i
  rw [List.getElem?_zipWith, List.getElem?_map, List.getElem?_map]
  by_cases hi : i < n
  · rw [List.getElem?_range hi, getD_some (show i < w.length by omega)]
    show some (f i * w.getD i 0) = some (w.getD i 0 * f i)
    rw [Int.mul_comm]
  · rw [List.getElem?_eq_none (l := List.range n) (by rw [List.length_range]; omega)]
    rfl
/-- row s of the table -/
def trow (n : Nat) (ms : List Mv) (s : Nat) : List Int := (tcols n ms).map fun c => c.getD s 0 / gcdL (tcols n ms).flatten
theorem tbl_rows (n : Nat) (ms : List Mv) : tblOf n (tcols n ms) = (List.range n).map (trow n ms) := rfl
theorem col_mem {n i s : Nat} {ms : List Mv} (hi : i < n) (hs : s < n) : (wAs (unitW n i) ms).getD s 0 ∈ (tcols n ms).flatten := by
  refine List.mem_flatten.mpr ⟨wAs (unitW n i) ms, List.mem_map.mpr ⟨i, List.mem_range.mpr hi, rfl⟩, ?_⟩
  exact List.mem_of_getElem? (getD_some (by rw [wAs_len, unit_len]; exact hs))
theorem sum_mul (g : Int) : ∀ l : List Int, g * l.sum = (l.map fun x => g * x).sum
  | [] => by simp
  | x :: l => by rw [List.sum_cons, List.map_cons, List.sum_cons, ← sum_mul g l, Int.mul_add]
theorem image_at {n j : Nat} {ms : List Mv} (ho : ∀ m ∈ ms, OkM n j m) {w : List Int} (hw : w.length = n) {s : Nat} (hs : s < n) : gcdL (tcols n ms).flatten * dot (trow n ms s) w = (wAs w ms).getD s 0 := by
  have e : trow n ms s = (List.range n).map fun i => (wAs (unitW n i) ms).getD s 0 / gcdL (tcols n ms).flatten := by
    unfold trow
    conv => lhs; rw [show tcols n ms = (List.range n).map fun i => wAs (unitW n i) ms from rfl]
    rw [List.map_map]
    rfl
  rw [e, dot_range _ hw, wAs_lin ho hw hs, sum_mul, List.map_map]
  congr 1
  refine List.map_congr_left fun i hi => ?_
  show gcdL (tcols n ms).flatten * (w.getD i 0 * ((wAs (unitW n i) ms).getD s 0 / gcdL (tcols n ms).flatten)) = w.getD i 0 * (wAs (unitW n i) ms).getD s 0
  have := Int.ediv_mul_cancel (gcdL_dvd (col_mem (ms := ms) (List.mem_range.mp hi) hs))
  generalize (wAs (unitW n i) ms).getD s 0 / gcdL (tcols n ms).flatten = q at *
  rw [← this]
  grind
def dots (n : Nat) (ms : List Mv) (w : List Int) : List Int := (List.range n).map fun s => dot (trow n ms s) w
theorem image_all {n j : Nat} {ms : List Mv} (ho : ∀ m ∈ ms, OkM n j m) {w : List Int} (hw : w.length = n) : wAs w ms = (dots n ms w).map fun x => gcdL (tcols n ms).flatten * x := by
  refine ext_getD (n := n) (by rw [wAs_len]; exact hw) (by rw [List.length_map]; unfold dots; rw [List.length_map, List.length_range]) fun s hs => ?_
  rw [getD_smul, ← image_at ho hw hs]
  congr 1
  unfold dots
  rw [List.getD_eq_getElem?_getD, List.getElem?_map, List.getElem?_range hs]
  rfl
/-- a row led by the table is the row behind the moves -/
theorem image_red {n j : Nat} {ms : List Mv} (h2 : 2 ≤ n) (h8 : n ≤ 8) (ho : ∀ m ∈ ms, OkM n j m) {w : List Int} (hw : w.length = n) (hp : ∀ x ∈ w, 1 ≤ x) : red (dots n ms w) = mvs (red w) ms ∧ ∀ x ∈ dots n ms w, 1 ≤ x ∧ ∃ y ∈ wAs w ms, x ≤ y := by
  have g0 := tcols_pos h2 h8 ho
  have e := image_all ho hw
  refine ⟨?_, fun x hx => ?_⟩
  · rw [← red_wAs hp (by omega) hw ho, e, red_smul g0]
  · have hm : gcdL (tcols n ms).flatten * x ∈ wAs w ms := by
      rw [e]
      exact List.mem_map.mpr ⟨x, hx, rfl⟩
    have := wAs_pos hp (by omega) hw ho _ hm
    have x1 : 1 ≤ x := by
      by_cases h : 1 ≤ x
      · exact h
      · have := Int.mul_nonpos_of_nonneg_of_nonpos (show 0 ≤ gcdL (tcols n ms).flatten by omega) (show x ≤ 0 by omega)
        omega
    refine ⟨x1, _, hm, ?_⟩
    have := Int.mul_le_mul (show (1 : Int) ≤ gcdL (tcols n ms).flatten by omega) (Int.le_refl x) (by omega) (by omega)
    omega
theorem wAfter_nn {u : List Int} {s : Nat} {t b : Int} (h : ∀ x ∈ u, 0 ≤ x) (t1 : 1 ≤ t) (tb : t < b) : ∀ x ∈ wAfter u s t b, 0 ≤ x := by
  intro x hx
  unfold wAfter at hx
  rcases List.mem_or_eq_of_mem_set hx with h' | h'
  · obtain ⟨y, hy, rfl⟩ := List.mem_map.mp h'
    exact Int.mul_nonneg (h y hy) (by omega)
  · rw [h']
    refine Int.mul_nonneg (by omega) ?_
    have : ∀ (u : List Int) (s : Nat), (∀ x ∈ u, 0 ≤ x) → 0 ≤ u.sum ∧ u.getD s 0 ≤ u.sum := by
      intro u
      induction u with
      | nil => intro s _; exact ⟨by decide, by simp⟩
      | cons y u ih =>
        intro s hu
        have y0 := hu y List.mem_cons_self
        have i0 := ih 0 fun z hz => hu z (List.mem_cons_of_mem _ hz)
        rw [List.sum_cons]
        refine ⟨by omega, ?_⟩
        cases s with
        | zero => show y ≤ _; omega
        | succ s =>
          have := (ih s fun z hz => hu z (List.mem_cons_of_mem _ hz)).2
          show u.getD s 0 ≤ _
          omega
    have := (this u s h).2
    omega
theorem wAs_nn {n j : Nat} : ∀ {ms : List Mv} {u : List Int}, (∀ m ∈ ms, OkM n j m) → (∀ x ∈ u, 0 ≤ x) → ∀ x ∈ wAs u ms, 0 ≤ x
  | [], _, _, h => h
  | m :: ms, u, ho, h => wAs_nn (ms := ms) (u := wAfter u m.1 m.2.1 m.2.2) (fun x hx => ho x (List.mem_cons_of_mem _ hx)) (wAfter_nn h (ho m List.mem_cons_self).t (ho m List.mem_cons_self).tb)
/-- the numbers of a table: from 0 on, without a common divisor -/
theorem tbl_nn {n j : Nat} {ms : List Mv} (h2 : 2 ≤ n) (h8 : n ≤ 8) (ho : ∀ m ∈ ms, OkM n j m) : ∀ r ∈ tblOf n (tcols n ms), r.length = n ∧ ∀ x ∈ r, 0 ≤ x := by
  intro r hr
  obtain ⟨s, _, rfl⟩ := List.mem_map.mp hr
  refine ⟨by rw [List.length_map]; unfold tcols; rw [List.length_map, List.length_range], fun x hx => ?_⟩
  obtain ⟨c, hc, rfl⟩ := List.mem_map.mp hx
  obtain ⟨i, _, rfl⟩ := List.mem_map.mp hc
  refine Int.ediv_nonneg ?_ (gcdL_nn _)
  rw [List.getD_eq_getElem?_getD]
  cases hg : (wAs (unitW n i) ms)[s]? with
  | none => exact Int.le_refl 0
  | some y => exact wAs_nn ho (fun z hz => by obtain ⟨a, _, rfl⟩ := List.mem_map.mp hz; split <;> decide) y (List.mem_of_getElem? hg)
theorem tbl_one {n j : Nat} {ms : List Mv} (h2 : 2 ≤ n) (h8 : n ≤ 8) (ho : ∀ m ∈ ms, OkM n j m) : gcdL (tblOf n (tcols n ms)).flatten = 1 := by
  have g0 := tcols_pos h2 h8 ho
  have hd : gcdL (tblOf n (tcols n ms)).flatten * gcdL (tcols n ms).flatten ∣ gcdL (tcols n ms).flatten := by
    refine gcdL_greatest fun x hx => ?_
    obtain ⟨c, hc, hxc⟩ := List.mem_flatten.mp hx
    obtain ⟨s, hs⟩ := List.getElem?_of_mem hxc
    have hc' := hc
    obtain ⟨i, hi, rfl⟩ := List.mem_map.mp hc'
    have sl := (List.getElem?_eq_some_iff.mp hs).1
    rw [wAs_len, unit_len] at sl
    have hm : x / gcdL (tcols n ms).flatten ∈ (tblOf n (tcols n ms)).flatten := by
      refine List.mem_flatten.mpr ⟨_, List.mem_map.mpr ⟨s, List.mem_range.mpr sl, rfl⟩, List.mem_map.mpr ⟨_, hc, ?_⟩⟩
      show (wAs (unitW n i) ms).getD s 0 / _ = _
      rw [List.getD_eq_getElem?_getD, hs]
      rfl
    have := Int.mul_dvd_mul (gcdL_dvd hm) (Int.dvd_refl (gcdL (tcols n ms).flatten))
    rwa [Int.ediv_mul_cancel (gcdL_dvd hx)] at this
  have nn := gcdL_nn (tblOf n (tcols n ms)).flatten
  have le := Int.le_of_dvd g0 hd
  have ne : gcdL (tblOf n (tcols n ms)).flatten ≠ 0 := fun z => by
    rw [z, Int.zero_mul] at hd
    have := Int.zero_dvd.mp hd
    omega
  have : ¬ 2 ≤ gcdL (tblOf n (tcols n ms)).flatten := fun h => by
    have := Int.mul_le_mul h (Int.le_refl (gcdL (tcols n ms).flatten)) (by omega) (by omega)
    omega
  omega
/-- the slider that is moved first: zeros alone -/
theorem first_zero {n j : Nat} {m : Mv} {ms : List Mv} (ho : ∀ x ∈ m :: ms, OkM n j x) {s : Nat} : (wAs (unitW n m.1) (m :: ms)).getD s 0 = 0 := by
  have o := ho m List.mem_cons_self
  have su : (unitW n m.1).sum = 1 := by
    have := sum_pick (fun _ => 1) m.1 n
    rw [if_pos o.s] at this
    rw [← this]
    unfold unitW
    congr 1
    refine List.map_congr_left fun a _ => ?_
    show (if (a : Int) = (m.1 : Int) then (1 : Int) else 0) = 1 * (if (m.1 : Int) = (a : Int) then 1 else 0)
    rw [Int.one_mul]
    by_cases h : (a : Int) = (m.1 : Int)
    · rw [if_pos h, if_pos h.symm]
    · rw [if_neg h, if_neg (Ne.symm h)]
  have z : wAfter (unitW n m.1) m.1 m.2.1 m.2.2 = List.replicate n 0 := by
    refine ext_getD (by rw [wAfter_len, unit_len]) (List.length_replicate ..) fun s hs => ?_
    have r0 : (List.replicate n (0 : Int)).getD s 0 = 0 := by
      rw [List.getD_eq_getElem?_getD, List.getElem?_replicate]
      split <;> rfl
    rw [r0, List.getD_eq_getElem?_getD]
    by_cases h : s = m.1
    · rw [h, wAfter_at (by rw [unit_len]; exact o.s), su, unit_get o.s, if_pos rfl]
      show m.2.1 * (1 - 1) = 0
      omega
    · rw [wAfter_ne h (getD_some (by rw [unit_len]; exact hs)), unit_get hs, if_neg (by omega)]
      show 0 * _ = 0
      omega
  show (wAs (wAfter (unitW n m.1) m.1 m.2.1 m.2.2) ms).getD s 0 = 0
  rw [z, wAs_zero fun x hx => ho x (List.mem_cons_of_mem _ hx)]
  rw [List.getD_eq_getElem?_getD, List.getElem?_replicate]
  split <;> rfl
/-! the product of two tables -/
def prodF (n : Nat) (ms ms' : List Mv) : List (List Int) := (List.range n).map fun s => (List.range n).map fun i => dot (trow n ms' s) ((List.range n).map fun k => (trow n ms k).getD i 0)
theorem gcdL_mem {A B : List Int} (h1 : ∀ x ∈ A, x ∈ B) (h2 : ∀ x ∈ B, x ∈ A) : gcdL A = gcdL B :=
  dvd_antisymm' (gcdL_nn _) (gcdL_nn _) (gcdL_greatest fun x hx => gcdL_dvd (h2 x hx)) (gcdL_greatest fun x hx => gcdL_dvd (h1 x hx))
theorem trow_get {n i s : Nat} {ms : List Mv} (hi : i < n) : (trow n ms s).getD i 0 = (wAs (unitW n i) ms).getD s 0 / gcdL (tcols n ms).flatten := by
  unfold trow
  rw [List.getD_eq_getElem?_getD, List.getElem?_map, show (tcols n ms)[i]? = some (wAs (unitW n i) ms) by
    unfold tcols
    rw [List.getElem?_map, List.getElem?_range hi]
    rfl]
  rfl
theorem prod_at {n j : Nat} {ms ms' : List Mv} (ho : ∀ m ∈ ms, OkM n j m) (ho' : ∀ m ∈ ms', OkM n j m) {i s : Nat} (hi : i < n) (hs : s < n) :
    (gcdL (tcols n ms').flatten * gcdL (tcols n ms).flatten) * dot (trow n ms' s) ((List.range n).map fun k => (trow n ms k).getD i 0) = (wAs (unitW n i) (ms ++ ms')).getD s 0 := by
  have e1 : wAs (unitW n i) (ms ++ ms') = wAs (wAs (unitW n i) ms) ms' := by
    unfold wAs
    rw [List.foldl_append]
  have hcol : wAs (unitW n i) ms = ((List.range n).map fun k => (trow n ms k).getD i 0).map fun x => gcdL (tcols n ms).flatten * x := by
    refine ext_getD (by rw [wAs_len, unit_len]) (by rw [List.length_map, List.length_map, List.length_range]) fun k hk => ?_
    rw [getD_smul, List.getD_eq_getElem?_getD (l := (List.range n).map _), List.getElem?_map, List.getElem?_range hk]
    show _ = _ * (trow n ms k).getD i 0
    rw [trow_get hi, Int.mul_comm]
    exact (Int.ediv_mul_cancel (gcdL_dvd (col_mem hi hk))).symm
  have ln : ((List.range n).map fun k => (trow n ms k).getD i 0).length = n := by rw [List.length_map, List.length_range]
  rw [e1, hcol, wAs_smul, getD_smul, ← image_at ho' ln hs]
  grind
theorem prod_red {n j : Nat} {ms ms' : List Mv} (h2 : 2 ≤ n) (h8 : n ≤ 8) (ho : ∀ m ∈ ms, OkM n j m) (ho' : ∀ m ∈ ms', OkM n j m) :
    0 < gcdL (prodF n ms ms').flatten ∧ (prodF n ms ms').map (fun r => r.map fun x => x / gcdL (prodF n ms ms').flatten) = tblOf n (tcols n (ms ++ ms')) := by
  have g1 := tcols_pos h2 h8 ho
  have g2 := tcols_pos h2 h8 ho'
  have ha : ∀ m ∈ ms ++ ms', OkM n j m := fun m hm => by
    rcases List.mem_append.mp hm with h | h
    · exact ho m h
    · exact ho' m h
  have g3 := tcols_pos h2 h8 ha
  have gp : 0 < gcdL (tcols n ms').flatten * gcdL (tcols n ms).flatten := Int.mul_pos g2 g1
  have eg : gcdL (tcols n (ms ++ ms')).flatten = (gcdL (tcols n ms').flatten * gcdL (tcols n ms).flatten) * gcdL (prodF n ms ms').flatten := by
    rw [← gcdL_smul gp]
    refine gcdL_mem (fun x hx => ?_) fun x hx => ?_
    · obtain ⟨c, hc, hxc⟩ := List.mem_flatten.mp hx
      obtain ⟨s, hs⟩ := List.getElem?_of_mem hxc
      obtain ⟨i, hi, rfl⟩ := List.mem_map.mp hc
      have sl := (List.getElem?_eq_some_iff.mp hs).1
      rw [wAs_len, unit_len] at sl
      refine List.mem_map.mpr ⟨_, List.mem_flatten.mpr ⟨_, List.mem_map.mpr ⟨s, List.mem_range.mpr sl, rfl⟩, List.mem_map.mpr ⟨i, hi, rfl⟩⟩, ?_⟩
      rw [prod_at ho ho' (List.mem_range.mp hi) sl, List.getD_eq_getElem?_getD, hs]
      rfl
    · obtain ⟨y, hy, rfl⟩ := List.mem_map.mp hx
      obtain ⟨r, hr, hyr⟩ := List.mem_flatten.mp hy
      obtain ⟨s, hs, rfl⟩ := List.mem_map.mp hr
      obtain ⟨i, hi, rfl⟩ := List.mem_map.mp hyr
      show _ * dot _ _ ∈ _
      rw [prod_at ho ho' (List.mem_range.mp hi) (List.mem_range.mp hs)]
      exact col_mem (List.mem_range.mp hi) (List.mem_range.mp hs)
  have gF : 0 < gcdL (prodF n ms ms').flatten := by
    have nn := gcdL_nn (prodF n ms ms').flatten
    by_cases h : gcdL (prodF n ms ms').flatten = 0
    · rw [h, Int.mul_zero] at eg
      omega
    · omega
  refine ⟨gF, ?_⟩
  rw [tbl_rows]
  show ((List.range n).map _).map _ = _
  rw [List.map_map]
  refine List.map_congr_left fun s hs => ?_
  have hs' := List.mem_range.mp hs
  have er : trow n (ms ++ ms') s = (List.range n).map fun i => (wAs (unitW n i) (ms ++ ms')).getD s 0 / gcdL (tcols n (ms ++ ms')).flatten := by
    unfold trow
    conv => lhs; rw [show tcols n (ms ++ ms') = (List.range n).map fun i => wAs (unitW n i) (ms ++ ms') from rfl]
    rw [List.map_map]
    rfl
  rw [er]
  show ((List.range n).map _).map _ = _
  rw [List.map_map]
  refine List.map_congr_left fun i hi => ?_
  show dot (trow n ms' s) ((List.range n).map fun k => (trow n ms k).getD i 0) / gcdL (prodF n ms ms').flatten = _
  rw [← prod_at ho ho' (List.mem_range.mp hi) hs', eg]
  exact (Int.mul_ediv_mul_of_pos _ _ gp).symm
end SL

namespace SL
open PySem PySem.Spec PyProof.Rows L2
/-! ### tables that are equal, and the rows that tell them apart -/
theorem mvs_of_tbl {n j : Nat} {ms ms' : List Mv} (h2 : 2 ≤ n) (h8 : n ≤ 8) (ho : ∀ m ∈ ms, OkM n j m) (ho' : ∀ m ∈ ms', OkM n j m) (e : tblOf n (tcols n ms) = tblOf n (tcols n ms')) {w : List Int} (hw : IsRow w) (lw : w.length = n) : mvs w ms = mvs w ms' := by
  have d : ∀ ks : List Mv, dots n ks w = (tblOf n (tcols n ks)).map fun r => dot r w := fun ks => by
    unfold dots
    rw [tbl_rows, List.map_map]
    rfl
  have h1 := (image_red h2 h8 ho lw hw.pos).1
  have h3 := (image_red h2 h8 ho' lw hw.pos).1
  rw [red_self hw.one] at h1 h3
  rw [← h1, ← h3, d, d, e]
/-- the row of ones, and the one with one weight of 2 -/
def onesW (n : Nat) : List Int := List.replicate n 1
def onesI (n i : Nat) : List Int := (List.replicate n (1 : Int)).set i 2
theorem row_of_one {w : List Int} (h2 : 2 ≤ w.length) (h8 : w.length ≤ 8) (hp : ∀ x ∈ w, 1 ≤ x) (h1 : (1 : Int) ∈ w) : IsRow w := by
  refine ⟨h2, h8, hp, ?_⟩
  have := Int.le_of_dvd (by decide) (gcdL_dvd h1)
  have := gcdL_pos (ns := w) h1 (by decide)
  omega
theorem onesW_row {n : Nat} (h2 : 2 ≤ n) (h8 : n ≤ 8) : IsRow (onesW n) := by
  unfold onesW
  refine row_of_one (by rw [List.length_replicate]; exact h2) (by rw [List.length_replicate]; exact h8) (fun x hx => by rw [(List.mem_replicate.mp hx).2]; decide) (List.mem_replicate.mpr ⟨by omega, rfl⟩)
theorem onesI_len (n i : Nat) : (onesI n i).length = n := by unfold onesI; rw [List.length_set, List.length_replicate]
theorem onesI_get {n i k : Nat} (hk : k < n) : (onesI n i).getD k 0 = if k = i then 2 else 1 := by
  unfold onesI
  rw [List.getD_eq_getElem?_getD]
  by_cases h : k = i
  · subst h
    rw [List.getElem?_set_self (by rw [List.length_replicate]; exact hk), if_pos rfl]
    rfl
  · rw [List.getElem?_set_ne (Ne.symm h), List.getElem?_replicate, if_pos hk, if_neg h]
    rfl
theorem onesI_row {n i : Nat} (h2 : 2 ≤ n) (h8 : n ≤ 8) : IsRow (onesI n i) := by
  have hl := onesI_len n i
  refine row_of_one (by omega) (by omega) (fun x hx => ?_) ?_
  · unfold onesI at hx
    rcases List.mem_or_eq_of_mem_set hx with h | h
    · rw [(List.mem_replicate.mp h).2]; decide
    · rw [h]; decide
  · obtain ⟨k, hk, hne⟩ : ∃ k, k < n ∧ k ≠ i := by
      by_cases h : i = 0
      · exact ⟨1, by omega, by omega⟩
      · exact ⟨0, by omega, by omega⟩
    have := getD_some (show k < (onesI n i).length by omega)
    rw [onesI_get hk, if_neg hne] at this
    exact List.mem_of_getElem? this
theorem onesW_get {n k : Nat} (hk : k < n) : (onesW n).getD k 0 = 1 := by
  unfold onesW
  rw [List.getD_eq_getElem?_getD, List.getElem?_replicate, if_pos hk]
  rfl
/-- moves forget where the first slider stood -/
theorem ones_forget {n j : Nat} {m : Mv} {ms : List Mv} (h2 : 2 ≤ n) (h8 : n ≤ 8) (ho : ∀ x ∈ m :: ms, OkM n j x) : mvs (onesI n m.1) (m :: ms) = mvs (onesW n) (m :: ms) := by
  have hr := onesW_row h2 h8
  have := mvs_fwd (c := 1) (y := 2) hr (List.length_replicate ..) ho (by decide) (by decide)
  have e : ((onesW n).map fun x => x * 1).set m.1 2 = onesI n m.1 := by
    unfold onesW onesI
    simp
  rw [e, red_self (onesI_row h2 h8).one] at this
  exact this
/-- three sliders or more: lists that lead these rows alike begin with the same slider -/
theorem same_first {n j : Nat} {m m' : Mv} {ms ms' : List Mv} (h3 : 3 ≤ n) (h8 : n ≤ 8) (ho : ∀ x ∈ m :: ms, OkM n j x) (ho' : ∀ x ∈ m' :: ms', OkM n j x)
    (e0 : mvs (onesW n) (m :: ms) = mvs (onesW n) (m' :: ms')) (e1 : mvs (onesI n m.1) (m :: ms) = mvs (onesI n m.1) (m' :: ms')) : m.1 = m'.1 := by
  refine Classical.byContradiction fun hne => ?_
  have om := (ho m List.mem_cons_self).s
  have om' := (ho' m' List.mem_cons_self).s
  have hf := ones_forget (by omega) h8 ho
  have e : mvs (onesI n m.1) (m' :: ms') = mvs (onesW n) (m' :: ms') := by rw [← e1, hf, e0]
  obtain ⟨k, hk, k1, k2⟩ : ∃ k, k < n ∧ k ≠ m.1 ∧ k ≠ m'.1 := by
    by_cases a : 0 ≠ m.1 ∧ 0 ≠ m'.1
    · exact ⟨0, by omega, a.1, a.2⟩
    · by_cases b : 1 ≠ m.1 ∧ 1 ≠ m'.1
      · exact ⟨1, by omega, b.1, b.2⟩
      · exact ⟨2, by omega, by omega, by omega⟩
  have := mvs_off (onesI_row (by omega) h8) (onesW_row (by omega) h8) (onesI_len n m.1) (List.length_replicate ..) ho' e om hk hne k2
  rw [onesI_get om, if_pos rfl, onesW_get hk, onesI_get hk, if_neg k1, onesW_get om] at this
  omega
/-- a list with a move and one without: a row that parts them -/
theorem empty_parts {n j : Nat} {m : Mv} {ms : List Mv} (h2 : 2 ≤ n) (h8 : n ≤ 8) (ho : ∀ x ∈ m :: ms, OkM n j x) : ¬ (mvs (onesW n) (m :: ms) = onesW n ∧ mvs (onesI n m.1) (m :: ms) = onesI n m.1) := by
  rintro ⟨a, b⟩
  have om := (ho m List.mem_cons_self).s
  rw [ones_forget h2 h8 ho, a] at b
  have := congrArg (fun l : List Int => l.getD m.1 0) b
  replace this : (onesW n).getD m.1 0 = (onesI n m.1).getD m.1 0 := this
  rw [onesI_get om, if_pos rfl, onesW_get om] at this
  omega
/-- lists that lead one row alike end with the same share of their last slider, if it is one slider -/
theorem same_last {n j : Nat} {m m' : Mv} {ms ms' : List Mv} {w : List Int} (hw : IsRow w) (lw : w.length = n) (ho : ∀ x ∈ ms ++ [m], OkM n j x) (ho' : ∀ x ∈ ms' ++ [m'], OkM n j x)
    (e : mvs w (ms ++ [m]) = mvs w (ms' ++ [m'])) (hs : m.1 = m'.1) : m = m' := by
  obtain ⟨a1, a2⟩ := mvs_last hw lw ho
  obtain ⟨b1, b2⟩ := mvs_last hw lw ho'
  rw [e, hs] at a1 a2
  obtain ⟨s, t, b⟩ := m
  obtain ⟨s', t', b'⟩ := m'
  simp only at hs a1 a2 b1 b2
  rw [hs, ← a1, ← a2, b1, b2]
end SL

/-! the program's rows: what each def answers -/
namespace PD
open PySem PySem.Spec PyProof.Rows L2 Evl SL
/-! the source of every family: three numbers -/
def WfS (n : Nat) (vs : List V) : Prop := ∃ s0 s1 s2 : Int, vs = [.int s0, .int s1, .int s2] ∧ 0 ≤ s1 ∧ s1.natAbs < 2 ^ 220 ∧ 0 ≤ s2 ∧ s2 ≤ n
abbrev gx (K : PySem.W.Frag) : Gx := ⟨K, WfS, fun n m vs h ⟨a, b, c, e, h1, h2, h3, h4⟩ => ⟨a, b, c, e, h1, h2, h3, by omega⟩⟩
def dI (ns : List Int) : D := .lst (ns.map D.int)
def dTI (ns : List Int) : D := .tup (ns.map D.int)
def dMv (m : Mv) : D := .tup [.int (m.1 : Int), .int m.2.1, .int m.2.2]
def dMs (ms : List Mv) : D := .lst (ms.map dMv)
/-- values that Python calls of a built-in type -/
def D.tv (d : D) : Bool := d.tyB.isSome
def isW : D → Bool
  | .int _ => true
  | _ => false
section
variable {po : D → Prop} {xx : Exn → Prop} {κ : PK} {ρ : Env}
abbrev N_is_whole : List Str := ["value"]
def t_is_whole (K : PySem.W.Frag) : TS :=
  (tRet (tAndV (tCB (rIsi K) (tCons (tVar 0) (tCons (tC (.ty "int")) tNil))) (tNotV (tCB (rIsi K) (tCons (tVar 0) (tCons (tC (.ty "bool")) tNil))))))
def p_is_whole : PS' :=
  (kRet (pAndV (pCB pIsi (pCons (pV 0) (pCons (pC (.ty "int")) pNil))) (pNotV (pCB pIsi (pCons (pV 0) (pCons (pC (.ty "bool")) pNil))))))
def G_is_whole : GD := Gof0 p_is_whole false 0
def sp_is_whole (K : PySem.W.Frag) : Sp := spD (gx K) 1 false .f 0 G_is_whole
theorem ss_is_whole {K : PySem.W.Frag} : SS (gx K) W0 .f 0 (t_is_whole K) p_is_whole := by
  unfold t_is_whole p_is_whole
  exact SS.mono ((ss_retF (sx_andV ((sx_cb (sa_ct (sx_v).et (sa_ct (sx_ty).ft sa_nil)) oa_isi)).ft (sx_notV ((sx_cb (sa_ct (sx_v).et (sa_ct (sx_ty).ft sa_nil)) oa_isi)).ft)))) (by decide +kernel)
theorem ln_is_whole {K : PySem.W.Frag} {vs : List V} {H : Hp} {Q : VK} {E : XK} (h : sp_is_whole K vs H Q E) : vs.length = (["value"] : List Str).length := spD_len h
theorem rd_is_whole {K : PySem.W.Frag} {vs : List V} {H : Hp} {Q : VK} {E : XK} (h : sp_is_whole K vs H Q E) : t_is_whole K (fin Q) (L2.start N_is_whole vs) H := rd_def0 ss_is_whole (.inr rfl) (by decide +kernel) h
theorem tv_cases {d : D} (h : d.tv = true) : d = .non ∨ (∃ b, d = .bl b) ∨ (∃ i, d = .int i) ∨ (∃ s, d = .str s) ∨ (∃ ds, d = .lst ds) ∨ (∃ ds, d = .tup ds) ∨ (∃ kv, d = .dk kv) ∨ ∃ ns, d = .scr ns := by
  cases d <;> simp [D.tv, D.tyB, D.tyN] at h ⊢
theorem g_is_whole {d : D} (hd : d.tv = true) (h : po (.bl (isW d))) : G_is_whole [d] po xx := by
  rcases tv_cases hd with rfl | ⟨b, rfl⟩ | ⟨i, rfl⟩ | ⟨s, rfl⟩ | ⟨ds, rfl⟩ | ⟨ds, rfl⟩ | ⟨kv, rfl⟩ | ⟨ns, rfl⟩
  · exact ⟨"NoneType", false, rfl, by decide +kernel, h⟩
  · exact ⟨"bool", true, rfl, by decide +kernel, "bool", true, rfl, by decide +kernel, h⟩
  · exact ⟨"int", true, rfl, by decide +kernel, "int", false, rfl, by decide +kernel, h⟩
  · exact ⟨"str", false, rfl, by decide +kernel, h⟩
  · exact ⟨"list", false, rfl, by decide +kernel, h⟩
  · exact ⟨"tuple", false, rfl, by decide +kernel, h⟩
  · exact ⟨"dict", false, rfl, by decide +kernel, h⟩
  · exact ⟨"list", false, rfl, by decide +kernel, h⟩
abbrev N_has_slider_length : List Str := ["value"]
def t_has_slider_length (K : PySem.W.Frag) : TS :=
  (tRet (tAndV (tOp rIsTyp (tCB (L2.rTyp K) (tCons (tVar 0) tNil)) (tC (.ty "list"))) (tChain rLeI rLeI (tC (.int 2)) (tCB (Evl.rLenS K) (tCons (tVar 0) tNil)) (tC (.int 8)))))
def p_has_slider_length : PS' :=
  (kRet (pAndV (pOp (pIsT false) (pCB pTyp (pCons (pV 0) pNil)) (pC (.ty "list"))) (pChain pLe pLe (pC (.int 2)) (pCB pLen (pCons (pV 0) pNil)) (pC (.int 8)))))
def G_has_slider_length : GD := Gof0 p_has_slider_length false 0
def sp_has_slider_length (K : PySem.W.Frag) : Sp := spD (gx K) 1 false .f 0 G_has_slider_length
theorem ss_has_slider_length {K : PySem.W.Frag} : SS (gx K) W0 .f 0 (t_has_slider_length K) p_has_slider_length := by
  unfold t_has_slider_length p_has_slider_length
  exact SS.mono ((ss_retF (sx_andV ((sx_op ((sx_cb (sa_ct (sx_v).et sa_nil) oa_typ)).ft (sx_ty).ft os_isT)).ft (sx_chain (sx_int).ft ((sx_cb (sa_ct (sx_v).et sa_nil) oa_len)).ft (sx_int).ft os_le os_le)))) (by decide +kernel)
theorem ln_has_slider_length {K : PySem.W.Frag} {vs : List V} {H : Hp} {Q : VK} {E : XK} (h : sp_has_slider_length K vs H Q E) : vs.length = (["value"] : List Str).length := spD_len h
theorem rd_has_slider_length {K : PySem.W.Frag} {vs : List V} {H : Hp} {Q : VK} {E : XK} (h : sp_has_slider_length K vs H Q E) : t_has_slider_length K (fin Q) (L2.start N_has_slider_length vs) H := rd_def0 ss_has_slider_length (.inr rfl) (by decide +kernel) h
def lenB (n : Nat) : Bool := decide ((2 : Int) ≤ (n : Int)) && decide ((n : Int) ≤ 8)
def hasLen : D → Bool
  | .lst ds => lenB ds.length
  | _ => false
theorem b_and {a b : Bool} {q : Bool → Prop} (h : q (a && b)) : if a = true then q b else q false := by
  cases a
  · exact h
  · exact h
theorem g_has_slider_length {d : D} (hd : d.tv = true) (hs : ∀ ns, d ≠ .scr ns) (h : po (.bl (hasLen d))) : G_has_slider_length [d] po xx := by
  rcases tv_cases hd with rfl | ⟨b, rfl⟩ | ⟨i, rfl⟩ | ⟨s, rfl⟩ | ⟨ds, rfl⟩ | ⟨ds, rfl⟩ | ⟨kv, rfl⟩ | ⟨ns, rfl⟩
  · exact ⟨"NoneType", rfl, h⟩
  · exact ⟨"bool", rfl, h⟩
  · exact ⟨"int", rfl, h⟩
  · exact ⟨"str", rfl, h⟩
  · refine ⟨"list", rfl, ?_⟩
    exact ⟨ds.length, rfl, b_and (q := fun b => po (.bl b)) h⟩
  · exact ⟨"tuple", rfl, h⟩
  · exact ⟨"dict", rfl, h⟩
  · exact absurd rfl (hs ns)
abbrev N_are_weights : List Str := ["value", "weight"]
def t_are_weights (K : PySem.W.Frag) : TS :=
  (tRet (tAndV (tCallS (sp_has_slider_length K) (WE W0) (tCons (tVar 0) tNil)) (tCB (rAll K) (tCons (tLc (iList K (tVar 0)) (gName 1) tYes (tAndV (tCallS (sp_is_whole K) (WE W0) (tCons (tVar 1) tNil)) (tOp rGeI (tVar 1) (tC (.int 1)))) [1]) tNil))))
def p_are_weights : PS' :=
  (kRet (pAndV (pCall 1 G_has_slider_length (pCons (pV 0) pNil)) (pCB pAll (pCons (pLc (pwL (pV 0)) (gvN 1) qYes (pAndV (pCall 1 G_is_whole (pCons (pV 1) pNil)) (pOp pGe (pV 1) (pC (.int 1)))) [1]) pNil))))
def G_are_weights : GD := Gof0 p_are_weights false 1
def sp_are_weights (K : PySem.W.Frag) : Sp := spD (gx K) 1 false .f 0 G_are_weights
theorem ss_are_weights {K : PySem.W.Frag} : SS (gx K) W0 .f 0 (t_are_weights K) p_are_weights := by
  unfold t_are_weights p_are_weights
  exact SS.mono ((ss_retF (sx_andV ((sx_callE (.inr rfl) (sa_ce sx_v sa_nil))).ft (sx_cb (sa_ct ((sx_lc (vs := [1]) (sw_list (md := .b) (.inr rfl) (sx_v).eb) sg_name (by decide) sb_yes ((sx_andV ((sx_callE (.inr rfl) (sa_ce sx_v sa_nil))).ft (sx_op (sx_v).et (sx_int).ft os_ge))).fe)).ft sa_nil) oa_all)))) (by decide +kernel)
theorem ln_are_weights {K : PySem.W.Frag} {vs : List V} {H : Hp} {Q : VK} {E : XK} (h : sp_are_weights K vs H Q E) : vs.length = (["value"] : List Str).length := spD_len h
theorem rd_are_weights {K : PySem.W.Frag} {vs : List V} {H : Hp} {Q : VK} {E : XK} (h : sp_are_weights K vs H Q E) : t_are_weights K (fin Q) (L2.start N_are_weights vs) H := rd_def0 ss_are_weights (.inr rfl) (by decide +kernel) h
def wB : D → Bool
  | .int i => decide (1 ≤ i)
  | _ => false
def areWd : D → Bool
  | .lst ds => lenB ds.length && ds.all wB
  | _ => false
theorem areWd_len {d : D} (h : hasLen d = false) : areWd d = false := by
  cases d <;> simp [areWd, hasLen] at h ⊢
  exact fun z => absurd z (by simp [h])
theorem lenB_le {n : Nat} (h : lenB n = true) : 2 ≤ n ∧ n ≤ 8 := by
  unfold lenB at h
  rw [Bool.and_eq_true, decide_eq_true_eq, decide_eq_true_eq] at h
  omega
theorem all_map {α : Type} (f : α → Bool) (l : List α) : (l.map f).all id = l.all f := by induction l <;> simp_all
theorem g_are_weights {d : D} (hd : d.tv = true) (hs : ∀ ns, d ≠ .scr ns) (hi : ∀ ds, d = .lst ds → ∀ x ∈ ds, x.tv = true) (h : po (.bl (areWd d))) : G_are_weights [d] po xx := by
  refine ⟨rfl, g_has_slider_length hd hs ?_⟩
  cases hl : hasLen d with
  | false =>
    show po (.bl false)
    rw [← areWd_len hl]
    exact h
  | true =>
    cases d with
    | lst ds =>
      have hb : lenB ds.length = true := hl
      refine lc_map (ds := ds) (fun x => .bl (wB x)) rfl (fun q h => h) (by have := lenB_le hb; omega) (fun x hx => ⟨_, rfl, fun q hq => ⟨rfl, g_is_whole (hi ds rfl x hx) ?_⟩⟩) ?_
      · cases x with
        | int i => exact hq
        | _ => exact hq
      · refine ⟨ds.map wB, by rw [List.map_map]; rfl, ?_⟩
        rw [all_map]
        have e : areWd (.lst ds) = ds.all wB := by
          show (lenB ds.length && _) = _
          rw [hb]; rfl
        rw [← e]
        exact h
    | _ => simp [hasLen] at hl
abbrev N_common_divisor : List Str := ["numbers", "common", "number"]
def t_common_divisor (K : PySem.W.Frag) : TS :=
  (tSeq (tAsg (tC (.int 0)) (gName 1))
    (tSeq (tFor (iList K (tVar 0)) (gName 2) (tAsg (tCB rGcd (tCons (tVar 1) (tCons (tVar 2) tNil))) (gName 1)))
    (tRet (tVar 1))))
def p_common_divisor : PS' :=
  (kSeq (kAsgD 1 (pC (.int 0)))
    (kSeq (kFor (pwL (pV 0)) (gvN 2) (kAsgD 1 (pCB pGcd (pCons (pV 1) (pCons (pV 2) pNil)))))
    (kRetO 1)))
def G_common_divisor : GD := Gof0 p_common_divisor false 2
def sp_common_divisor (K : PySem.W.Frag) : Sp := spD (gx K) 1 false .f 0 G_common_divisor
theorem ss_common_divisor {K : PySem.W.Frag} : SS (gx K) W0 .f 0 (t_common_divisor K) p_common_divisor := by
  unfold t_common_divisor p_common_divisor
  exact SS.mono ((ss_seq (ss_asgD (sx_int).fe)
    (ss_seq (ss_for (sw_list (md := .e) (.inl rfl) sx_v) sg_name (ss_asgD ((sx_cb (sa_ct (sx_v).et (sa_ct (sx_v).et sa_nil)) oa_gcd)).fe))
    (ss_retO (i := 1))))) (by decide +kernel)
theorem ln_common_divisor {K : PySem.W.Frag} {vs : List V} {H : Hp} {Q : VK} {E : XK} (h : sp_common_divisor K vs H Q E) : vs.length = (["numbers"] : List Str).length := spD_len h
theorem rd_common_divisor {K : PySem.W.Frag} {vs : List V} {H : Hp} {Q : VK} {E : XK} (h : sp_common_divisor K vs H Q E) : t_common_divisor K (fin Q) (L2.start N_common_divisor vs) H := rd_def0 ss_common_divisor (.inr rfl) (by decide +kernel) h
theorem gcdL_take {ns : List Int} {i : Nat} {x : Int} (h : ns[i]? = some x) : gcdL (ns.take (i + 1)) = ((Int.gcd (gcdL (ns.take i)) x : Nat) : Int) := by
  unfold gcdL
  rw [List.take_add_one, h, List.foldl_append]
  rfl
theorem map_at {α β : Type} {f : α → β} {l : List α} {i : Nat} {y : β} (h : (l.map f)[i]? = some y) : ∃ x, l[i]? = some x ∧ y = f x := by
  rw [List.getElem?_map] at h
  cases e : l[i]? with
  | none => rw [e] at h; cases h
  | some x => rw [e] at h; exact ⟨x, rfl, (Option.some.inj h).symm⟩
theorem g_common_divisor {ns : List Int} (hl : ns.length ≤ 100000) (h : po (.int (gcdL ns))) : G_common_divisor [dI ns] po xx := by
  refine for_ind (ds := ns.map D.int) (fun q h => h) (by rw [List.length_map]; exact hl) (fun i ρ => ∃ z, ρ = [some (.d (dI ns)), some (.d (.int (gcdL (ns.take i)))), z]) ⟨none, rfl⟩ ?_ ?_
  · rintro i d ρ hi ⟨z, rfl⟩
    obtain ⟨y, hy, rfl⟩ := map_at hi
    refine ⟨some (.d (.int y)), ?_⟩
    rw [gcdL_take hy]
    rfl
  · rintro ρ ⟨z, rfl⟩
    refine ⟨rfl, ?_⟩
    rw [List.length_map, List.take_length]
    exact h
abbrev N_is_row : List Str := ["value"]
def t_is_row (K : PySem.W.Frag) : TS :=
  (tRet (tAndV (tCallS (sp_are_weights K) (WE W0) (tCons (tVar 0) tNil)) (tOp rEq (tCallS (sp_common_divisor K) (WE W0) (tCons (tVar 0) tNil)) (tC (.int 1)))))
def p_is_row : PS' :=
  (kRet (pAndV (pCall 1 G_are_weights (pCons (pV 0) pNil)) (pOp (pEq false) (pCall 1 G_common_divisor (pCons (pV 0) pNil)) (pC (.int 1)))))
def G_is_row : GD := Gof0 p_is_row false 0
def sp_is_row (K : PySem.W.Frag) : Sp := spD (gx K) 1 false .f 0 G_is_row
theorem ss_is_row {K : PySem.W.Frag} : SS (gx K) W0 .f 0 (t_is_row K) p_is_row := by
  unfold t_is_row p_is_row
  exact SS.mono ((ss_retF (sx_andV ((sx_callE (.inr rfl) (sa_ce sx_v sa_nil))).ft (sx_op ((sx_callE (.inr rfl) (sa_ce sx_v sa_nil))).ft (sx_int).ft os_eq)))) (by decide +kernel)
theorem ln_is_row {K : PySem.W.Frag} {vs : List V} {H : Hp} {Q : VK} {E : XK} (h : sp_is_row K vs H Q E) : vs.length = (["value"] : List Str).length := spD_len h
theorem rd_is_row {K : PySem.W.Frag} {vs : List V} {H : Hp} {Q : VK} {E : XK} (h : sp_is_row K vs H Q E) : t_is_row K (fin Q) (L2.start N_is_row vs) H := rd_def0 ss_is_row (.inr rfl) (by decide +kernel) h
def isRowD (d : D) : Bool := match d with
  | .lst ds => areWd d && decide (gcdL (ds.filterMap fun | .int i => some i | _ => none) = 1)
  | _ => false
theorem areW_ints : ∀ {ds : List D}, ds.all wB = true → ∃ ns : List Int, ds = ns.map D.int ∧ ∀ x ∈ ns, 1 ≤ x
  | [], _ => ⟨[], rfl, fun _ h => by cases h⟩
  | d :: ds, h => by
    rw [List.all_cons, Bool.and_eq_true] at h
    obtain ⟨ns, e, hp⟩ := areW_ints h.2
    cases d with
    | int i =>
      refine ⟨i :: ns, by rw [e]; rfl, fun x hx => ?_⟩
      rcases List.mem_cons.mp hx with z | z
      · rw [z]; exact of_decide_eq_true h.1
      · exact hp x z
    | _ => simp [wB] at h
theorem ints_back (ns : List Int) : ((ns.map D.int).filterMap fun | .int i => some i | _ => none) = ns := by
  induction ns with
  | nil => rfl
  | cons x r ih => simp [ih]
theorem g_is_row {d : D} (hd : d.tv = true) (hs : ∀ ns, d ≠ .scr ns) (hi : ∀ ds, d = .lst ds → ∀ x ∈ ds, x.tv = true) (h : po (.bl (isRowD d))) : G_is_row [d] po xx := by
  refine ⟨rfl, g_are_weights hd hs hi ?_⟩
  cases hw : areWd d with
  | false =>
    show po (.bl false)
    have e : isRowD d = false := by cases d <;> simp [isRowD, hw]
    rw [← e]; exact h
  | true =>
    cases d with
    | lst ds =>
      have hw' : (lenB ds.length && ds.all wB) = true := hw
      rw [Bool.and_eq_true] at hw'
      obtain ⟨ns, rfl, hp⟩ := areW_ints hw'.2
      have := lenB_le hw'.1
      rw [List.length_map] at this
      refine ⟨rfl, g_common_divisor (by omega) ⟨rfl, ?_⟩⟩
      have e : isRowD (.lst (ns.map D.int)) = decide (V.int (gcdL ns) = V.int 1) := by
        show (areWd _ && decide (gcdL _ = 1)) = _
        rw [hw, ints_back, Bool.true_and, dec_int, Bool.beq_eq_decide_eq]
      show po (.bl (decide (V.int (gcdL ns) = V.int 1)))
      rw [← e]; exact h
    | _ => simp [areWd] at hw
theorem tv_ints {ns : List Int} : ∀ ds, dI ns = .lst ds → ∀ x ∈ ds, x.tv = true := fun ds e x hx => by
  injection e with e
  subst e
  obtain ⟨i, _, rfl⟩ := List.mem_map.mp hx
  rfl
theorem isRowD_row {ns : List Int} (h : IsRow ns) : isRowD (dI ns) = true := by
  show (areWd _ && decide (gcdL _ = 1)) = _
  rw [ints_back, decide_eq_true h.one, Bool.and_true]
  show (lenB _ && _) = true
  rw [Bool.and_eq_true]
  constructor
  · unfold lenB
    have h1 := h.lo
    have h2 := h.hi
    rw [List.length_map, Bool.and_eq_true, decide_eq_true_eq, decide_eq_true_eq]
    omega
  · rw [List.all_eq_true]
    intro x hx
    obtain ⟨i, hi, rfl⟩ := List.mem_map.mp hx
    exact decide_eq_true (h.pos i hi)
theorem g_row {ns : List Int} (hr : IsRow ns) (h : po (.bl true)) : G_is_row [dI ns] po xx := g_is_row rfl (fun _ e => by cases e) tv_ints (by rw [isRowD_row hr]; exact h)
abbrev N_check_row : List Str := ["row"]
def t_check_row (K : PySem.W.Frag) (W : XW) : TS :=
  (tIfS (tNot (tB (tCallS (sp_is_row K) (WE W) (tCons (tVar 0) tNil)))) (tRaise K W "InvalidRowError") tNext)
def p_check_row : PS' :=
  (kIf (qNot (qTest (pCall 1 G_is_row (pCons (pV 0) pNil)))) (kRaise "InvalidRowError") kNext)
def G_check_row : GD := Gof p_check_row false 0
def sp_check_row (K : PySem.W.Frag) : Sp := spD (gx K) 1 false .f 0 G_check_row
theorem ss_check_row {K : PySem.W.Frag} {W : XW} : SS (gx K) W .f 0 (t_check_row K W) p_check_row := by
  unfold t_check_row p_check_row
  exact SS.mono ((ss_if (sb_not (sb_B (sx_callE (.inr rfl) (sa_ce sx_v sa_nil)))) ss_raise ss_next)) (by decide +kernel)
theorem ln_check_row {K : PySem.W.Frag} {vs : List V} {H : Hp} {Q : VK} {E : XK} (h : sp_check_row K vs H Q E) : vs.length = (["row"] : List Str).length := spD_len h
theorem rd_check_row {K : PySem.W.Frag} {vs : List V} {H : Hp} {Q : VK} {E : XK} (h : sp_check_row K vs H Q E) : t_check_row K (fun cls dd _ H => E cls dd H) (fin Q) (L2.start N_check_row vs) H := rd_def ss_check_row (.inr rfl) (by decide +kernel) h
theorem g_check_row {ns : List Int} (hr : IsRow ns) (h : po .non) : G_check_row [dI ns] po xx := ⟨rfl, g_row hr h⟩
abbrev N_reduced : List Str := ["numbers", "common", "number"]
def t_reduced (K : PySem.W.Frag) : TS :=
  (tSeq (tAsg (tCallS (sp_common_divisor K) (WE W0) (tCons (tVar 0) tNil)) (gName 1))
    (tRet (tLc (iList K (tVar 0)) (gName 2) tYes (tOp rDivI (tVar 2) (tVar 1)) [2])))
def p_reduced : PS' :=
  (kSeq (kAsgD 1 (pCall 1 G_common_divisor (pCons (pV 0) pNil)))
    (kRet (pLc (pwL (pV 0)) (gvN 2) qYes (pOp pDiv (pV 2) (pV 1)) [2])))
def G_reduced : GD := Gof0 p_reduced false 2
def sp_reduced (K : PySem.W.Frag) : Sp := spD (gx K) 1 false .f 0 G_reduced
theorem ss_reduced {K : PySem.W.Frag} : SS (gx K) W0 .f 0 (t_reduced K) p_reduced := by
  unfold t_reduced p_reduced
  exact SS.mono ((ss_seq (ss_asgD ((sx_callE (.inr rfl) (sa_ce sx_v sa_nil))).fe)
    (ss_retF (sx_lc (vs := [2]) (sw_list (md := .b) (.inr rfl) (sx_v).eb) sg_name (by decide) sb_yes ((sx_op (sx_v).et (sx_v).et os_div)).fe)))) (by decide +kernel)
theorem ln_reduced {K : PySem.W.Frag} {vs : List V} {H : Hp} {Q : VK} {E : XK} (h : sp_reduced K vs H Q E) : vs.length = (["numbers"] : List Str).length := spD_len h
theorem rd_reduced {K : PySem.W.Frag} {vs : List V} {H : Hp} {Q : VK} {E : XK} (h : sp_reduced K vs H Q E) : t_reduced K (fin Q) (L2.start N_reduced vs) H := rd_def0 ss_reduced (.inr rfl) (by decide +kernel) h
theorem g_reduced {ns : List Int} {k : Nat} (hl : ns.length ≤ 80000) (hg : 0 < gcdL ns) (hz : (gcdL ns).natAbs < 2 ^ k) (h0 : 0 < k) (h9 : k ≤ 9000) (h : po (dI (red ns))) : G_reduced [dI ns] po xx := by
  refine ⟨rfl, g_common_divisor (by omega) ?_⟩
  refine lc_map (ds := ns.map D.int) (fun d => match d with | .int i => .int (i / gcdL ns) | d => d) rfl (fun q h => h) (by rw [List.length_map]; omega) (fun d hd => ?_) ?_
  · obtain ⟨i, hi, rfl⟩ := List.mem_map.mp hd
    exact ⟨_, rfl, fun q hq => ⟨wide_div hg hz h0 h9, hq⟩⟩
  · rw [List.map_map]
    have e : dI (red ns) = .lst (ns.map ((fun d : D => match d with | .int i => .int (i / gcdL ns) | d => d) ∘ D.int)) := by
      unfold dI red
      rw [List.map_map]
      rfl
    rw [← e]
    exact h
abbrev N_lowest_terms : List Str := ["top", "bottom", "common"]
def t_lowest_terms (K : PySem.W.Frag) : TS :=
  (tSeq (tAsg (tCB rGcd (tCons (tVar 0) (tCons (tVar 1) tNil))) (gName 2))
    (tRet (tTup (tCons (tOp rDivI (tVar 0) (tVar 2)) (tCons (tOp rDivI (tVar 1) (tVar 2)) tNil)))))
def p_lowest_terms : PS' :=
  (kSeq (kAsgD 2 (pCB pGcd (pCons (pV 0) (pCons (pV 1) pNil))))
    (kRet (pTup (pCons (pOp pDiv (pV 0) (pV 2)) (pCons (pOp pDiv (pV 1) (pV 2)) pNil)))))
def G_lowest_terms : GD := Gof0 p_lowest_terms false 1
def sp_lowest_terms (K : PySem.W.Frag) : Sp := spD (gx K) 2 false .e 0 G_lowest_terms
theorem ss_lowest_terms {K : PySem.W.Frag} : SS (gx K) W0 .e 0 (t_lowest_terms K) p_lowest_terms := by
  unfold t_lowest_terms p_lowest_terms
  exact SS.mono ((ss_seq (ss_asgD ((sx_cb (sa_ct (sx_v).et (sa_ct (sx_v).et sa_nil)) oa_gcd)).fe)
    (ss_retE (sx_tup (sa_ce ((sx_op (sx_v).et (sx_v).et os_div)).fe (sa_ce ((sx_op (sx_v).et (sx_v).et os_div)).fe sa_nil)))))) (by decide +kernel)
theorem ln_lowest_terms {K : PySem.W.Frag} {vs : List V} {H : Hp} {Q : VK} {E : XK} (h : sp_lowest_terms K vs H Q E) : vs.length = (["top", "bottom"] : List Str).length := spD_len h
theorem rd_lowest_terms {K : PySem.W.Frag} {vs : List V} {H : Hp} {Q : VK} {E : XK} (h : sp_lowest_terms K vs H Q E) : t_lowest_terms K (fin Q) (L2.start N_lowest_terms vs) H := rd_def0 ss_lowest_terms (.inl rfl) (by decide +kernel) h
theorem g_lowest_terms {a b : Int} {k : Nat} (hb : 0 < b) (hz : b.natAbs < 2 ^ k) (h0 : 0 < k) (h9 : k ≤ 9000) (h : po (.tup [.int (a / ((Int.gcd a b : Nat) : Int)), .int (b / ((Int.gcd a b : Nat) : Int))])) : G_lowest_terms [.int a, .int b] po xx := by
  have hg : 0 < ((Int.gcd a b : Nat) : Int) := gcd_pos_of hb
  have hle : ((Int.gcd a b : Nat) : Int) ≤ b := Int.le_of_dvd hb (Int.gcd_dvd_right a b)
  have hw : ((Int.gcd a b : Nat) : Int).natAbs < 2 ^ k := by omega
  exact ⟨wide_div hg hw h0 h9, wide_div hg hw h0 h9, by show 2 ≤ 100000; decide, h⟩
end
end PD

/-! the program's moves -/
namespace PD
open PySem PySem.Spec PyProof.Rows L2 Evl SL
section
variable {po : D → Prop} {xx : Exn → Prop} {κ : PK} {ρ : Env}
abbrev N_is_move : List Str := ["value", "slider", "top", "bottom", "part"]
def t_is_move (K : PySem.W.Frag) : TS :=
  (tSeq (tIfS (tOr (tTest (tOp rNotTyp (tCB (L2.rTyp K) (tCons (tVar 0) tNil)) (tC (.ty "tuple")))) (tOr (tTest (tOp rNe (tCB (Evl.rLenS K) (tCons (tVar 0) tNil)) (tC (.int 3)))) (tNot (tB (tCB (rAll K) (tCons (tLc (iTup K (tVar 0)) (gName 4) tYes (tCallS (sp_is_whole K) (WE W0) (tCons (tVar 4) tNil)) [4]) tNil)))))) (tRet (tC (.bl false))) tNext)
    (tSeq (tAsg (tVar 0) (gTup K 3 (gCons (gName 1) (gCons (gName 2) (gCons (gName 3) gNil)))))
    (tRet (tAndV (tChain rLeI rLtI (tC (.int 0)) (tVar 1) (tC (.int 8))) (tAndV (tChain rLeI rLtI (tC (.int 1)) (tVar 2) (tVar 3)) (tOp rEq (tCB rGcd (tCons (tVar 2) (tCons (tVar 3) tNil))) (tC (.int 1))))))))
def p_is_move : PS' :=
  (kSeq (kIf (qOr (qTest (pOp (pIsT true) (pCB pTyp (pCons (pV 0) pNil)) (pC (.ty "tuple")))) (qOr (qTest (pOp (pEq true) (pCB pLen (pCons (pV 0) pNil)) (pC (.int 3)))) (qNot (qTest (pCB pAll (pCons (pLc (pwT (pV 0)) (gvN 4) qYes (pCall 1 G_is_whole (pCons (pV 4) pNil)) [4]) pNil)))))) (kRet (pC (.bl false))) kNext)
    (kSeq (kAsgG (gvT 3 (gvCons 1 (gvCons 2 (gvCons 3 gvNil)))) (pV 0))
    (kRet (pAndV (pChain pLe pLt (pC (.int 0)) (pV 1) (pC (.int 8))) (pAndV (pChain pLe pLt (pC (.int 1)) (pV 2) (pV 3)) (pOp (pEq false) (pCB pGcd (pCons (pV 2) (pCons (pV 3) pNil))) (pC (.int 1))))))))
def G_is_move : GD := Gof0 p_is_move false 4
def sp_is_move (K : PySem.W.Frag) : Sp := spD (gx K) 1 false .f 0 G_is_move
theorem ss_is_move {K : PySem.W.Frag} : SS (gx K) W0 .f 0 (t_is_move K) p_is_move := by
  unfold t_is_move p_is_move
  exact SS.mono ((ss_seq (ss_if (sb_or (sb_test (sx_op ((sx_cb (sa_ct (sx_v).et sa_nil) oa_typ)).ft (sx_ty).ft os_notT)) (sb_or (sb_test (sx_op ((sx_cb (sa_ct (sx_v).et sa_nil) oa_len)).ft (sx_int).ft os_ne)) (sb_not (sb_B (sx_cb (sa_ct ((sx_lc (vs := [4]) (sw_tup (md := .b) (.inr rfl) (sx_v).eb) sg_name (by decide) sb_yes ((sx_callE (.inr rfl) (sa_ce sx_v sa_nil))).fe)).ft sa_nil) oa_all))))) (ss_retF sx_bl) ss_next)
    (ss_seq (ss_asgG sx_v (sg_tup (sgs_cons (sgs_cons (sgs_cons sgs_nil)))))
    (ss_retF (sx_andV ((sx_chain (sx_int).ft (sx_v).et (sx_int).ft os_le os_lt)).ft (sx_andV ((sx_chain (sx_int).ft (sx_v).et (sx_v).et os_le os_lt)).ft (sx_op ((sx_cb (sa_ct (sx_v).et (sa_ct (sx_v).et sa_nil)) oa_gcd)).ft (sx_int).ft os_eq))))))) (by decide +kernel)
theorem ln_is_move {K : PySem.W.Frag} {vs : List V} {H : Hp} {Q : VK} {E : XK} (h : sp_is_move K vs H Q E) : vs.length = (["value"] : List Str).length := spD_len h
theorem rd_is_move {K : PySem.W.Frag} {vs : List V} {H : Hp} {Q : VK} {E : XK} (h : sp_is_move K vs H Q E) : t_is_move K (fin Q) (L2.start N_is_move vs) H := rd_def0 ss_is_move (.inr rfl) (by decide +kernel) h
theorem tri {a b c : Bool} {q : Bool → Prop} (h : q (a && (b && c))) : if a = true then if b = true then q c else q false else q false := by
  cases a
  · exact h
  · cases b
    · exact h
    · exact h
theorem lt_chain {a b c d e : Int} {q : Bool → Prop} (h1 : a ≤ b) (h2 : b < c) (h : q true) : (if decide (a ≤ b) = true then q (decide (b < c)) else q false) := by
  rw [decide_eq_true h1, decide_eq_true h2]
  exact h
theorem g_is_move {m : Mv} {n k : Nat} (hO : OkM n k m) (hn : n ≤ 8) (h : po (.bl true)) : G_is_move [dMv m] po xx := by
  refine ⟨"tuple", rfl, ?_⟩
  refine ⟨3, rfl, ⟨rfl, ?_⟩⟩
  refine lc_map (ds := [.int (m.1 : Int), .int m.2.1, .int m.2.2]) (fun _ => .bl true) rfl (fun q h => h) (by show 3 ≤ 90000; decide) (fun x hx => ⟨_, rfl, fun q hq => ⟨rfl, g_is_whole ?_ ?_⟩⟩) ?_
  · rcases List.mem_cons.mp hx with z | hx
    · rw [z]; rfl
    rcases List.mem_cons.mp hx with z | hx
    · rw [z]; rfl
    rw [List.mem_singleton.mp hx]; rfl
  · have : isW x = true := by
      rcases List.mem_cons.mp hx with z | hx
      · rw [z]; rfl
      rcases List.mem_cons.mp hx with z | hx
      · rw [z]; rfl
      rw [List.mem_singleton.mp hx]; rfl
    rw [this]; exact hq
  · refine ⟨[true, true, true], rfl, ?_⟩
    have e1 : decide ((0 : Int) ≤ (m.1 : Int)) = true := decide_eq_true (by omega)
    have e2 : decide ((m.1 : Int) < 8) = true := decide_eq_true (by have := hO.s; omega)
    have e3 : decide ((1 : Int) ≤ m.2.1) = true := decide_eq_true hO.t
    have e4 : decide (m.2.1 < m.2.2) = true := decide_eq_true hO.tb
    have e5 : decide (V.int ((Nat.gcd m.2.1.natAbs m.2.2.natAbs : Nat) : Int) = V.int 1) = true := decide_eq_true (by rw [show Nat.gcd m.2.1.natAbs m.2.2.natAbs = 1 from hO.g]; rfl)
    refine ite_t e2 (ite_t e3 (ite_t e4 ?_))
    refine ⟨rfl, ?_⟩
    show po (.bl (decide (V.int ((Nat.gcd m.2.1.natAbs m.2.2.natAbs : Nat) : Int) = V.int 1)))
    rw [e5]
    exact h
abbrev N_is_moves : List Str := ["value", "move"]
def t_is_moves (K : PySem.W.Frag) : TS :=
  (tRet (tAndV (tOp rIsTyp (tCB (L2.rTyp K) (tCons (tVar 0) tNil)) (tC (.ty "list"))) (tAndV (tOp rLeI (tCB (Evl.rLenS K) (tCons (tVar 0) tNil)) (tC (.int 40))) (tCB (rAll K) (tCons (tLc (iList K (tVar 0)) (gName 1) tYes (tCallS (sp_is_move K) (WE W0) (tCons (tVar 1) tNil)) [1]) tNil)))))
def p_is_moves : PS' :=
  (kRet (pAndV (pOp (pIsT false) (pCB pTyp (pCons (pV 0) pNil)) (pC (.ty "list"))) (pAndV (pOp pLe (pCB pLen (pCons (pV 0) pNil)) (pC (.int 40))) (pCB pAll (pCons (pLc (pwL (pV 0)) (gvN 1) qYes (pCall 1 G_is_move (pCons (pV 1) pNil)) [1]) pNil)))))
def G_is_moves : GD := Gof0 p_is_moves false 1
def sp_is_moves (K : PySem.W.Frag) : Sp := spD (gx K) 1 false .f 0 G_is_moves
theorem ss_is_moves {K : PySem.W.Frag} : SS (gx K) W0 .f 0 (t_is_moves K) p_is_moves := by
  unfold t_is_moves p_is_moves
  exact SS.mono ((ss_retF (sx_andV ((sx_op ((sx_cb (sa_ct (sx_v).et sa_nil) oa_typ)).ft (sx_ty).ft os_isT)).ft (sx_andV ((sx_op ((sx_cb (sa_ct (sx_v).et sa_nil) oa_len)).ft (sx_int).ft os_le)).ft (sx_cb (sa_ct ((sx_lc (vs := [1]) (sw_list (md := .b) (.inr rfl) (sx_v).eb) sg_name (by decide) sb_yes ((sx_callE (.inr rfl) (sa_ce sx_v sa_nil))).fe)).ft sa_nil) oa_all))))) (by decide +kernel)
theorem ln_is_moves {K : PySem.W.Frag} {vs : List V} {H : Hp} {Q : VK} {E : XK} (h : sp_is_moves K vs H Q E) : vs.length = (["value"] : List Str).length := spD_len h
theorem rd_is_moves {K : PySem.W.Frag} {vs : List V} {H : Hp} {Q : VK} {E : XK} (h : sp_is_moves K vs H Q E) : t_is_moves K (fin Q) (L2.start N_is_moves vs) H := rd_def0 ss_is_moves (.inr rfl) (by decide +kernel) h
theorem g_is_moves {ms : List Mv} {n k : Nat} (h40 : ms.length ≤ 40) (hO : ∀ m ∈ ms, OkM n k m) (hn : n ≤ 8) (h : po (.bl true)) : G_is_moves [dMs ms] po xx := by
  refine ⟨"list", rfl, ?_⟩
  refine ⟨(ms.map dMv).length, rfl, ite_t (decide_eq_true (by rw [List.length_map]; omega)) ?_⟩
  refine lc_map (ds := ms.map dMv) (fun _ => .bl true) rfl (fun q h => h) (by rw [List.length_map]; omega) (fun x hx => ?_) ?_
  · obtain ⟨m, hm, rfl⟩ := List.mem_map.mp hx
    exact ⟨_, rfl, fun q hq => ⟨rfl, g_is_move (hO m hm) hn hq⟩⟩
  · refine ⟨ms.map fun _ => true, by rw [List.map_map, List.map_map]; rfl, ?_⟩
    rw [all_map]
    show po (.bl (ms.all fun _ => true))
    rw [show (ms.all fun _ => true) = true by rw [List.all_eq_true]; intros; rfl]
    exact h
abbrev N_are_there : List Str := ["moves", "sliders", "move"]
def t_are_there (K : PySem.W.Frag) : TS :=
  (tRet (tCB (rAll K) (tCons (tLc (iList K (tVar 0)) (gName 2) tYes (tOp rLtI (tOp (rIxT K) (tVar 2) (tC (.int 0))) (tVar 1)) [2]) tNil)))
def p_are_there : PS' :=
  (kRet (pCB pAll (pCons (pLc (pwL (pV 0)) (gvN 2) qYes (pOp pLt (pOp pIxT (pV 2) (pC (.int 0))) (pV 1)) [2]) pNil)))
def G_are_there : GD := Gof0 p_are_there false 1
def sp_are_there (K : PySem.W.Frag) : Sp := spD (gx K) 2 false .f 0 G_are_there
theorem ss_are_there {K : PySem.W.Frag} : SS (gx K) W0 .f 0 (t_are_there K) p_are_there := by
  unfold t_are_there p_are_there
  exact SS.mono ((ss_retF (sx_cb (sa_ct ((sx_lc (vs := [2]) (sw_list (md := .b) (.inr rfl) (sx_v).eb) sg_name (by decide) sb_yes ((sx_op ((sx_ixT sx_v (sx_int).ft)).et (sx_v).et os_lt)).fe)).ft sa_nil) oa_all))) (by decide +kernel)
theorem ln_are_there {K : PySem.W.Frag} {vs : List V} {H : Hp} {Q : VK} {E : XK} (h : sp_are_there K vs H Q E) : vs.length = (["moves", "sliders"] : List Str).length := spD_len h
theorem rd_are_there {K : PySem.W.Frag} {vs : List V} {H : Hp} {Q : VK} {E : XK} (h : sp_are_there K vs H Q E) : t_are_there K (fin Q) (L2.start N_are_there vs) H := rd_def0 ss_are_there (.inr rfl) (by decide +kernel) h
theorem g_are_there {ms : List Mv} {n k : Nat} (h40 : ms.length ≤ 90000) (hO : ∀ m ∈ ms, OkM n k m) (h : po (.bl true)) : G_are_there [dMs ms, .int (n : Int)] po xx := by
  refine lc_map (ds := ms.map dMv) (fun _ => .bl true) rfl (fun q h => h) (by rw [List.length_map]; omega) (fun x hx => ?_) ?_
  · obtain ⟨m, hm, rfl⟩ := List.mem_map.mp hx
    refine ⟨_, rfl, fun q hq => ⟨_, rfl, ?_⟩⟩
    show q (.bl (decide ((m.1 : Int) < (n : Int))))
    rw [decide_eq_true (by have := (hO m hm).s; omega)]
    exact hq
  · refine ⟨ms.map fun _ => true, by rw [List.map_map, List.map_map]; rfl, ?_⟩
    rw [show ((ms.map fun _ => true).all id) = true by rw [List.all_eq_true]; intro x hx; obtain ⟨_, _, rfl⟩ := List.mem_map.mp hx; rfl]
    exact h
abbrev N_check_moves : List Str := ["moves", "sliders"]
def t_check_moves (K : PySem.W.Frag) (W : XW) : TS :=
  (tIfS (tOr (tNot (tB (tCallS (sp_is_moves K) (WE W) (tCons (tVar 0) tNil)))) (tNot (tB (tCallS (sp_are_there K) (WE W) (tCons (tVar 0) (tCons (tVar 1) tNil)))))) (tRaise K W "InvalidMovesError") tNext)
def p_check_moves : PS' :=
  (kIf (qOr (qNot (qTest (pCall 1 G_is_moves (pCons (pV 0) pNil)))) (qNot (qTest (pCall 2 G_are_there (pCons (pV 0) (pCons (pV 1) pNil)))))) (kRaise "InvalidMovesError") kNext)
def G_check_moves : GD := Gof p_check_moves false 0
def sp_check_moves (K : PySem.W.Frag) : Sp := spD (gx K) 2 false .f 0 G_check_moves
theorem ss_check_moves {K : PySem.W.Frag} {W : XW} : SS (gx K) W .f 0 (t_check_moves K W) p_check_moves := by
  unfold t_check_moves p_check_moves
  exact SS.mono ((ss_if (sb_or (sb_not (sb_B (sx_callE (.inr rfl) (sa_ce sx_v sa_nil)))) (sb_not (sb_B (sx_callE (.inr rfl) (sa_ce sx_v (sa_ce sx_v sa_nil)))))) ss_raise ss_next)) (by decide +kernel)
theorem ln_check_moves {K : PySem.W.Frag} {vs : List V} {H : Hp} {Q : VK} {E : XK} (h : sp_check_moves K vs H Q E) : vs.length = (["moves", "sliders"] : List Str).length := spD_len h
theorem rd_check_moves {K : PySem.W.Frag} {vs : List V} {H : Hp} {Q : VK} {E : XK} (h : sp_check_moves K vs H Q E) : t_check_moves K (fun cls dd _ H => E cls dd H) (fin Q) (L2.start N_check_moves vs) H := rd_def ss_check_moves (.inr rfl) (by decide +kernel) h
theorem g_check_moves {ms : List Mv} {n k : Nat} (h40 : ms.length ≤ 40) (hO : ∀ m ∈ ms, OkM n k m) (hn : n ≤ 8) (h : po .non) : G_check_moves [dMs ms, .int (n : Int)] po xx :=
  ⟨rfl, g_is_moves h40 hO hn ⟨rfl, g_are_there (by omega) hO h⟩⟩
abbrev N_weights_after : List Str := ["weights", "move", "slider", "top", "bottom", "others", "after", "weight"]
def t_weights_after (K : PySem.W.Frag) : TS :=
  (tSeq (tAsg (tVar 1) (gTup K 3 (gCons (gName 2) (gCons (gName 3) (gCons (gName 4) gNil)))))
    (tSeq (tAsg (tOp rSubI (tCB (rSum K) (tCons (tVar 0) tNil)) (tOp (rIxL K) (tVar 0) (tVar 2))) (gName 5))
    (tSeq (tAsg (tLc (iList K (tVar 0)) (gName 7) tYes (tOp rMulI (tVar 7) (tOp rSubI (tVar 4) (tVar 3))) [7]) (gName 6))
    (tSeq (tAsg (tOp rMulI (tVar 3) (tVar 5)) (gSub (tVar 6) (tVar 2) rSetL))
    (tRet (tVar 6))))))
def p_weights_after : PS' :=
  (kSeq (kAsgG (gvT 3 (gvCons 2 (gvCons 3 (gvCons 4 gvNil)))) (pV 1))
    (kSeq (kAsgD 5 (pOp pSub (pCB pSum (pCons (pV 0) pNil)) (pOp pIxL (pV 0) (pV 2))))
    (kSeq (kAsgF 6 (pLc (pwL (pV 0)) (gvN 7) qYes (pOp pMul (pV 7) (pOp pSub (pV 4) (pV 3))) [7]))
    (kSeq (kSet 6 (pV 2) (pOp pMul (pV 3) (pV 5)))
    (kRetO 6)))))
def G_weights_after : GD := Gof0 p_weights_after false 6
def sp_weights_after (K : PySem.W.Frag) : Sp := spD (gx K) 2 false .f 0 G_weights_after
theorem ss_weights_after {K : PySem.W.Frag} : SS (gx K) W0 .f 0 (t_weights_after K) p_weights_after := by
  unfold t_weights_after p_weights_after
  exact SS.mono ((ss_seq (ss_asgG sx_v (sg_tup (sgs_cons (sgs_cons (sgs_cons sgs_nil)))))
    (ss_seq (ss_asgD ((sx_op ((sx_cb (sa_ct (sx_v).et sa_nil) oa_sum)).ft ((sx_ixL (sx_v).eb (sx_v).et)).et os_sub)).fe)
    (ss_seq (ss_asgF (sx_lc (vs := [7]) (sw_list (md := .b) (.inr rfl) (sx_v).eb) sg_name (by decide) sb_yes ((sx_op (sx_v).et ((sx_op (sx_v).et (sx_v).et os_sub)).ft os_mul)).fe))
    (ss_seq (ss_set ((sx_op (sx_v).et (sx_v).et os_mul)).fe (sx_v).et)
    (ss_retO (i := 6))))))) (by decide +kernel)
theorem ln_weights_after {K : PySem.W.Frag} {vs : List V} {H : Hp} {Q : VK} {E : XK} (h : sp_weights_after K vs H Q E) : vs.length = (["weights", "move"] : List Str).length := spD_len h
theorem rd_weights_after {K : PySem.W.Frag} {vs : List V} {H : Hp} {Q : VK} {E : XK} (h : sp_weights_after K vs H Q E) : t_weights_after K (fin Q) (L2.start N_weights_after vs) H := rd_def0 ss_weights_after (.inr rfl) (by decide +kernel) h
theorem wide_ok {i j : Int} {a b : Nat} (ha : i.natAbs < 2 ^ a) (hb : j.natAbs < 2 ^ b) (h : a + b ≤ 900000) : CMulW i j := wide_mul' ha hb h
theorem at_nat {α : Type} {xs : List α} {i : Nat} {x : α} (h : xs[i]? = some x) : atI xs (i : Int) = some x := atI_nat h
theorem ix_nat {n i : Nat} (h : i < n) : ixN n (i : Int) = some i := by
  unfold ixN
  rw [if_pos (by omega), if_pos (by omega)]
  simp
theorem ints_at {ns : List Int} {i : Nat} (h : i < ns.length) : atI (ns.map D.int) (i : Int) = some (.int (ns.getD i 0)) := at_nat (by rw [List.getElem?_map, getD_some h]; rfl)
theorem g_weights_after {ns : List Int} {m : Mv} {k j : Nat} (h8 : ns.length ≤ 8) (hs : m.1 < ns.length) (ht : 1 ≤ m.2.1) (htb : m.2.1 < m.2.2) (hz : Sz k ns) (hb : m.2.2.natAbs < 2 ^ j) (hkj : k + j ≤ 800000) (h : po (dI (wAfter ns m.1 m.2.1 m.2.2))) : G_weights_after [dI ns, dMv m] po xx := by
  refine ⟨ns, rfl, _, ints_at hs, ?_⟩
  refine lc_map (ds := ns.map D.int) (fun d => match d with | .int x => .int (x * (m.2.2 - m.2.1)) | d => d) rfl (fun q h => h) (by rw [List.length_map]; omega) (fun x hx => ?_) ?_
  · obtain ⟨i, hi, rfl⟩ := List.mem_map.mp hx
    exact ⟨_, rfl, fun q hq => ⟨wide_ok (hz i hi) (show (m.2.2 - m.2.1).natAbs < 2 ^ j by omega) (by omega), hq⟩⟩
  · have h1 : (ns.sum - ns.getD m.1 0).natAbs < 2 ^ (k + 5) := sub_lt_pow (sum_lt8 hz h8) (Nat.lt_of_lt_of_le (hz _ (List.mem_of_getElem? (getD_some hs))) (two_pow_le (by omega)))
    refine ⟨wide_ok (a := j) (show m.2.1.natAbs < 2 ^ j by omega) h1 (by omega), m.1, ix_nat (by rw [List.length_map, List.length_map]; exact hs), ?_⟩
    have e : dI (wAfter ns m.1 m.2.1 m.2.2) = .lst (((ns.map D.int).map (fun d => match d with | .int x => .int (x * (m.2.2 - m.2.1)) | d => d)).set m.1 (.int (m.2.1 * (ns.sum - ns.getD m.1 0)))) := by
      unfold dI wAfter
      rw [List.map_set, List.map_map, List.map_map]
      rfl
    show po (.lst _)
    rw [← e]
    exact h
abbrev N_row_behind : List Str := ["row", "moves", "behind", "move"]
def t_row_behind (K : PySem.W.Frag) : TS :=
  (tSeq (tAsg (tCB (Evl.rListS K) (tCons (tVar 0) tNil)) (gName 2))
    (tSeq (tFor (iList K (tVar 1)) (gName 3) (tAsg (tCallS (sp_reduced K) (WE W0) (tCons (tCallS (sp_weights_after K) (WE W0) (tCons (tVar 2) (tCons (tVar 3) tNil))) tNil)) (gName 2)))
    (tRet (tVar 2))))
def p_row_behind : PS' :=
  (kSeq (kAsgF 2 (pListOf (pV 0)))
    (kSeq (kFor (pwL (pV 1)) (gvN 3) (kAsgF 2 (pCall 1 G_reduced (pCons (pCallL .f 2 G_weights_after (pCons (pVb 2) (pCons (pV 3) pNil))) pNil))))
    (kRetO 2)))
def G_row_behind : GD := Gof0 p_row_behind false 2
def sp_row_behind (K : PySem.W.Frag) : Sp := spD (gx K) 2 false .f 0 G_row_behind
theorem ss_row_behind {K : PySem.W.Frag} : SS (gx K) W0 .f 0 (t_row_behind K) p_row_behind := by
  unfold t_row_behind p_row_behind
  exact SS.mono ((ss_seq (ss_asgF (sx_listOf (sx_v).eb))
    (ss_seq (ss_for (sw_list (md := .e) (.inl rfl) sx_v) sg_name (ss_asgF (sx_callE (.inr rfl) (sa_ce ((sx_callL (sa_ct (sx_vb).bt (sa_ct (sx_v).et sa_nil)))).fe sa_nil))))
    (ss_retO (i := 2))))) (by decide +kernel)
theorem ln_row_behind {K : PySem.W.Frag} {vs : List V} {H : Hp} {Q : VK} {E : XK} (h : sp_row_behind K vs H Q E) : vs.length = (["row", "moves"] : List Str).length := spD_len h
theorem rd_row_behind {K : PySem.W.Frag} {vs : List V} {H : Hp} {Q : VK} {E : XK} (h : sp_row_behind K vs H Q E) : t_row_behind K (fin Q) (L2.start N_row_behind vs) H := rd_def0 ss_row_behind (.inr rfl) (by decide +kernel) h
theorem lfA_ints (ns : List Int) : D.lfA (ns.map D.int) = true := by
  induction ns with
  | nil => rfl
  | cons x r ih => simp [D.lfA, D.lf, ih]
theorem lfi_ints (ns : List Int) : (dI ns).lfi = true := lfA_ints ns
theorem gcd_wAfter {ns : List Int} {m : Mv} {n j : Nat} (hp : ∀ x ∈ ns, 1 ≤ x) (h2 : 2 ≤ ns.length) (hn : ns.length = n) (o : OkM n j m) : 0 < gcdL (wAfter ns m.1 m.2.1 m.2.2) := by
  have hs : m.1 < ns.length := by rw [hn]; exact o.s
  exact gcdL_pos' (wAfter_pos hp h2 hs o.t o.tb) (by rw [wAfter_len]; omega)
/-- one move of a row -/
theorem g_one {ns : List Int} {m : Mv} {n k j : Nat} (hR : IsRow ns) (hn : ns.length = n) (o : OkM n j m) (hz : Sz k ns) (hk : k + j + 5 ≤ 9000) (h : po (dI (mvM ns m))) : G_reduced [dI (wAfter ns m.1 m.2.1 m.2.2)] po xx := by
  have hs : m.1 < ns.length := by rw [hn]; exact o.s
  have hw := wAfter_sz hz hR.hi hs o.t o.tb o.z
  obtain ⟨g1, g2⟩ := gcdL_lt hw (wAfter_pos hR.pos hR.lo hs o.t o.tb) (by rw [wAfter_len]; have := hR.lo; omega)
  exact g_reduced (by rw [wAfter_len]; have := hR.hi; omega) g1 g2 (by omega) hk h
theorem g_row_behind {ns : List Int} {ms : List Mv} {n k j : Nat} (hR : IsRow ns) (hn : ns.length = n) (hO : ∀ m ∈ ms, OkM n j m) (hz : Sz k ns) (h40 : ms.length ≤ 90000) (hk : k + ms.length * (j + 5) ≤ 9000) (h : po (dI (mvs ns ms))) : G_row_behind [dI ns, dMs ms] po xx := by
  refine ⟨ns.map D.int, rfl, ?_⟩
  refine for_ind (ds := ms.map dMv) (fun q h => h) (by rw [List.length_map]; omega) (fun i ρ => i ≤ ms.length ∧ ∃ z, ρ = [some (.d (dI ns)), some (.d (dMs ms)), some (.o ((mvs ns (ms.take i)).map D.int)), z]) ⟨Nat.zero_le _, none, rfl⟩ ?_ ?_
  · rintro i d ρ hi ⟨hle, z, rfl⟩
    obtain ⟨m, hm, rfl⟩ := map_at hi
    have hlt := (List.getElem?_eq_some_iff.mp hm).1
    have hOt : ∀ x ∈ ms.take i, OkM n j x := fun x hx => hO x (List.mem_of_mem_take hx)
    have o := hO m (List.mem_of_getElem? hm)
    have hR' : IsRow (mvs ns (ms.take i)) := mvs_row hR hn hOt
    have hn' : (mvs ns (ms.take i)).length = n := by rw [mvs_len]; exact hn
    have hz' := mvs_sz hR hn hOt hz
    have hl : (ms.take i).length = i := by rw [List.length_take]; omega
    rw [hl] at hz'
    have hmul : (i + 1) * (j + 5) ≤ ms.length * (j + 5) := Nat.mul_le_mul_right _ (by omega)
    rw [Nat.succ_mul] at hmul
    refine ⟨rfl, g_weights_after hR'.hi (by rw [hn']; exact o.s) o.t o.tb hz' o.z (by omega) ⟨.inr ⟨rfl, lfi_ints _⟩, rfl, g_one hR' hn' o hz' (by omega) ?_⟩⟩
    exact ⟨hlt, some (.d (dMv m)), by rw [mvs_take hm]; rfl⟩
  · rintro ρ ⟨_, z, rfl⟩
    rw [List.length_map, List.take_length]
    exact h
abbrev N_row_after : List Str := ["row", "moves"]
def t_row_after (K : PySem.W.Frag) (W : XW) : TS :=
  (tSeq (tDrop (tCallS (sp_check_row K) (WE W) (tCons (tVar 0) tNil)))
    (tSeq (tDrop (tCallS (sp_check_moves K) (WE W) (tCons (tVar 1) (tCons (tCB (Evl.rLenS K) (tCons (tVar 0) tNil)) tNil))))
    (tRet (tCallS (sp_row_behind K) (WE W) (tCons (tVar 0) (tCons (tVar 1) tNil))))))
def p_row_after : PS' :=
  (kSeq (kDrop (pCall 1 G_check_row (pCons (pV 0) pNil)))
    (kSeq (kDrop (pCall 2 G_check_moves (pCons (pV 1) (pCons (pCB pLen (pCons (pV 0) pNil)) pNil))))
    (kRet (pCall 2 G_row_behind (pCons (pV 0) (pCons (pV 1) pNil))))))
def G_row_after : GD := Gof p_row_after false 0
def sp_row_after (K : PySem.W.Frag) : Sp := spD (gx K) 2 false .f 0 G_row_after
theorem ss_row_after {K : PySem.W.Frag} {W : XW} : SS (gx K) W .f 0 (t_row_after K W) p_row_after := by
  unfold t_row_after p_row_after
  exact SS.mono ((ss_seq (ss_drop (sx_callE (.inr rfl) (sa_ce sx_v sa_nil)))
    (ss_seq (ss_drop (sx_callE (.inr rfl) (sa_ce sx_v (sa_ce ((sx_cb (sa_ct (sx_v).et sa_nil) oa_len)).fe sa_nil))))
    (ss_retF (sx_callE (.inr rfl) (sa_ce sx_v (sa_ce sx_v sa_nil))))))) (by decide +kernel)
theorem ln_row_after {K : PySem.W.Frag} {vs : List V} {H : Hp} {Q : VK} {E : XK} (h : sp_row_after K vs H Q E) : vs.length = (["row", "moves"] : List Str).length := spD_len h
theorem rd_row_after {K : PySem.W.Frag} {vs : List V} {H : Hp} {Q : VK} {E : XK} (h : sp_row_after K vs H Q E) : t_row_after K (fun cls dd _ H => E cls dd H) (fin Q) (L2.start N_row_after vs) H := rd_def ss_row_after (.inr rfl) (by decide +kernel) h
theorem g_row_after {ns : List Int} {ms : List Mv} {n k j : Nat} (hR : IsRow ns) (hn : ns.length = n) (hO : ∀ m ∈ ms, OkM n j m) (hz : Sz k ns) (h40 : ms.length ≤ 40) (hk : k + ms.length * (j + 5) ≤ 9000) (h : po (dI (mvs ns ms))) : G_row_after [dI ns, dMs ms] po xx := by
  refine ⟨rfl, g_check_row hR ⟨ns.length, by rw [← List.length_map (f := D.int)]; rfl, rfl, g_check_moves h40 (by rw [hn]; exact hO) hR.hi ⟨rfl, g_row_behind hR hn hO hz (by omega) hk h⟩⟩⟩
abbrev N_check_row_of : List Str := ["row", "sliders"]
def t_check_row_of (K : PySem.W.Frag) (W : XW) : TS :=
  (tSeq (tDrop (tCallS (sp_check_row K) (WE W) (tCons (tVar 0) tNil)))
    (tIfS (tTest (tOp rNe (tCB (Evl.rLenS K) (tCons (tVar 0) tNil)) (tVar 1))) (tRaise K W "InvalidRowError") tNext))
def p_check_row_of : PS' :=
  (kSeq (kDrop (pCall 1 G_check_row (pCons (pV 0) pNil)))
    (kIf (qTest (pOp (pEq true) (pCB pLen (pCons (pV 0) pNil)) (pV 1))) (kRaise "InvalidRowError") kNext))
def G_check_row_of : GD := Gof p_check_row_of false 0
def sp_check_row_of (K : PySem.W.Frag) : Sp := spD (gx K) 2 false .f 0 G_check_row_of
theorem ss_check_row_of {K : PySem.W.Frag} {W : XW} : SS (gx K) W .f 0 (t_check_row_of K W) p_check_row_of := by
  unfold t_check_row_of p_check_row_of
  exact SS.mono ((ss_seq (ss_drop (sx_callE (.inr rfl) (sa_ce sx_v sa_nil)))
    (ss_if (sb_test (sx_op ((sx_cb (sa_ct (sx_v).et sa_nil) oa_len)).ft (sx_v).et os_ne)) ss_raise ss_next))) (by decide +kernel)
theorem ln_check_row_of {K : PySem.W.Frag} {vs : List V} {H : Hp} {Q : VK} {E : XK} (h : sp_check_row_of K vs H Q E) : vs.length = (["row", "sliders"] : List Str).length := spD_len h
theorem rd_check_row_of {K : PySem.W.Frag} {vs : List V} {H : Hp} {Q : VK} {E : XK} (h : sp_check_row_of K vs H Q E) : t_check_row_of K (fun cls dd _ H => E cls dd H) (fin Q) (L2.start N_check_row_of vs) H := rd_def ss_check_row_of (.inr rfl) (by decide +kernel) h
theorem g_check_row_of {ns : List Int} (hR : IsRow ns) (h : po .non) : G_check_row_of [dI ns, .int (ns.length : Int)] po xx := by
  refine ⟨rfl, g_check_row hR ⟨ns.length, by rw [← List.length_map (f := D.int)]; rfl, rfl, ?_⟩⟩
  refine ite_f ?_ h
  show ng true (decide (V.int (ns.length : Int) = V.int (ns.length : Int))) = false
  rw [decide_eq_true rfl]; rfl
abbrev N_forgotten : List Str := ["moves"]
def t_forgotten (K : PySem.W.Frag) (W : XW) : TS :=
  (tSeq (tDrop (tCallS (sp_check_moves K) (WE W) (tCons (tVar 0) (tCons (tC (.int 8)) tNil))))
    (tSeq (tIfS (tTest (tOp rEq (tCB (Evl.rLenS K) (tCons (tVar 0) tNil)) (tC (.int 0)))) (tRet (tC .non)) tNext)
    (tRet (tOp (rIxT K) (tOp (rIxL K) (tVar 0) (tC (.int 0))) (tC (.int 0))))))
def p_forgotten : PS' :=
  (kSeq (kDrop (pCall 2 G_check_moves (pCons (pV 0) (pCons (pC (.int 8)) pNil))))
    (kSeq (kIf (qTest (pOp (pEq false) (pCB pLen (pCons (pV 0) pNil)) (pC (.int 0)))) (kRet (pC .non)) kNext)
    (kRet (pOp pIxT (pOp pIxL (pV 0) (pC (.int 0))) (pC (.int 0))))))
def G_forgotten : GD := Gof p_forgotten false 0
def sp_forgotten (K : PySem.W.Frag) : Sp := spD (gx K) 1 false .e 0 G_forgotten
theorem ss_forgotten {K : PySem.W.Frag} {W : XW} : SS (gx K) W .e 0 (t_forgotten K W) p_forgotten := by
  unfold t_forgotten p_forgotten
  exact SS.mono ((ss_seq (ss_drop (sx_callE (.inr rfl) (sa_ce sx_v (sa_ce (sx_int).fe sa_nil))))
    (ss_seq (ss_if (sb_test (sx_op ((sx_cb (sa_ct (sx_v).et sa_nil) oa_len)).ft (sx_int).ft os_eq)) (ss_retE (sx_non).fe) ss_next)
    (ss_retE (sx_ixT (sx_ixL (sx_v).eb (sx_int).ft) (sx_int).ft))))) (by decide +kernel)
theorem ln_forgotten {K : PySem.W.Frag} {vs : List V} {H : Hp} {Q : VK} {E : XK} (h : sp_forgotten K vs H Q E) : vs.length = (["moves"] : List Str).length := spD_len h
theorem rd_forgotten {K : PySem.W.Frag} {vs : List V} {H : Hp} {Q : VK} {E : XK} (h : sp_forgotten K vs H Q E) : t_forgotten K (fun cls dd _ H => E cls dd H) (fin Q) (L2.start N_forgotten vs) H := rd_def ss_forgotten (.inl rfl) (by decide +kernel) h
def firstD (ms : List Mv) : D := match ms with
  | [] => .non
  | m :: _ => .int (m.1 : Int)
theorem g_forgotten {ms : List Mv} {n k : Nat} (h40 : ms.length ≤ 40) (hO : ∀ m ∈ ms, OkM n k m) (hn : n ≤ 8) (h : po (firstD ms)) : G_forgotten [dMs ms] po xx := by
  have hO8 : ∀ m ∈ ms, OkM 8 k m := fun m hm => ⟨by have := (hO m hm).s; omega, (hO m hm).t, (hO m hm).tb, (hO m hm).g, (hO m hm).z⟩
  refine ⟨rfl, g_check_moves (n := 8) h40 hO8 (by omega) ⟨ms.length, by rw [← List.length_map (f := dMv)]; rfl, rfl, ?_⟩⟩
  cases ms with
  | nil => exact h
  | cons m ms =>
    exact ⟨dMv m, at_nat (i := 0) rfl, .int (m.1 : Int), at_nat (i := 0) rfl, h⟩
end
end PD

/-! rows and moves, shown by repr -/
namespace PD
open PySem PySem.Spec PyProof.Rows L2 Evl SL
theorem shs_dI {ns : List Int} {k : Nat} (h : Sz k ns) (h8 : ns.length ≤ 8) (hk : k ≤ 14000) : Shs 36000 1 (dI ns) := by
  refine (shs_lst (n := 4400) (dp := 0) (ds := ns.map D.int) fun d hd => ?_).mono ?_ (by omega)
  · obtain ⟨i, hi, rfl⟩ := List.mem_map.mp hd
    exact shs_int (h i hi) hk
  · rw [List.length_map]
    have := Nat.mul_le_mul_right (4400 + 2) h8
    omega
theorem shs_dMv {n j : Nat} {m : Mv} (o : OkM n j m) (hn : n ≤ 100) (hj : j ≤ 14000) : Shs 14000 1 (dMv m) := by
  have ot := o.t
  have otb := o.tb
  have oz := o.z
  have os := o.s
  refine (shs_tup (n := 4400) (dp := 0) (ds := [.int (m.1 : Int), .int m.2.1, .int m.2.2]) fun d hd => ?_).mono (by show 3 * 4402 + 3 ≤ 14000; decide) (by omega)
  simp only [List.mem_cons, List.mem_nil_iff, or_false] at hd
  rcases hd with rfl | rfl | rfl
  · exact shs_int (k := 7) (by omega) (by decide)
  · exact shs_int (k := j) (by omega) hj
  · exact shs_int (k := j) oz hj
theorem shs_dMs {n j : Nat} {ms : List Mv} (o : ∀ m ∈ ms, OkM n j m) (hn : n ≤ 100) (hj : j ≤ 14000) (hl : ms.length ≤ 100) : Shs 1500000 2 (dMs ms) := by
  refine (shs_lst (n := 14000) (dp := 1) (ds := ms.map dMv) fun d hd => ?_).mono ?_ (by omega)
  · obtain ⟨m, hm, rfl⟩ := List.mem_map.mp hd
    exact shs_dMv (o m hm) hn hj
  · rw [List.length_map]
    have := Nat.mul_le_mul_right (14000 + 2) hl
    omega
end PD

/-! what laws ask of texts, rows and moves -/
namespace PD
open PySem PySem.Spec PyProof.Rows L2 Evl SL
theorem pEq_sameS {neg : Bool} {x : Str} {k : D → Prop} (h : k (.bl (ng neg true))) : pEq neg (.str x) (.str x) k := ⟨rfl, by rw [decide_eq_true rfl]; exact h⟩
theorem pEq_int {neg : Bool} {a c : Int} {k : D → Prop} (h : ∀ b : Bool, (b = true ↔ a = c) → k (.bl (ng neg b))) : pEq neg (.int a) (.int c) k := ⟨rfl, h _ (by rw [decide_eq_true_iff]; exact ⟨fun z => by injection z, fun z => by rw [z]⟩)⟩
theorem pl_ints : ∀ ns : List Int, D.plA (ns.map D.int) = true ∧ D.depA (ns.map D.int) = 0
  | [] => by simp [D.plA, D.depA]
  | i :: r => by
    have := pl_ints r
    simp only [List.map_cons, D.plA, D.depA, D.pl, D.dep, this]
    exact ⟨rfl, rfl⟩
theorem pl_dI (ns : List Int) : (dI ns).pl = true := by unfold dI; simp only [D.pl]; exact (pl_ints ns).1
theorem dep_dI (ns : List Int) : (dI ns).dep = 1 := by unfold dI; simp only [D.dep, (pl_ints ns).2]
theorem pl_mvs : ∀ ms : List Mv, D.plA (ms.map dMv) = true ∧ D.depA (ms.map dMv) ≤ 1
  | [] => by simp [D.plA, D.depA]
  | m :: r => by
    have := pl_mvs r
    have h1 : (dMv m).pl = true := by simp [dMv, D.pl, D.plA]
    have h2 : (dMv m).dep = 1 := by simp [dMv, D.dep, D.depA]
    simp only [List.map_cons, D.plA, D.depA, h1, h2, this.1]
    exact ⟨rfl, by have := this.2; omega⟩
theorem pl_dMs (ms : List Mv) : (dMs ms).pl = true := by unfold dMs; simp only [D.pl]; exact (pl_mvs ms).1
theorem dep_dMs (ms : List Mv) : (dMs ms).dep ≤ 2 := by unfold dMs; simp only [D.dep]; have := (pl_mvs ms).2; omega
/-- moves, asked whether there is none -/
theorem pEqD_mvs {neg : Bool} {ms : List Mv} {k : D → Prop} (h : ∀ b : Bool, (b = true ↔ ms = []) → k (.bl (ng neg b))) : pEqD neg (dMs ms) (.lst []) k :=
  pEqD_pl (pl_dMs ms) (by simp [D.pl, D.plA]) (by have := dep_dMs ms; omega) (by simp [D.dep, D.depA]) fun b hb => h b (hb.trans (by
    cases ms with
    | nil => simp [dMs]
    | cons m r => simp [dMs]))
theorem cut_toD (ds : List D) (c : Nat) : cutD ds none (some (c : Int)) = ds.take c := by
  unfold cutD
  rw [HT.sIx_none, HT.sIx_nat, Nat.sub_zero, List.drop_zero]
  by_cases h : c ≤ ds.length
  · rw [Nat.min_eq_left h]
  · rw [Nat.min_eq_right (by omega), List.take_of_length_le (Nat.le_refl _), List.take_of_length_le (by omega)]
theorem cut_fromD (ds : List D) (c : Nat) : cutD ds (some (c : Int)) none = ds.drop c := by
  unfold cutD
  rw [HT.sIx_none, HT.sIx_nat]
  by_cases h : c ≤ ds.length
  · rw [Nat.min_eq_left h]
    exact List.take_of_length_le (by rw [List.length_drop]; omega)
  · rw [Nat.min_eq_right (by omega), Nat.sub_self, List.take_zero]
    exact (List.drop_of_length_le (by omega)).symm
theorem ng_tt : ng true true = false := rfl
theorem gcdL_cut {ns : List Int} {u : Nat} (hu : u < ns.length) : gcdL (ns.take u ++ ns.drop (u + 1)) = gcdL (ns.set u 0) := by
  have hs : ns.set u 0 = ns.take u ++ 0 :: ns.drop (u + 1) := by
    rw [List.set_eq_take_append_cons_drop, if_pos hu]
  rw [hs]
  refine Int.dvd_antisymm (gcdL_nn _) (gcdL_nn _) (gcdL_greatest fun x hx => ?_) (gcdL_greatest fun x hx => ?_)
  · rcases List.mem_append.mp hx with z | z
    · exact gcdL_dvd (List.mem_append_left _ z)
    · rcases List.mem_cons.mp z with z | z
      · rw [z]; exact Int.dvd_zero _
      · exact gcdL_dvd (List.mem_append_right _ z)
  · rcases List.mem_append.mp hx with z | z
    · exact gcdL_dvd (List.mem_append_left _ z)
    · exact gcdL_dvd (List.mem_append_right _ (List.mem_cons_of_mem _ z))
end PD

/-! the law's own call -/
namespace PD
open PySem PySem.Spec PyProof.Rows L2 Evl SL
theorem law_startD {K : PySem.W.Frag} {H : Hp} {a : Addr} {ns : List Int} {g : Gx} {mr : Md} {k : Nat} {G : GD} (hg : g.K = K) (hm : mr = .f ∨ mr = .e) (hk : k ≤ NM) (h : G [.scr ns] (fun d => d = .bl true) fun _ => False) (hS : SqL K H a (ns.map V.int)) :
    spD g 1 false mr k G [.ref a] H (fun v _ => v = .bl true) fun _ _ _ => False := by
  subst hg
  refine ⟨none, [.ref a], [.scr ns], fun _ => False, 0, fun d => d = .bl true, fun _ => False, rfl, rfl, rfl, .cons (.scr ?_) .nil, fun a z => z.elim, (fun a z => by cases z), by omega, h, ?_, fun _ _ _ _ _ _ z => z.elim⟩
  · rcases hS with z | z
    · exact .inl ⟨z, fun z => z.elim id fun z => by cases z⟩
    · exact .inr z
  · rintro v H' d M hM rfl ⟨_, _, ro⟩
    rcases hm with rfl | rfl
    · rcases ro with ⟨_, r⟩ | ⟨_, _, _, _, z, _⟩
      · exact rp_bl r
      · cases z
    · exact rp_bl ro
end PD

set_option exponentiation.threshold 600
/-! values of any kind, as they are put to a function: items (At), whole things (Th) -/
namespace PD
open PySem PySem.Spec PyProof.Rows L2 Evl SL
structure At (d : D) : Prop where
  tv : d.tv = true
  sh : Shs 4600 31 d
  sz : ∀ i, d = .int i → i.natAbs < 2 ^ 110
structure Th (d : D) : Prop where
  tv : d.tv = true
  ns : ∀ l, d ≠ .scr l
  it : ∀ ds, d = .lst ds → ∀ x ∈ ds, x.tv = true
  sh : Shs 45000 32 d
  sz : ∀ vs, d = dI vs → Sz 110 vs
theorem at_int {i : Int} (h : i.natAbs < 2 ^ 110) : At (.int i) := ⟨rfl, (shs_int h (by decide)).mono (by decide) (by decide), fun j e => by injection e with e; rw [← e]; exact h⟩
theorem at_bl (b : Bool) : At (.bl b) := ⟨rfl, (shs_bl b).mono (by decide) (by decide), fun j e => by cases e⟩
theorem at_non : At .non := ⟨rfl, shs_non.mono (by decide) (by decide), fun j e => by cases e⟩
theorem at_emp : At .emp := ⟨rfl, shs_emp.mono (by decide) (by decide), fun j e => by cases e⟩
theorem at_d11 : At (.dk [(1, 1)]) := ⟨rfl, shs_d11.mono (by decide) (by decide), fun j e => by cases e⟩
theorem shs_str {x : Str} (h : (PyData.shown (.str x)).length ≤ 4400) : Shs 4400 0 (.str x) := ⟨.str x, by simp only [D.pq], by simp only [okB], by simp only [PyData.depth]; exact Nat.le_refl _, h⟩
theorem at_str {x : Str} (h : (PyData.shown (.str x)).length ≤ 4400) : At (.str x) := ⟨rfl, (shs_str h).mono (by decide) (by decide), fun j e => by cases e⟩
theorem at_l1 : At (.lst [.int 1]) := ⟨rfl, (shs_lst (n := 4400) (dp := 0) (ds := [.int 1]) fun d hd => by
  rw [List.mem_singleton.mp hd]; exact shs_int (k := 2) (by decide) (by decide)).mono (by show 1 * 4402 + 3 ≤ 4600; decide) (by decide), fun j e => by cases e⟩
theorem at_t1 : At (.tup [.int 1]) := ⟨rfl, (shs_tup (n := 4400) (dp := 0) (ds := [.int 1]) fun d hd => by
  rw [List.mem_singleton.mp hd]; exact shs_int (k := 2) (by decide) (by decide)).mono (by show 1 * 4402 + 3 ≤ 4600; decide) (by decide), fun j e => by cases e⟩
theorem at_l0 : At (.lst []) := ⟨rfl, (shs_lst (n := 4400) (dp := 0) (ds := []) fun d hd => by cases hd).mono (by decide) (by decide), fun j e => by cases e⟩
theorem at_t0 : At (.tup []) := ⟨rfl, (shs_tup (n := 4400) (dp := 0) (ds := []) fun d hd => by cases hd).mono (by decide) (by decide), fun j e => by cases e⟩
theorem th_at {d : D} (h : At d) (hl : ∀ ds, d ≠ .lst ds) (hs : ∀ l, d ≠ .scr l) : Th d := ⟨h.tv, hs, fun ds e => absurd e (hl ds), h.sh.mono (by decide) (by decide), fun vs e => absurd e (hl _)⟩
theorem th_lst {ds : List D} (h9 : ds.length ≤ 9) (h : ∀ d ∈ ds, At d) : Th (.lst ds) where
  tv := rfl
  ns := fun l e => by cases e
  it := fun es e x hx => by injection e with e; subst e; exact (h x hx).tv
  sh := (shs_lst (n := 4600) (dp := 31) fun d hd => (h d hd).sh).mono (by have := Nat.mul_le_mul_right (4600 + 2) h9; omega) (Nat.le_refl _)
  sz := fun vs e x hx => by
    unfold dI at e
    injection e with e
    exact (h (.int x) (by rw [e]; exact List.mem_map_of_mem hx)).sz x rfl
theorem ats {ns : List Int} (h : Sz 110 ns) : ∀ d ∈ ns.map D.int, At d := fun d hd => by
  obtain ⟨i, hi, rfl⟩ := List.mem_map.mp hd
  exact at_int (h i hi)
theorem th_dI {ns : List Int} (h9 : ns.length ≤ 9) (h : Sz 110 ns) : Th (dI ns) := th_lst (by rw [List.length_map]; exact h9) (ats h)
theorem th_tup {ds : List D} (h9 : ds.length ≤ 9) (h : ∀ d ∈ ds, At d) : Th (.tup ds) where
  tv := rfl
  ns := fun l e => by cases e
  it := fun es e => by cases e
  sh := (shs_tup (n := 4600) (dp := 31) fun d hd => (h d hd).sh).mono (by have := Nat.mul_le_mul_right (4600 + 2) h9; omega) (Nat.le_refl _)
  sz := fun vs e => by cases e
theorem th_ll {ns : List Int} (h8 : ns.length ≤ 8) (h : Sz 110 ns) : Th (.lst [dI ns]) where
  tv := rfl
  ns := fun l e => by cases e
  it := fun es e x hx => by injection e with e; subst e; rw [List.mem_singleton.mp hx]; rfl
  sh := (shs_lst (n := 36000) (dp := 1) (ds := [dI ns]) fun d hd => by rw [List.mem_singleton.mp hd]; exact shs_dI h h8 (by decide)).mono (by show 1 * 36002 + 3 ≤ 45000; decide) (by decide)
  sz := fun vs e => by
    unfold dI at e
    injection e with e
    cases vs with
    | nil => cases e
    | cons x r => cases e
theorem len_dIA (ns : List Int) : (dI ns).len? = some ns.length := by show some (ns.map D.int).length = _; rw [List.length_map]
/-! a list with one item otherwise -/
theorem cut_le (ds : List D) (a b : Option Int) : (cutD ds a b).length ≤ ds.length := by
  unfold cutD
  rw [List.length_take, List.length_drop]
  omega
theorem cut_mem {ds : List D} {a b : Option Int} {d : D} (h : d ∈ cutD ds a b) : d ∈ ds := by
  unfold cutD at h
  exact List.mem_of_mem_drop (List.mem_of_mem_take h)
end PD

/-! values of any kind as rows and moves; errors -/
namespace PD
open PySem PySem.Spec PyProof.Rows L2 Evl SL
section
variable {po : D → Prop} {xx : Exn → Prop} {κ : PK} {ρ : Env}
def mvB (s t b : Int) : Bool := decide (0 ≤ s) && (decide (s < 8) && (decide (1 ≤ t) && (decide (t < b) && decide (Int.gcd t b = 1))))
def isMvD : D → Bool
  | .tup [.int s, .int t, .int b] => mvB s t b
  | _ => false
/-- all that a value asks, so that it may be put to a function that asks for a move -/
structure Mq (d : D) : Prop where
  tv : d.tv = true
  it : ∀ ds, d = .tup ds → (∀ x ∈ ds, x.tv = true) ∧ ds.length ≤ 90000
theorem mvD_len {ds : List D} (h : ds.length ≠ 3) : isMvD (.tup ds) = false := by
  unfold isMvD
  split
  · rename_i e; injection e with e; rw [e] at h; exact absurd rfl h
  · rfl
theorem mvD_int {x y z : D} (h : ([x, y, z].map isW).all id = false) : isMvD (.tup [x, y, z]) = false := by
  unfold isMvD
  split
  · rename_i e
    injection e with e
    injection e with e1 e
    injection e with e2 e
    injection e with e3 e
    subst e1; subst e2; subst e3
    simp [isW] at h
  · rfl
theorem isW_int {x : D} (h : isW x = true) : ∃ i, x = .int i := by
  cases x <;> simp [isW] at h
  exact ⟨_, rfl⟩
theorem if_and {a b : Bool} {q : Bool → Prop} (h : q (a && b)) (hb : ∀ {c : Bool}, c = (a && b) → q c) : if a = true then q b else q false := by
  cases a
  · exact h
  · exact h
theorem g_is_moveD {d : D} (m : Mq d) (h : po (.bl (isMvD d))) : G_is_move [d] po xx := by
  rcases tv_cases m.tv with rfl | ⟨b, rfl⟩ | ⟨i, rfl⟩ | ⟨s, rfl⟩ | ⟨ds, rfl⟩ | ⟨ds, rfl⟩ | ⟨kv, rfl⟩ | ⟨ns, rfl⟩
  · exact ⟨"NoneType", rfl, h⟩
  · exact ⟨"bool", rfl, h⟩
  · exact ⟨"int", rfl, h⟩
  · exact ⟨"str", rfl, h⟩
  · exact ⟨"list", rfl, h⟩
  · obtain ⟨ht, hl⟩ := m.it ds rfl
    refine ⟨"tuple", rfl, ds.length, rfl, pEq_int fun b hb => ite_b (fun h1 => ?_) fun h0 => ?_⟩
    · have : ds.length ≠ 3 := fun z => by
        have := hb.mpr (by omega)
        rw [this] at h1; cases h1
      rw [mvD_len this] at h
      exact h
    · have h3 : ds.length = 3 := by
        cases b with
        | true => have := hb.mp rfl; omega
        | false => cases h0
      match ds, h3 with
      | [x, y, z], _ =>
        refine lc_map (ds := [x, y, z]) (fun d => .bl (isW d)) rfl (fun q h => h) (by show 3 ≤ 90000; decide) (fun x hx => ⟨_, rfl, fun q hq => ⟨rfl, g_is_whole (ht x hx) hq⟩⟩) ?_
        refine ⟨[x, y, z].map isW, by rw [List.map_map]; rfl, ?_⟩
        cases e : ([x, y, z].map isW).all id with
        | false =>
          rw [mvD_int e] at h
          exact h
        | true =>
          simp only [List.map_cons, List.map_nil, List.all_cons, List.all_nil, id, Bool.and_true, Bool.and_eq_true] at e
          obtain ⟨e1, e2, e3⟩ := e
          obtain ⟨s, rfl⟩ := isW_int e1
          obtain ⟨t, rfl⟩ := isW_int e2
          obtain ⟨b2, rfl⟩ := isW_int e3
          have h' : po (.bl (mvB s t b2)) := h
          unfold mvB at h'
          show (if decide ((0 : Int) ≤ s) = true then _ else _)
          cases c1 : decide ((0 : Int) ≤ s) with
          | false => rw [c1] at h'; exact h'
          | true =>
            rw [c1, Bool.true_and] at h'
            refine ite_t rfl ?_
            show (if decide (s < 8) = true then _ else _)
            cases c2 : decide (s < 8) with
            | false => rw [c2] at h'; exact h'
            | true =>
              rw [c2, Bool.true_and] at h'
              refine ite_t rfl ?_
              show (if decide ((1 : Int) ≤ t) = true then _ else _)
              cases c3 : decide ((1 : Int) ≤ t) with
              | false => rw [c3] at h'; exact h'
              | true =>
                rw [c3, Bool.true_and] at h'
                refine ite_t rfl ?_
                show (if decide (t < b2) = true then _ else _)
                cases c4 : decide (t < b2) with
                | false => rw [c4] at h'; exact h'
                | true =>
                  rw [c4, Bool.true_and] at h'
                  refine ite_t rfl ⟨rfl, ?_⟩
                  show po (.bl (decide (V.int ((Nat.gcd t.natAbs b2.natAbs : Nat) : Int) = V.int 1)))
                  have e : decide (V.int ((Nat.gcd t.natAbs b2.natAbs : Nat) : Int) = V.int 1) = decide (Int.gcd t b2 = 1) := by
                    rw [dec_int, Bool.beq_eq_decide_eq]
                    refine decide_eq_decide.mpr ?_
                    show ((Nat.gcd t.natAbs b2.natAbs : Nat) : Int) = 1 ↔ Nat.gcd t.natAbs b2.natAbs = 1
                    omega
                  rw [e]; exact h'
  · exact ⟨"dict", rfl, h⟩
  · exact ⟨"list", rfl, h⟩
/-! lists of moves -/
def isMsD : D → Bool
  | .lst ds => decide (ds.length ≤ 40) && ds.all isMvD
  | _ => false
structure Lq (d : D) : Prop where
  tv : d.tv = true
  ns : ∀ l, d ≠ .scr l
  it : ∀ ds, d = .lst ds → ∀ x ∈ ds, Mq x
theorem g_is_movesD {d : D} (m : Lq d) (h : po (.bl (isMsD d))) : G_is_moves [d] po xx := by
  rcases tv_cases m.tv with rfl | ⟨b, rfl⟩ | ⟨i, rfl⟩ | ⟨s, rfl⟩ | ⟨ds, rfl⟩ | ⟨ds, rfl⟩ | ⟨kv, rfl⟩ | ⟨ns, rfl⟩
  · exact ⟨"NoneType", rfl, h⟩
  · exact ⟨"bool", rfl, h⟩
  · exact ⟨"int", rfl, h⟩
  · exact ⟨"str", rfl, h⟩
  · refine ⟨"list", rfl, ds.length, rfl, ?_⟩
    have h' : po (.bl (decide (ds.length ≤ 40) && ds.all isMvD)) := h
    show (if decide ((ds.length : Int) ≤ 40) = true then _ else _)
    by_cases c : ds.length ≤ 40
    · rw [decide_eq_true c, Bool.true_and] at h'
      refine ite_t (decide_eq_true (by omega)) ?_
      refine lc_map (ds := ds) (fun x => .bl (isMvD x)) rfl (fun q h => h) (by omega) (fun x hx => ⟨_, rfl, fun q hq => ⟨rfl, g_is_moveD (m.it ds rfl x hx) hq⟩⟩) ?_
      refine ⟨ds.map isMvD, by rw [List.map_map]; rfl, ?_⟩
      rw [all_map]
      exact h'
    · rw [decide_eq_false c, Bool.false_and] at h'
      rw [decide_eq_false (show ¬ ((ds.length : Int) ≤ 40) by omega)]
      exact h'
  · exact ⟨"tuple", rfl, h⟩
  · exact ⟨"dict", rfl, h⟩
  · exact absurd rfl (m.ns ns)
/-- moves, each of a slider that is there -/
theorem isMv_mv {d : D} (h : isMvD d = true) : ∃ m : Mv, d = dMv m ∧ m.1 < 8 ∧ 1 ≤ m.2.1 ∧ m.2.1 < m.2.2 ∧ Int.gcd m.2.1 m.2.2 = 1 := by
  unfold isMvD at h
  split at h
  · rename_i s t b
    unfold mvB at h
    simp only [Bool.and_eq_true, decide_eq_true_eq] at h
    obtain ⟨h1, h2, h3, h4, h5⟩ := h
    refine ⟨(s.toNat, t, b), ?_, by show s.toNat < 8; omega, h3, h4, h5⟩
    unfold dMv
    rw [show ((s.toNat : Nat) : Int) = s by omega]
  · cases h
theorem isMs_mvs : ∀ {ds : List D}, ds.all isMvD = true → ∃ ms : List Mv, ds = ms.map dMv ∧ ∀ m ∈ ms, m.1 < 8 ∧ 1 ≤ m.2.1 ∧ m.2.1 < m.2.2 ∧ Int.gcd m.2.1 m.2.2 = 1
  | [], _ => ⟨[], rfl, fun m h => by cases h⟩
  | d :: ds, h => by
    rw [List.all_cons, Bool.and_eq_true] at h
    obtain ⟨m, rfl, hm⟩ := isMv_mv h.1
    obtain ⟨ms, rfl, hs⟩ := isMs_mvs h.2
    refine ⟨m :: ms, rfl, fun x hx => ?_⟩
    rcases List.mem_cons.mp hx with z | z
    · rw [z]; exact hm
    · exact hs x z
def thereB (ms : List Mv) (n : Int) : Bool := ms.all fun m => decide ((m.1 : Int) < n)
theorem g_are_thereB {ms : List Mv} {n : Int} (hl : ms.length ≤ 90000) (h : po (.bl (thereB ms n))) : G_are_there [dMs ms, .int n] po xx := by
  refine lc_map (ds := ms.map dMv) (fun d => match d with | .tup (.int s :: _) => .bl (decide (s < n)) | d => d) rfl (fun q h => h) (by rw [List.length_map]; omega) (fun x hx => ?_) ?_
  · obtain ⟨m, hm, rfl⟩ := List.mem_map.mp hx
    exact ⟨_, rfl, fun q hq => ⟨_, rfl, hq⟩⟩
  · refine ⟨ms.map fun m => decide ((m.1 : Int) < n), by rw [List.map_map, List.map_map]; rfl, ?_⟩
    rw [all_map]
    exact h
def okMsD (n : Int) : D → Bool
  | .lst ds => isMsD (.lst ds) && ds.all fun d => match d with | .tup (.int s :: _) => decide (s < n) | _ => false
  | _ => false
theorem okMs_lst {n : Int} {ds : List D} : okMsD n (.lst ds) = (isMsD (.lst ds) && ds.all fun d => match d with | .tup (.int s :: _) => decide (s < n) | _ => false) := rfl
theorem ok_there {ms : List Mv} {n : Int} : ((ms.map dMv).all fun d => match d with | .tup (.int s :: _) => decide (s < n) | _ => false) = thereB ms n := by
  unfold thereB
  rw [List.all_map]
  rfl
/-- check_moves, of any value -/
theorem g_check_movesD {d : D} {n : Int} (m : Lq d) (h0 : okMsD n d = true → po .non) (h1 : okMsD n d = false → xx ⟨"InvalidMovesError", none⟩) : G_check_moves [d, .int n] po xx := by
  refine ⟨rfl, g_is_movesD m ?_⟩
  cases e : isMsD d with
  | false =>
    have : okMsD n d = false := by
      cases d <;> first | rfl | (rw [okMs_lst, e]; rfl)
    exact h1 this
  | true =>
    cases d with
    | lst ds =>
      have e' : (decide (ds.length ≤ 40) && ds.all isMvD) = true := e
      rw [Bool.and_eq_true, decide_eq_true_eq] at e'
      obtain ⟨ms, rfl, hs⟩ := isMs_mvs e'.2
      rw [List.length_map] at e'
      have eo : okMsD n (.lst (ms.map dMv)) = thereB ms n := by
        rw [okMs_lst, e, ok_there, Bool.true_and]
      refine ⟨rfl, g_are_thereB (by omega) ?_⟩
      rw [eo] at h0 h1
      cases c : thereB ms n with
      | false => exact h1 c
      | true => exact h0 c
    | _ => cases e
/-! rows -/
theorem g_check_rowD {d : D} (hd : d.tv = true) (hs : ∀ ns, d ≠ .scr ns) (hi : ∀ ds, d = .lst ds → ∀ x ∈ ds, x.tv = true) (h0 : isRowD d = true → po .non) (h1 : isRowD d = false → xx ⟨"InvalidRowError", none⟩) : G_check_row [d] po xx := by
  refine ⟨rfl, g_is_row hd hs hi ?_⟩
  cases c : isRowD d with
  | false => exact h1 c
  | true => exact h0 c
end
end PD

/-! the program's tables -/
namespace PD
open PySem PySem.Spec PyProof.Rows L2 Evl SL
section
variable {po : D → Prop} {xx : Exn → Prop} {κ : PK} {ρ : Env}
theorem rngT_at {lo : Int} {n i : Nat} {d : D} (h : (rngD lo n)[i]? = some d) : i < n ∧ d = .int (lo + (i : Int)) := by
  unfold rngD at h
  obtain ⟨j, hj, rfl⟩ := map_at h
  have hl := (List.getElem?_eq_some_iff.mp hj).1
  rw [List.length_range] at hl
  rw [List.getElem?_range hl] at hj
  cases hj
  exact ⟨hl, rfl⟩
theorem rngT_len {lo : Int} {n : Nat} : (rngD lo n).length = n := by simp [rngD]
theorem rngT_map {lo : Int} {n : Nat} (f : D → D) : (rngD lo n).map f = (List.range n).map fun (i : Nat) => f (.int (lo + (i : Int))) := by
  unfold rngD
  rw [List.map_map]; rfl
abbrev N_check_sliders : List Str := ["sliders"]
def t_check_sliders (K : PySem.W.Frag) (W : XW) : TS :=
  (tIfS (tOr (tNot (tB (tCallS (sp_is_whole K) (WE W) (tCons (tVar 0) tNil)))) (tNot (tTest (tChain rLeI rLeI (tC (.int 2)) (tVar 0) (tC (.int 8)))))) (tRaise K W "InvalidNumberError") tNext)
def p_check_sliders : PS' :=
  (kIf (qOr (qNot (qTest (pCall 1 G_is_whole (pCons (pV 0) pNil)))) (qNot (qTest (pChain pLe pLe (pC (.int 2)) (pV 0) (pC (.int 8)))))) (kRaise "InvalidNumberError") kNext)
def G_check_sliders : GD := Gof p_check_sliders false 0
def sp_check_sliders (K : PySem.W.Frag) : Sp := spD (gx K) 1 false .f 0 G_check_sliders
theorem ss_check_sliders {K : PySem.W.Frag} {W : XW} : SS (gx K) W .f 0 (t_check_sliders K W) p_check_sliders := by
  unfold t_check_sliders p_check_sliders
  exact SS.mono ((ss_if (sb_or (sb_not (sb_B (sx_callE (.inr rfl) (sa_ce sx_v sa_nil)))) (sb_not (sb_test (sx_chain (sx_int).ft (sx_v).et (sx_int).ft os_le os_le)))) ss_raise ss_next)) (by decide +kernel)
theorem ln_check_sliders {K : PySem.W.Frag} {vs : List V} {H : Hp} {Q : VK} {E : XK} (h : sp_check_sliders K vs H Q E) : vs.length = (["sliders"] : List Str).length := spD_len h
theorem rd_check_sliders {K : PySem.W.Frag} {vs : List V} {H : Hp} {Q : VK} {E : XK} (h : sp_check_sliders K vs H Q E) : t_check_sliders K (fun cls dd _ H => E cls dd H) (fin Q) (L2.start N_check_sliders vs) H := rd_def ss_check_sliders (.inr rfl) (by decide +kernel) h
def okN : D → Bool
  | .int i => decide (2 ≤ i) && decide (i ≤ 8)
  | _ => false
theorem g_check_slidersD {d : D} (hd : d.tv = true) (h0 : okN d = true → po .non) (h1 : okN d = false → xx ⟨"InvalidNumberError", none⟩) : G_check_sliders [d] po xx := by
  refine ⟨rfl, g_is_whole hd ?_⟩
  cases d with
  | int i =>
    show (if decide ((2 : Int) ≤ i) = true then _ else _)
    cases c1 : decide ((2 : Int) ≤ i) with
    | false => exact h1 (by show (decide ((2 : Int) ≤ i) && _) = false; rw [c1]; rfl)
    | true =>
      refine ite_t rfl ?_
      show (if (!decide (i ≤ 8)) = true then _ else _)
      cases c2 : decide (i ≤ 8) with
      | false => exact h1 (by show (decide ((2 : Int) ≤ i) && decide (i ≤ 8)) = false; rw [c1, c2]; rfl)
      | true => exact h0 (by show (decide ((2 : Int) ≤ i) && decide (i ≤ 8)) = true; rw [c1, c2]; rfl)
  | _ => exact h1 rfl
abbrev N_unit_weights : List Str := ["sliders", "slider", "at"]
def t_unit_weights (K : PySem.W.Frag) : TS :=
  (tRet (tLc (iRng1 (tCons (tVar 0) tNil)) (gName 2) tYes (tIf (tTest (tOp rEq (tVar 2) (tVar 1))) (tC (.int 1)) (tC (.int 0))) [2]))
def p_unit_weights : PS' :=
  (kRet (pLc (pwR1 (pCons (pV 0) pNil)) (gvN 2) qYes (pIf (qTest (pOp (pEq false) (pV 2) (pV 1))) (pC (.int 1)) (pC (.int 0))) [2]))
def G_unit_weights : GD := Gof0 p_unit_weights false 1
def sp_unit_weights (K : PySem.W.Frag) : Sp := spD (gx K) 2 false .f 0 G_unit_weights
theorem ss_unit_weights {K : PySem.W.Frag} : SS (gx K) W0 .f 0 (t_unit_weights K) p_unit_weights := by
  unfold t_unit_weights p_unit_weights
  exact SS.mono ((ss_retF (sx_lc (vs := [2]) (sw_rng1 (sa_ct (sx_v).et sa_nil)) sg_name (by decide) sb_yes ((sx_if (sb_test (sx_op (sx_v).et (sx_v).et os_eq)) sx_int sx_int)).fe))) (by decide +kernel)
theorem ln_unit_weights {K : PySem.W.Frag} {vs : List V} {H : Hp} {Q : VK} {E : XK} (h : sp_unit_weights K vs H Q E) : vs.length = (["sliders", "slider"] : List Str).length := spD_len h
theorem rd_unit_weights {K : PySem.W.Frag} {vs : List V} {H : Hp} {Q : VK} {E : XK} (h : sp_unit_weights K vs H Q E) : t_unit_weights K (fin Q) (L2.start N_unit_weights vs) H := rd_def0 ss_unit_weights (.inr rfl) (by decide +kernel) h
theorem g_unit_weights {n s : Nat} (h8 : n ≤ 8) (h : po (dI (unitW n s))) : G_unit_weights [.int (n : Int), .int (s : Int)] po xx := by
  refine lc_map (ds := rngD 0 n) (fun d => match d with | .int a => .int (if a = (s : Int) then 1 else 0) | d => d) rfl (fun q h => ⟨by omega, by omega, h⟩) (by rw [rngT_len]; omega) (fun x hx => ?_) ?_
  · obtain ⟨i, hi⟩ := List.getElem?_of_mem hx
    obtain ⟨_, rfl⟩ := rngT_at hi
    refine ⟨_, rfl, fun q hq => pEq_int fun b hb => ite_b (fun e => ?_) fun e => ?_⟩
    · have : (0 + (i : Int)) = (s : Int) := hb.mp (by cases b with | true => rfl | false => cases e)
      have hq' : q (.int (if (0 + (i : Int)) = (s : Int) then 1 else 0)) := hq
      rw [if_pos this] at hq'; exact hq'
    · have : ¬ (0 + (i : Int)) = (s : Int) := fun z => by
        have := hb.mpr z
        rw [this] at e; cases e
      have hq' : q (.int (if (0 + (i : Int)) = (s : Int) then 1 else 0)) := hq
      rw [if_neg this] at hq'; exact hq'
  · rw [rngT_map]
    have e : dI (unitW n s) = .lst ((List.range n).map fun (i : Nat) => D.int (if (0 + (i : Int)) = (s : Int) then 1 else 0)) := by
      unfold dI unitW
      rw [List.map_map]
      congr 1
      refine List.map_congr_left fun a _ => ?_
      show D.int (if (a : Int) = (s : Int) then 1 else 0) = _
      rw [Int.zero_add]
    rw [← e]; exact h
def dLL (xss : List (List Int)) : D := .lst (xss.map dI)
abbrev N_table_of : List Str := ["sliders", "moves", "columns", "move", "common", "slider", "column", "number"]
def t_table_of (K : PySem.W.Frag) (W : XW) : TS :=
  (tSeq (tDrop (tCallS (sp_check_sliders K) (WE W) (tCons (tVar 0) tNil)))
    (tSeq (tDrop (tCallS (sp_check_moves K) (WE W) (tCons (tVar 1) (tCons (tVar 0) tNil))))
    (tSeq (tAsg (tLc (iRng1 (tCons (tVar 0) tNil)) (gName 5) tYes (tCallS (sp_unit_weights K) (WE W) (tCons (tVar 0) (tCons (tVar 5) tNil))) [5]) (gName 2))
    (tSeq (tFor (iList K (tVar 1)) (gName 3) (tAsg (tLc (iList K (tVar 2)) (gName 6) tYes (tCallS (sp_weights_after K) (WE W) (tCons (tVar 6) (tCons (tVar 3) tNil))) [6]) (gName 2)))
    (tSeq (tAsg (tCallS (sp_common_divisor K) (WE W) (tCons (tLc2 (iList K (tVar 2)) (gName 6) tYes (iList K (tVar 6)) (gName 7) tYes (tVar 7) [6, 7] [7]) tNil)) (gName 4))
    (tRet (tLc (iRng1 (tCons (tVar 0) tNil)) (gName 5) tYes (tLc (iList K (tVar 2)) (gName 6) tYes (tOp rDivI (tOp (rIxL K) (tVar 6) (tVar 5)) (tVar 4)) [6]) [5])))))))
def p_table_of : PS' :=
  (kSeq (kDrop (pCall 1 G_check_sliders (pCons (pV 0) pNil)))
    (kSeq (kDrop (pCall 2 G_check_moves (pCons (pV 1) (pCons (pV 0) pNil))))
    (kSeq (kAsgD 2 (pLc (pwR1 (pCons (pV 0) pNil)) (gvN 5) qYes (pCall 2 G_unit_weights (pCons (pV 0) (pCons (pV 5) pNil))) [5]))
    (kSeq (kFor (pwL (pV 1)) (gvN 3) (kAsgD 2 (pLc (pwL (pV 2)) (gvN 6) qYes (pCall 2 G_weights_after (pCons (pV 6) (pCons (pV 3) pNil))) [6])))
    (kSeq (kAsgD 4 (pCall 1 G_common_divisor (pCons (pLc2 (pwL (pV 2)) (gvN 6) (pwL (pV 6)) (gvN 7) (pV 7) [6, 7] [7]) pNil)))
    (kRet (pLc (pwR1 (pCons (pV 0) pNil)) (gvN 5) qYes (pLc (pwL (pV 2)) (gvN 6) qYes (pOp pDiv (pOp pIxL (pV 6) (pV 5)) (pV 4)) [6]) [5])))))))
def G_table_of : GD := Gof p_table_of false 6
def sp_table_of (K : PySem.W.Frag) : Sp := spD (gx K) 2 false .f 0 G_table_of
theorem ss_table_of {K : PySem.W.Frag} {W : XW} : SS (gx K) W .f 0 (t_table_of K W) p_table_of := by
  unfold t_table_of p_table_of
  exact SS.mono ((ss_seq (ss_drop (sx_callE (.inr rfl) (sa_ce sx_v sa_nil)))
    (ss_seq (ss_drop (sx_callE (.inr rfl) (sa_ce sx_v (sa_ce sx_v sa_nil))))
    (ss_seq (ss_asgD ((sx_lc (vs := [5]) (sw_rng1 (sa_ct (sx_v).et sa_nil)) sg_name (by decide) sb_yes ((sx_callE (.inr rfl) (sa_ce sx_v (sa_ce sx_v sa_nil)))).fe)).fe)
    (ss_seq (ss_for (sw_list (md := .e) (.inl rfl) sx_v) sg_name (ss_asgD ((sx_lc (vs := [6]) (sw_list (md := .b) (.inr rfl) (sx_v).eb) sg_name (by decide) sb_yes ((sx_callE (.inr rfl) (sa_ce sx_v (sa_ce sx_v sa_nil)))).fe)).fe))
    (ss_seq (ss_asgD ((sx_callE (.inr rfl) (sa_ce ((sx_lc2 (vs := [6, 7]) (vs1 := [7]) (sw_list (md := .b) (.inr rfl) (sx_v).eb) sg_name (by decide) (sw_list (md := .b) (.inr rfl) (sx_v).eb) sg_name (by decide) sx_v)).fe sa_nil))).fe)
    (ss_retF (sx_lc (vs := [5]) (sw_rng1 (sa_ct (sx_v).et sa_nil)) sg_name (by decide) sb_yes ((sx_lc (vs := [6]) (sw_list (md := .b) (.inr rfl) (sx_v).eb) sg_name (by decide) sb_yes ((sx_op ((sx_ixL (sx_v).eb (sx_v).et)).et (sx_v).et os_div)).fe)).fe)))))))) (by decide +kernel)
theorem ln_table_of {K : PySem.W.Frag} {vs : List V} {H : Hp} {Q : VK} {E : XK} (h : sp_table_of K vs H Q E) : vs.length = (["sliders", "moves"] : List Str).length := spD_len h
theorem rd_table_of {K : PySem.W.Frag} {vs : List V} {H : Hp} {Q : VK} {E : XK} (h : sp_table_of K vs H Q E) : t_table_of K (fun cls dd _ H => E cls dd H) (fin Q) (L2.start N_table_of vs) H := rd_def ss_table_of (.inr rfl) (by decide +kernel) h
theorem unit_sz (n i : Nat) : Sz 1 (unitW n i) := fun x hx => by
  unfold unitW at hx
  obtain ⟨a, _, rfl⟩ := List.mem_map.mp hx
  split <;> decide
theorem lc2_flat {ρ : Env} {po : D → Prop} {xx : Exn → Prop} {pw pw1 : PXs} {pg pg1 : PGt} {pe : PX} {vs vs1 : List Nat} {xss : List (List Int)} (hc : clr ρ vs = true) (hw : ∀ q : List D → Prop, q (xss.map dI) → pw ρ q xx) (hl : xss.length ≤ 300)
    (hs : ∀ xs ∈ xss, xs.length ≤ 300 ∧ ∃ ρ', pg (dI xs) (wipeE ρ vs) = some ρ' ∧ clr ρ' vs1 = true ∧ (∀ q : List D → Prop, q (xs.map D.int) → pw1 ρ' q fun _ => False) ∧ ∀ x : Int, ∃ ρ'', pg1 (.int x) (wipeE ρ' vs1) = some ρ'' ∧ ∀ q : D → Prop, q (.int x) → pe ρ'' q fun _ => False)
    (hd : po (dI xss.flatten)) : pLc2 pw pg pw1 pg1 pe vs vs1 ρ po xx := by
  refine ⟨⟨hc, hw _ ⟨by rw [List.length_map]; exact hl, fun i acc => acc = ((xss.take i).flatten).map D.int, rfl, ?_, ?_⟩⟩⟩
  · rintro i d acc hi rfl
    obtain ⟨xs, hx, rfl⟩ := map_at hi
    obtain ⟨h3, ρ', e1, hc1, hw1, hx1⟩ := hs xs (List.mem_of_getElem? hx)
    rw [e1]
    refine ⟨⟨hc1, hw1 _ ⟨by rw [List.length_map]; exact h3, fun j acc => acc = ((xss.take i).flatten).map D.int ++ (xs.take j).map D.int, by show _ = _ ++ (xs.take 0).map D.int; rw [List.take_zero, List.map_nil, List.append_nil], ?_, ?_⟩⟩⟩
    · rintro j e acc' hj rfl
      obtain ⟨x, hx', rfl⟩ := map_at hj
      obtain ⟨ρ'', e2, he⟩ := hx1 x
      rw [e2]
      refine he _ ?_
      show _ ++ _ ++ [D.int x] = _ ++ (xs.take (j + 1)).map D.int
      rw [List.take_add_one, hx', List.map_append, List.append_assoc]
      rfl
    · rintro acc' rfl
      show _ ++ (xs.take (xs.map D.int).length).map D.int = ((xss.take (i + 1)).flatten).map D.int
      rw [List.length_map, List.take_length, ← List.map_append, List.take_add_one, hx, List.flatten_append]
      simp
  · rintro acc rfl
    show po (.lst (((xss.take (xss.map dI).length).flatten).map D.int))
    rw [List.length_map, List.take_length]
    exact hd
def intsD (ds : List D) : List Int := ds.filterMap fun d => match d with | .int i => some i | _ => none
theorem intsD_map : ∀ ns : List Int, intsD (ns.map D.int) = ns
  | [] => rfl
  | x :: r => by
    show x :: intsD (r.map D.int) = _
    rw [intsD_map r]
theorem tcols_nil (n : Nat) : tcols n [] = (List.range n).map (unitW n) := rfl
theorem tcols_mem {n : Nat} {ms : List Mv} {c : List Int} (h : c ∈ tcols n ms) : ∃ i, i < n ∧ c = wAs (unitW n i) ms := by
  obtain ⟨i, hi, rfl⟩ := List.mem_map.mp h
  exact ⟨i, List.mem_range.mp hi, rfl⟩
theorem tcols_len (n : Nat) (ms : List Mv) : (tcols n ms).length = n := by unfold tcols; rw [List.length_map, List.length_range]
theorem gcdL_zero : ∀ {ns : List Int}, (∀ x ∈ ns, x = 0) → gcdL ns = 0
  | [], _ => rfl
  | x :: r, h => by
    have hx := h x List.mem_cons_self
    subst hx
    exact gcdL_zero (ns := r) fun y hy => h y (List.mem_cons_of_mem _ hy)
theorem g_table_ofV {n : Nat} {ms : List Mv} {j : Nat} (h2 : 2 ≤ n) (h8 : n ≤ 8) (h40 : ms.length ≤ 40) (hO : ∀ m ∈ ms, OkM n j m) (hk : 1 + ms.length * (j + 5) ≤ 8000) (h : po (dLL (tblOf n (tcols n ms)))) : G_table_of [.int (n : Int), dMs ms] po xx := by
  have colL : ∀ {ms : List Mv} {c : List Int}, c ∈ tcols n ms → c.length = n := fun hc => by
    obtain ⟨i, _, rfl⟩ := tcols_mem hc
    rw [wAs_len]; exact unit_len n i
  refine ⟨rfl, g_check_slidersD rfl (fun _ => ?_) fun e => ?_⟩
  · refine ⟨rfl, g_check_moves (k := j) h40 hO h8 ?_⟩
    refine lc_map (ds := rngD 0 n) (fun d => match d with | .int a => dI (unitW n a.toNat) | d => d) rfl (fun q h => ⟨by omega, by omega, h⟩) (by rw [rngT_len]; omega) (fun x hx => ?_) ?_
    · obtain ⟨i, hi⟩ := List.getElem?_of_mem hx
      obtain ⟨_, rfl⟩ := rngT_at hi
      refine ⟨_, rfl, fun q hq => ⟨rfl, ?_⟩⟩
      have e : (0 + (i : Int)) = ((i : Nat) : Int) := by omega
      rw [e] at hq ⊢
      exact g_unit_weights h8 hq
    · rw [rngT_map]
      have e : dLL (tcols n []) = .lst ((List.range n).map fun (i : Nat) => dI (unitW n (0 + (i : Int)).toNat)) := by
        unfold dLL
        rw [tcols_nil, List.map_map]
        congr 1
        refine List.map_congr_left fun a _ => ?_
        show dI (unitW n a) = _
        rw [show (0 + (a : Int)).toNat = a by omega]
      show (kSeq _ _) _ [_, _, some (.d (.lst ((List.range n).map fun (i : Nat) => dI (unitW n (0 + (i : Int)).toNat)))), _, _, _, _, _]
      rw [← e]
      refine for_ind (ds := ms.map dMv) (fun q h => h) (by rw [List.length_map]; omega) (fun i ρ => i ≤ ms.length ∧ ∃ z, ρ = [some (.d (.int (n : Int))), some (.d (dMs ms)), some (.d (dLL (tcols n (ms.take i)))), z, none, none, none, none]) ⟨Nat.zero_le _, none, rfl⟩ ?_ ?_
      · rintro i d ρ hi ⟨hle, z, rfl⟩
        obtain ⟨m, hm, rfl⟩ := map_at hi
        have hlt := (List.getElem?_eq_some_iff.mp hm).1
        have o := hO m (List.mem_of_getElem? hm)
        have hmul : (i + 1) * (j + 5) ≤ ms.length * (j + 5) := Nat.mul_le_mul_right _ (by omega)
        rw [Nat.succ_mul] at hmul
        refine lc_map (ds := (tcols n (ms.take i)).map dI) (fun d => match d with | .lst ds => dI (wAfter (intsD ds) m.1 m.2.1 m.2.2) | d => d) rfl (fun q h => h) (by rw [List.length_map, tcols_len]; omega) (fun x hx => ?_) ?_
        · obtain ⟨c, hc, rfl⟩ := List.mem_map.mp hx
          refine ⟨_, rfl, fun q hq => ⟨rfl, ?_⟩⟩
          have hcl := colL hc
          obtain ⟨u, hu, rfl⟩ := tcols_mem hc
          have hz : Sz (1 + i * (j + 5)) (wAs (unitW n u) (ms.take i)) := by
            have := wAs_sz (n := n) (j := j) (ms := ms.take i) (unit_sz n u) (by rw [unit_len]; exact h8) (unit_len n u) fun x hx => hO x (List.mem_of_mem_take hx)
            rw [List.length_take, Nat.min_eq_left (by omega)] at this
            exact this
          have hq' : q (dI (wAfter (intsD ((wAs (unitW n u) (ms.take i)).map D.int)) m.1 m.2.1 m.2.2)) := hq
          rw [intsD_map] at hq'
          exact g_weights_after (k := 1 + i * (j + 5)) (j := j) (by omega) (by rw [hcl]; exact o.s) o.t o.tb hz o.z (by omega) hq'
        · have e2 : dLL (tcols n (ms.take (i + 1))) = .lst (((tcols n (ms.take i)).map dI).map fun d => match d with | .lst ds => dI (wAfter (intsD ds) m.1 m.2.1 m.2.2) | d => d) := by
            unfold dLL tcols
            rw [List.map_map, List.map_map, List.map_map]
            congr 1
            refine List.map_congr_left fun a _ => ?_
            show dI (wAs (unitW n a) (ms.take (i + 1))) = dI (wAfter (intsD ((wAs (unitW n a) (ms.take i)).map D.int)) m.1 m.2.1 m.2.2)
            rw [intsD_map, wAs_take hm]
          rw [← e2]
          exact ⟨by omega, _, rfl⟩
      · rintro ρ ⟨_, z, rfl⟩
        rw [List.length_map, List.take_length]
        have gp : 0 < gcdL (tcols n ms).flatten := tcols_pos h2 h8 hO
        have hsz : ∀ c ∈ tcols n ms, Sz (1 + ms.length * (j + 5)) c := fun c hc => by
          obtain ⟨u, hu, rfl⟩ := tcols_mem hc
          exact wAs_sz (n := n) (j := j) (unit_sz n u) (by rw [unit_len]; exact h8) (unit_len n u) hO
        have gz : (gcdL (tcols n ms).flatten).natAbs < 2 ^ (1 + ms.length * (j + 5)) := by
          obtain ⟨x, hx, hx0⟩ : ∃ x ∈ (tcols n ms).flatten, x ≠ 0 := by
            by_cases c : ∃ x ∈ (tcols n ms).flatten, x ≠ 0
            · exact c
            · exfalso
              have z : gcdL (tcols n ms).flatten = 0 := gcdL_zero fun x hx => by
                by_cases q : x = 0
                · exact q
                · exact absurd ⟨x, hx, q⟩ c
              omega
          obtain ⟨c, hc, hxc⟩ := List.mem_flatten.mp hx
          have h1 := hsz c hc x hxc
          have h2 := Nat.le_of_dvd (Int.natAbs_pos.mpr hx0) (Int.natAbs_dvd_natAbs.mpr (gcdL_dvd hx))
          omega
        refine lc2_flat (xss := tcols n ms) (pw := pwL (pV 2)) (pg := gvN 6) (pw1 := pwL (pV 6)) (pg1 := gvN 7) (pe := pV 7) (vs := [6, 7]) (vs1 := [7]) (ρ := [some (.d (.int (n : Int))), some (.d (dMs ms)), some (.d (dLL (tcols n ms))), z, none, none, none, none]) rfl (fun q h => h) (by rw [tcols_len]; omega) (fun xs hx => ⟨by rw [colL hx]; omega, _, rfl, rfl, fun q h => h, fun x => ⟨_, rfl, fun q h => by exact h⟩⟩) ?_
        refine ⟨rfl, g_common_divisor ?_ ?_⟩
        · rw [List.length_flatten]
          have : ((tcols n ms).map List.length).sum ≤ 8 * 8 := by
            have e : (tcols n ms).map List.length = List.replicate n n := by
              refine List.eq_replicate_iff.mpr ⟨by rw [List.length_map, tcols_len], fun x hx => ?_⟩
              obtain ⟨c, hc, rfl⟩ := List.mem_map.mp hx
              exact colL hc
            rw [e, List.sum_replicate_nat]
            exact Nat.mul_le_mul h8 h8
          omega
        · refine lc_map (ds := rngD 0 n) (fun d => match d with | .int s => dI ((tcols n ms).map fun c => c.getD s.toNat 0 / gcdL (tcols n ms).flatten) | d => d) rfl (fun q h => ⟨by omega, by omega, h⟩) (by rw [rngT_len]; omega) (fun x hx => ?_) ?_
          · obtain ⟨i, hi⟩ := List.getElem?_of_mem hx
            obtain ⟨hin, rfl⟩ := rngT_at hi
            refine ⟨_, rfl, fun q hq => ?_⟩
            refine lc_map (ds := (tcols n ms).map dI) (fun d => match d with | .lst ds => .int ((intsD ds).getD (0 + (i : Int)).toNat 0 / gcdL (tcols n ms).flatten) | d => d) rfl (fun q h => h) (by rw [List.length_map, tcols_len]; omega) (fun x hx => ?_) ?_
            · obtain ⟨c, hc, rfl⟩ := List.mem_map.mp hx
              refine ⟨_, rfl, fun q hq => ?_⟩
              have e : (0 + (i : Int)) = ((i : Nat) : Int) := by omega
              have hq' : q (.int ((intsD (c.map D.int)).getD (0 + (i : Int)).toNat 0 / gcdL (tcols n ms).flatten)) := hq
              rw [intsD_map, e] at hq'
              rw [e]
              exact ⟨_, ints_at (by rw [colL hc]; exact hin), wide_div gp gz (by omega) (by omega), hq'⟩
            · have e2 : dI ((tcols n ms).map fun c => c.getD (0 + (i : Int)).toNat 0 / gcdL (tcols n ms).flatten) = .lst (((tcols n ms).map dI).map fun d => match d with | .lst ds => .int ((intsD ds).getD (0 + (i : Int)).toNat 0 / gcdL (tcols n ms).flatten) | d => d) := by
                unfold dI
                rw [List.map_map, List.map_map]
                congr 1
                refine List.map_congr_left fun a _ => ?_
                show D.int (a.getD (0 + (i : Int)).toNat 0 / _) = D.int ((intsD (a.map D.int)).getD _ 0 / _)
                rw [intsD_map]
              rw [← e2]
              exact hq
          · rw [rngT_map]
            have e3 : dLL (tblOf n (tcols n ms)) = .lst ((List.range n).map fun (i : Nat) => dI ((tcols n ms).map fun c => c.getD (0 + (i : Int)).toNat 0 / gcdL (tcols n ms).flatten)) := by
              unfold dLL tblOf
              rw [List.map_map]
              congr 1
              refine List.map_congr_left fun a _ => ?_
              show dI _ = dI _
              rw [show (0 + (a : Int)).toNat = a by omega]
            rw [e3] at h
            exact h
  · have : (decide ((2 : Int) ≤ (n : Int)) && decide ((n : Int) ≤ 8)) = false := e
    rw [decide_eq_true (by omega), decide_eq_true (by omega)] at this
    cases this
/-! any values: moves, judged -/
structure Mo (j : Nat) (d : D) : Prop where
  q : Lq d
  z : ∀ ms : List Mv, d = dMs ms → ∀ m ∈ ms, m.2.2.natAbs < 2 ^ j
theorem okMs_get {n j : Nat} {d : D} (m : Mo j d) (h : okMsD (n : Int) d = true) : ∃ ms : List Mv, d = dMs ms ∧ ms.length ≤ 40 ∧ ∀ x ∈ ms, OkM n j x := by
  cases d with
  | lst ds =>
    rw [okMs_lst, Bool.and_eq_true] at h
    obtain ⟨h1, h2⟩ := h
    have e' : (decide (ds.length ≤ 40) && ds.all isMvD) = true := h1
    rw [Bool.and_eq_true, decide_eq_true_eq] at e'
    obtain ⟨ms, rfl, hs⟩ := isMs_mvs e'.2
    rw [ok_there] at h2
    have e1 := e'.1
    rw [List.length_map] at e1
    refine ⟨ms, rfl, e1, fun x hx => ?_⟩
    obtain ⟨_, q2, q3, q4⟩ := hs x hx
    have q1 := of_decide_eq_true (List.all_eq_true.mp h2 x hx)
    exact ⟨by omega, q2, q3, q4, m.z ms rfl x hx⟩
  | _ => cases h
theorem g_chkM {n j : Nat} {d : D} (m : Mo j d) (h0 : ∀ ms : List Mv, d = dMs ms → ms.length ≤ 40 → (∀ x ∈ ms, OkM n j x) → po .non) (h1 : okMsD (n : Int) d = false → xx ⟨"InvalidMovesError", none⟩) : G_check_moves [d, .int (n : Int)] po xx :=
  g_check_movesD m.q (fun e => by obtain ⟨ms, e1, e2, e3⟩ := okMs_get m e; exact h0 ms e1 e2 e3) h1
theorem g_chkN {a : D} (ha : a.tv = true) (h0 : ∀ n : Nat, a = .int (n : Int) → 2 ≤ n → n ≤ 8 → po .non) (h1 : okN a = false → xx ⟨"InvalidNumberError", none⟩) : G_check_sliders [a] po xx := by
  refine g_check_slidersD ha (fun e => ?_) h1
  cases a with
  | int i =>
    have e' : (decide ((2 : Int) ≤ i) && decide (i ≤ 8)) = true := e
    rw [Bool.and_eq_true, decide_eq_true_eq, decide_eq_true_eq] at e'
    exact h0 i.toNat (by rw [show ((i.toNat : Nat) : Int) = i by omega]) (by omega) (by omega)
  | _ => cases e
/-- a number of sliders, then moves -/
def badN (a : D) (xx : Exn → Prop) : Prop := okN a = false → xx ⟨"InvalidNumberError", none⟩
def badM (a d : D) (xx : Exn → Prop) : Prop := ∀ n : Int, a = .int n → okN a = true → okMsD n d = false → xx ⟨"InvalidMovesError", none⟩
theorem okN_int {n : Nat} (h2 : 2 ≤ n) (h8 : n ≤ 8) : okN (.int (n : Int)) = true := by
  show (decide ((2 : Int) ≤ (n : Int)) && decide ((n : Int) ≤ 8)) = true
  rw [decide_eq_true (by omega), decide_eq_true (by omega)]; rfl
theorem jk {l j : Nat} (hl : l ≤ 40) (hj : j ≤ 190) : 1 + l * (j + 5) ≤ 8000 := by
  have := Nat.mul_le_mul (show l ≤ 40 from hl) (show j + 5 ≤ 195 by omega)
  omega
theorem g_table_ofE {a d : D} {j : Nat} (hj : j ≤ 190) (ha : a.tv = true) (md : Mo j d) (e1 : badN a xx) (e2 : badM a d xx) (h : (∃ n : Nat, a = .int (n : Int) ∧ okN a = true ∧ okMsD n d = true) → ∀ x, po x) : G_table_of [a, d] po xx := by
  by_cases c : ∃ n : Nat, a = .int (n : Int) ∧ okN a = true ∧ okMsD n d = true
  · obtain ⟨n, rfl, c1, c2⟩ := c
    obtain ⟨ms, rfl, h40, hO⟩ := okMs_get md c2
    have c1' : (decide ((2 : Int) ≤ (n : Int)) && decide ((n : Int) ≤ 8)) = true := c1
    rw [Bool.and_eq_true, decide_eq_true_eq, decide_eq_true_eq] at c1'
    exact g_table_ofV (j := j) (by omega) (by omega) h40 hO (jk h40 hj) (h ⟨n, rfl, c1, c2⟩ _)
  · refine ⟨rfl, g_chkN ha (fun n e n2 n8 => ?_) e1⟩
    subst e
    refine ⟨rfl, g_chkM (j := j) md (fun ms e h40 hO => ?_) fun q => e2 n rfl (okN_int n2 n8) q⟩
    refine absurd ⟨n, rfl, okN_int n2 n8, ?_⟩ c
    by_cases q : okMsD (n : Int) d = true
    · exact q
    · exfalso
      subst e
      have q' : okMsD (n : Int) (dMs ms) = false := by simpa using q
      have : okMsD (n : Int) (.lst (ms.map dMv)) = true := by
        rw [okMs_lst, ok_there, Bool.and_eq_true]
        refine ⟨?_, ?_⟩
        · show (decide ((ms.map dMv).length ≤ 40) && (ms.map dMv).all isMvD) = true
          rw [List.length_map, decide_eq_true h40, Bool.true_and, List.all_eq_true]
          intro x hx
          obtain ⟨m, hm, rfl⟩ := List.mem_map.mp hx
          have o := hO m hm
          have os := o.s
          show mvB (m.1 : Int) m.2.1 m.2.2 = true
          unfold mvB
          rw [decide_eq_true (by omega), decide_eq_true (by omega), decide_eq_true o.t, decide_eq_true o.tb, decide_eq_true o.g]; rfl
        · exact List.all_eq_true.mpr fun m hm => decide_eq_true (by have := (hO m hm).s; omega)
      exact q this
theorem okMs_of {n j : Nat} {ms : List Mv} (h40 : ms.length ≤ 40) (hn : n ≤ 8) (hO : ∀ m ∈ ms, OkM n j m) : okMsD (n : Int) (dMs ms) = true := by
  show okMsD (n : Int) (.lst (ms.map dMv)) = true
  rw [okMs_lst, ok_there, Bool.and_eq_true]
  refine ⟨?_, ?_⟩
  · show (decide ((ms.map dMv).length ≤ 40) && (ms.map dMv).all isMvD) = true
    rw [List.length_map, decide_eq_true h40, Bool.true_and, List.all_eq_true]
    intro x hx
    obtain ⟨m, hm, rfl⟩ := List.mem_map.mp hx
    have o := hO m hm
    have os := o.s
    show mvB (m.1 : Int) m.2.1 m.2.2 = true
    unfold mvB
    rw [decide_eq_true (by omega), decide_eq_true (by omega), decide_eq_true o.t, decide_eq_true o.tb, decide_eq_true o.g]; rfl
  · exact List.all_eq_true.mpr fun m hm => decide_eq_true (by have := (hO m hm).s; omega)
theorem len_dM (ms : List Mv) : (dMs ms).len? = some ms.length := by show some (ms.map dMv).length = _; rw [List.length_map]
theorem len_dN (ns : List Int) : (dI ns).len? = some ns.length := by show some (ns.map D.int).length = _; rw [List.length_map]
theorem pEqD_rows {neg : Bool} {u v : List Int} {k : D → Prop} (h : ∀ b : Bool, (b = true ↔ u = v) → k (.bl (ng neg b))) : pEqD neg (dI u) (dI v) k :=
  pEqD_pl (pl_dI u) (pl_dI v) (by rw [dep_dI]; decide) (by rw [dep_dI]; decide) fun b hb => h b (hb.trans ⟨fun z => by
    unfold dI at z
    injection z with z
    have := congrArg intsD z
    rw [intsD_map, intsD_map] at this
    exact this, fun z => by rw [z]⟩)
theorem pl_LL : ∀ xss : List (List Int), D.plA (xss.map dI) = true ∧ D.depA (xss.map dI) ≤ 1
  | [] => by simp [D.plA, D.depA]
  | x :: r => by
    have := pl_LL r
    simp only [List.map_cons, D.plA, D.depA, pl_dI, this.1, Bool.and_true, true_and, dep_dI]
    omega
theorem pl_dLL (xss : List (List Int)) : (dLL xss).pl = true := by unfold dLL; simp only [D.pl]; exact (pl_LL xss).1
theorem dep_dLL (xss : List (List Int)) : (dLL xss).dep ≤ 2 := by unfold dLL; simp only [D.dep]; have := (pl_LL xss).2; omega
abbrev N_do_same_for_two : List Str := ["moves", "other_moves"]
def t_do_same_for_two (K : PySem.W.Frag) : TS :=
  (tSeq (tIfS (tOr (tTest (tOp rEq (tCB (Evl.rLenS K) (tCons (tVar 0) tNil)) (tC (.int 0)))) (tTest (tOp rEq (tCB (Evl.rLenS K) (tCons (tVar 1) tNil)) (tC (.int 0))))) (tRet (tOp rEq (tCB (Evl.rLenS K) (tCons (tVar 0) tNil)) (tCB (Evl.rLenS K) (tCons (tVar 1) tNil)))) tNext)
    (tRet (tOp (rEqD K) (tCallS (sp_row_behind K) (WE W0) (tCons (tLst (tCons (tC (.int 1)) (tCons (tC (.int 1)) tNil))) (tCons (tVar 0) tNil))) (tCallS (sp_row_behind K) (WE W0) (tCons (tLst (tCons (tC (.int 1)) (tCons (tC (.int 1)) tNil))) (tCons (tVar 1) tNil))))))
def p_do_same_for_two : PS' :=
  (kSeq (kIf (qOr (qTest (pOp (pEq false) (pCB pLen (pCons (pV 0) pNil)) (pC (.int 0)))) (qTest (pOp (pEq false) (pCB pLen (pCons (pV 1) pNil)) (pC (.int 0))))) (kRet (pOp (pEq false) (pCB pLen (pCons (pV 0) pNil)) (pCB pLen (pCons (pV 1) pNil)))) kNext)
    (kRet (pOp (pEqD false) (pCall 2 G_row_behind (pCons (pLst (pCons (pC (.int 1)) (pCons (pC (.int 1)) pNil))) (pCons (pV 0) pNil))) (pCall 2 G_row_behind (pCons (pLst (pCons (pC (.int 1)) (pCons (pC (.int 1)) pNil))) (pCons (pV 1) pNil))))))
def G_do_same_for_two : GD := Gof0 p_do_same_for_two false 0
def sp_do_same_for_two (K : PySem.W.Frag) : Sp := spD (gx K) 2 false .f 0 G_do_same_for_two
theorem ss_do_same_for_two {K : PySem.W.Frag} : SS (gx K) W0 .f 0 (t_do_same_for_two K) p_do_same_for_two := by
  unfold t_do_same_for_two p_do_same_for_two
  exact SS.mono ((ss_seq (ss_if (sb_or (sb_test (sx_op ((sx_cb (sa_ct (sx_v).et sa_nil) oa_len)).ft (sx_int).ft os_eq)) (sb_test (sx_op ((sx_cb (sa_ct (sx_v).et sa_nil) oa_len)).ft (sx_int).ft os_eq))) (ss_retF (sx_op ((sx_cb (sa_ct (sx_v).et sa_nil) oa_len)).ft ((sx_cb (sa_ct (sx_v).et sa_nil) oa_len)).ft os_eq)) ss_next)
    (ss_retF (sx_op ((sx_callE (.inr rfl) (sa_ce ((sx_lst (sa_ce (sx_int).fe (sa_ce (sx_int).fe sa_nil)))).fe (sa_ce sx_v sa_nil)))).ft ((sx_callE (.inr rfl) (sa_ce ((sx_lst (sa_ce (sx_int).fe (sa_ce (sx_int).fe sa_nil)))).fe (sa_ce sx_v sa_nil)))).ft os_eqD)))) (by decide +kernel)
theorem ln_do_same_for_two {K : PySem.W.Frag} {vs : List V} {H : Hp} {Q : VK} {E : XK} (h : sp_do_same_for_two K vs H Q E) : vs.length = (["moves", "other_moves"] : List Str).length := spD_len h
theorem rd_do_same_for_two {K : PySem.W.Frag} {vs : List V} {H : Hp} {Q : VK} {E : XK} (h : sp_do_same_for_two K vs H Q E) : t_do_same_for_two K (fin Q) (L2.start N_do_same_for_two vs) H := rd_def0 ss_do_same_for_two (.inr rfl) (by decide +kernel) h
theorem one_one : IsRow [1, 1] := ⟨by decide, by decide, by decide, by decide⟩
theorem g_do_same_for_two {ms ms' : List Mv} {j : Nat} (hj : j ≤ 190) (h40 : ms.length ≤ 40) (h40' : ms'.length ≤ 40) (hO : ∀ m ∈ ms, OkM 2 j m) (hO' : ∀ m ∈ ms', OkM 2 j m) (h : ∀ x, po x) : G_do_same_for_two [dMs ms, dMs ms'] po xx := by
  have z1 : Sz 1 [1, 1] := by intro x hx; simp at hx; subst hx; decide
  have go : (kRet (pOp (pEqD false) (pCall 2 G_row_behind (pCons (pLst (pCons (pC (.int 1)) (pCons (pC (.int 1)) pNil))) (pCons (pV 0) pNil))) (pCall 2 G_row_behind (pCons (pLst (pCons (pC (.int 1)) (pCons (pC (.int 1)) pNil))) (pCons (pV 1) pNil))))) (topK po fun _ => False) [some (.d (dMs ms)), some (.d (dMs ms'))] :=
    ⟨by show 2 ≤ 100000; decide, rfl, g_row_behind (ns := [1, 1]) (n := 2) (k := 1) (j := j) one_one rfl hO z1 (by omega) (by have := jk h40 hj; omega) ⟨by show 2 ≤ 100000; decide, rfl, g_row_behind (ns := [1, 1]) (n := 2) (k := 1) (j := j) one_one rfl hO' z1 (by omega) (by have := jk h40' hj; omega) (pEqD_rows fun b hb => h _)⟩⟩
  have ret : (kRet (pOp (pEq false) (pCB pLen (pCons (pV 0) pNil)) (pCB pLen (pCons (pV 1) pNil)))) (topK po fun _ => False) [some (.d (dMs ms)), some (.d (dMs ms'))] := ⟨_, len_dM ms, _, len_dM ms', pEq_int fun b hb => h _⟩
  exact ⟨_, len_dM ms, pEq_int fun b hb => ite_b (fun _ => ret) fun _ => ⟨_, len_dM ms', pEq_int fun b hb => ite_b (fun _ => ret) fun _ => go⟩⟩
abbrev N_do_same : List Str := ["sliders", "moves", "other_moves"]
def t_do_same (K : PySem.W.Frag) (W : XW) : TS :=
  (tSeq (tDrop (tCallS (sp_check_sliders K) (WE W) (tCons (tVar 0) tNil)))
    (tSeq (tDrop (tCallS (sp_check_moves K) (WE W) (tCons (tVar 1) (tCons (tVar 0) tNil))))
    (tSeq (tDrop (tCallS (sp_check_moves K) (WE W) (tCons (tVar 2) (tCons (tVar 0) tNil))))
    (tSeq (tIfS (tTest (tOp rEq (tVar 0) (tC (.int 2)))) (tRet (tCallS (sp_do_same_for_two K) (WE W) (tCons (tVar 1) (tCons (tVar 2) tNil)))) tNext)
    (tRet (tOp (rEqD K) (tCallS (sp_table_of K) (WE W) (tCons (tVar 0) (tCons (tVar 1) tNil))) (tCallS (sp_table_of K) (WE W) (tCons (tVar 0) (tCons (tVar 2) tNil)))))))))
def p_do_same : PS' :=
  (kSeq (kDrop (pCall 1 G_check_sliders (pCons (pV 0) pNil)))
    (kSeq (kDrop (pCall 2 G_check_moves (pCons (pV 1) (pCons (pV 0) pNil))))
    (kSeq (kDrop (pCall 2 G_check_moves (pCons (pV 2) (pCons (pV 0) pNil))))
    (kSeq (kIf (qTest (pOp (pEq false) (pV 0) (pC (.int 2)))) (kRet (pCall 2 G_do_same_for_two (pCons (pV 1) (pCons (pV 2) pNil)))) kNext)
    (kRet (pOp (pEqD false) (pCall 2 G_table_of (pCons (pV 0) (pCons (pV 1) pNil))) (pCall 2 G_table_of (pCons (pV 0) (pCons (pV 2) pNil)))))))))
def G_do_same : GD := Gof p_do_same false 0
def sp_do_same (K : PySem.W.Frag) : Sp := spD (gx K) 3 false .f 0 G_do_same
theorem ss_do_same {K : PySem.W.Frag} {W : XW} : SS (gx K) W .f 0 (t_do_same K W) p_do_same := by
  unfold t_do_same p_do_same
  exact SS.mono ((ss_seq (ss_drop (sx_callE (.inr rfl) (sa_ce sx_v sa_nil)))
    (ss_seq (ss_drop (sx_callE (.inr rfl) (sa_ce sx_v (sa_ce sx_v sa_nil))))
    (ss_seq (ss_drop (sx_callE (.inr rfl) (sa_ce sx_v (sa_ce sx_v sa_nil))))
    (ss_seq (ss_if (sb_test (sx_op (sx_v).et (sx_int).ft os_eq)) (ss_retF (sx_callE (.inr rfl) (sa_ce sx_v (sa_ce sx_v sa_nil)))) ss_next)
    (ss_retF (sx_op ((sx_callE (.inr rfl) (sa_ce sx_v (sa_ce sx_v sa_nil)))).ft ((sx_callE (.inr rfl) (sa_ce sx_v (sa_ce sx_v sa_nil)))).ft os_eqD))))))) (by decide +kernel)
theorem ln_do_same {K : PySem.W.Frag} {vs : List V} {H : Hp} {Q : VK} {E : XK} (h : sp_do_same K vs H Q E) : vs.length = (["sliders", "moves", "other_moves"] : List Str).length := spD_len h
theorem rd_do_same {K : PySem.W.Frag} {vs : List V} {H : Hp} {Q : VK} {E : XK} (h : sp_do_same K vs H Q E) : t_do_same K (fun cls dd _ H => E cls dd H) (fin Q) (L2.start N_do_same vs) H := rd_def ss_do_same (.inr rfl) (by decide +kernel) h
theorem g_do_sameE {a d e : D} {j : Nat} (hj : j ≤ 190) (ha : a.tv = true) (md : Mo j d) (me : Mo j e) (e1 : badN a xx) (e2 : badM a d xx) (e3 : badM a e xx) (h : (∃ n : Nat, a = .int (n : Int) ∧ okN a = true ∧ okMsD n d = true ∧ okMsD n e = true) → ∀ x, po x) : G_do_same [a, d, e] po xx := by
  refine ⟨rfl, g_chkN ha (fun n en n2 n8 => ?_) e1⟩
  subst en
  refine ⟨rfl, g_chkM (j := j) md (fun ms em h40 hO => ?_) fun q => e2 n rfl (okN_int n2 n8) q⟩
  refine ⟨rfl, g_chkM (j := j) me (fun ms' em' h40' hO' => ?_) fun q => e3 n rfl (okN_int n2 n8) q⟩
  subst em; subst em'
  have hv := h ⟨n, rfl, okN_int n2 n8, okMs_of h40 n8 hO, okMs_of h40' n8 hO'⟩
  refine pEq_int fun b hb => ite_b (fun e => ?_) fun _ => ?_
  · have : n = 2 := by
      have := hb.mp (by cases b with | true => rfl | false => cases e)
      omega
    subst this
    exact ⟨rfl, g_do_same_for_two hj h40 h40' hO hO' hv⟩
  · refine ⟨rfl, g_table_ofV n2 n8 h40 hO (jk h40 hj) ⟨rfl, g_table_ofV n2 n8 h40' hO' (jk h40' hj) (pEqD_pl (pl_dLL _) (pl_dLL _) ?_ ?_ fun b hb => hv _)⟩⟩
    · have := dep_dLL (tblOf n (tcols n ms)); omega
    · have := dep_dLL (tblOf n (tcols n ms')); omega
abbrev N_telling_rows : List Str := ["sliders", "even", "_", "slider", "at"]
def t_telling_rows (K : PySem.W.Frag) : TS :=
  (tSeq (tAsg (tLc (iRng1 (tCons (tVar 0) tNil)) (gName 2) tYes (tC (.int 1)) [2]) (gName 1))
    (tRet (tOp (rCatQ K) (tLst (tCons (tVar 1) tNil)) (tLc (iRng1 (tCons (tVar 0) tNil)) (gName 3) tYes (tLc (iRng1 (tCons (tVar 0) tNil)) (gName 4) tYes (tIf (tTest (tOp rEq (tVar 4) (tVar 3))) (tC (.int 2)) (tC (.int 1))) [4]) [3]))))
def p_telling_rows : PS' :=
  (kSeq (kAsgD 1 (pLc (pwR1 (pCons (pV 0) pNil)) (gvN 2) qYes (pC (.int 1)) [2]))
    (kRet (pOp pCat (pLst (pCons (pV 1) pNil)) (pLc (pwR1 (pCons (pV 0) pNil)) (gvN 3) qYes (pLc (pwR1 (pCons (pV 0) pNil)) (gvN 4) qYes (pIf (qTest (pOp (pEq false) (pV 4) (pV 3))) (pC (.int 2)) (pC (.int 1))) [4]) [3]))))
def G_telling_rows : GD := Gof0 p_telling_rows false 4
def sp_telling_rows (K : PySem.W.Frag) : Sp := spD (gx K) 1 false .f 0 G_telling_rows
theorem ss_telling_rows {K : PySem.W.Frag} : SS (gx K) W0 .f 0 (t_telling_rows K) p_telling_rows := by
  unfold t_telling_rows p_telling_rows
  exact SS.mono ((ss_seq (ss_asgD ((sx_lc (vs := [2]) (sw_rng1 (sa_ct (sx_v).et sa_nil)) sg_name (by decide) sb_yes (sx_int).fe)).fe)
    (ss_retF (sx_cat ((sx_lst (sa_ce sx_v sa_nil))).fb ((sx_lc (vs := [3]) (sw_rng1 (sa_ct (sx_v).et sa_nil)) sg_name (by decide) sb_yes ((sx_lc (vs := [4]) (sw_rng1 (sa_ct (sx_v).et sa_nil)) sg_name (by decide) sb_yes ((sx_if (sb_test (sx_op (sx_v).et (sx_v).et os_eq)) sx_int sx_int)).fe)).fe)).fb)))) (by decide +kernel)
theorem ln_telling_rows {K : PySem.W.Frag} {vs : List V} {H : Hp} {Q : VK} {E : XK} (h : sp_telling_rows K vs H Q E) : vs.length = (["sliders"] : List Str).length := spD_len h
theorem rd_telling_rows {K : PySem.W.Frag} {vs : List V} {H : Hp} {Q : VK} {E : XK} (h : sp_telling_rows K vs H Q E) : t_telling_rows K (fin Q) (L2.start N_telling_rows vs) H := rd_def0 ss_telling_rows (.inr rfl) (by decide +kernel) h
theorem tell_eq {n i : Nat} (hi : i < n) : (List.range n).map (fun (a : Nat) => if (0 + (a : Int)) = (i : Int) then (2 : Int) else 1) = onesI n i := by
  refine List.ext_getElem (by rw [List.length_map, List.length_range, onesI_len]) fun k h1 h2 => ?_
  rw [List.length_map, List.length_range] at h1
  rw [List.getElem_map, List.getElem_range]
  have := onesI_get (n := n) (i := i) h1
  rw [List.getD_eq_getElem?_getD, List.getElem?_eq_getElem h2, Option.getD_some] at this
  rw [this]
  by_cases c : k = i
  · rw [if_pos (by omega), if_pos c]
  · rw [if_neg (by omega), if_neg c]
theorem ones_eq (n : Nat) : ((rngD 0 n).map fun _ => D.int 1) = (onesW n).map D.int := by
  unfold onesW rngD
  rw [List.map_map, List.map_replicate]
  refine List.eq_replicate_iff.mpr ⟨by simp, fun x hx => ?_⟩
  obtain ⟨_, _, rfl⟩ := List.mem_map.mp hx
  rfl
def tellD (n : Nat) : List D := dI (onesW n) :: (List.range n).map fun i => dI (onesI n i)
theorem g_telling_rows {n : Nat} (h8 : n ≤ 8) (h : po (.lst (tellD n))) : G_telling_rows [.int (n : Int)] po xx := by
  refine lc_map (ds := rngD 0 n) (fun _ => .int 1) rfl (fun q h => ⟨by omega, by omega, h⟩) (by rw [rngT_len]; omega) (fun x hx => ⟨_, rfl, fun q h => h⟩) ?_
  rw [ones_eq]
  refine ⟨by show 1 ≤ 100000; decide, ?_⟩
  refine lc_map (ds := rngD 0 n) (fun d => match d with | .int i => dI ((List.range n).map (fun (a : Nat) => if (0 + (a : Int)) = i then (2 : Int) else 1)) | d => d) rfl (fun q h => ⟨by omega, by omega, h⟩) (by rw [rngT_len]; omega) (fun x hx => ?_) ?_
  · obtain ⟨i, hi⟩ := List.getElem?_of_mem hx
    obtain ⟨hin, rfl⟩ := rngT_at hi
    refine ⟨_, rfl, fun q hq => ?_⟩
    refine lc_map (ds := rngD 0 n) (fun d => match d with | .int a => .int (if a = 0 + (i : Int) then 2 else 1) | d => d) rfl (fun q h => ⟨by omega, by omega, h⟩) (by rw [rngT_len]; omega) (fun x hx => ?_) ?_
    · obtain ⟨a, ha⟩ := List.getElem?_of_mem hx
      obtain ⟨_, rfl⟩ := rngT_at ha
      refine ⟨_, rfl, fun q hq => pEq_int fun b hb => ite_b (fun e => ?_) fun e => ?_⟩
      · have : (0 + (a : Int)) = 0 + (i : Int) := hb.mp (by cases b with | true => rfl | false => cases e)
        have hq' : q (.int (if (0 + (a : Int)) = 0 + (i : Int) then 2 else 1)) := hq
        rw [if_pos this] at hq'; exact hq'
      · have : ¬ (0 + (a : Int)) = 0 + (i : Int) := fun z => by
          have := hb.mpr z
          rw [this] at e; cases e
        have hq' : q (.int (if (0 + (a : Int)) = 0 + (i : Int) then 2 else 1)) := hq
        rw [if_neg this] at hq'; exact hq'
    · rw [rngT_map]
      have e2 : dI ((List.range n).map (fun (a : Nat) => if (0 + (a : Int)) = 0 + (i : Int) then (2 : Int) else 1)) = .lst ((List.range n).map fun (a : Nat) => D.int (if 0 + (a : Int) = 0 + (i : Int) then 2 else 1)) := by
        unfold dI
        rw [List.map_map]; rfl
      rw [← e2]; exact hq
  · rw [rngT_map]
    have e3 : ((List.range n).map fun (i : Nat) => dI ((List.range n).map (fun (a : Nat) => if (0 + (a : Int)) = 0 + (i : Int) then (2 : Int) else 1))) = (List.range n).map fun i => dI (onesI n i) := by
      refine List.map_congr_left fun i hi => ?_
      rw [← tell_eq (List.mem_range.mp hi)]
      rw [Int.zero_add (i : Int)]
    refine ⟨?_, ?_⟩
    · rw [List.length_map, List.length_range]
      show 1 + n ≤ 100000
      omega
    · show po (.lst (dI (onesW n) :: (List.range n).map fun (i : Nat) => dI ((List.range n).map (fun (a : Nat) => if (0 + (a : Int)) = 0 + (i : Int) then (2 : Int) else 1))))
      rw [e3]
      exact h
abbrev N_parting_row : List Str := ["sliders", "moves", "other_moves", "row"]
def t_parting_row (K : PySem.W.Frag) (W : XW) : TS :=
  (tSeq (tDrop (tCallS (sp_check_sliders K) (WE W) (tCons (tVar 0) tNil)))
    (tSeq (tDrop (tCallS (sp_check_moves K) (WE W) (tCons (tVar 1) (tCons (tVar 0) tNil))))
    (tSeq (tDrop (tCallS (sp_check_moves K) (WE W) (tCons (tVar 2) (tCons (tVar 0) tNil))))
    (tSeq (tFor (iList K (tCallS (sp_telling_rows K) (WE W) (tCons (tVar 0) tNil))) (gName 3) (tIfS (tTest (tOp (rNeD K) (tCallS (sp_row_behind K) (WE W) (tCons (tVar 3) (tCons (tVar 1) tNil))) (tCallS (sp_row_behind K) (WE W) (tCons (tVar 3) (tCons (tVar 2) tNil))))) (tRet (tVar 3)) tNext))
    (tRet (tC .non))))))
def p_parting_row : PS' :=
  (kSeq (kDrop (pCall 1 G_check_sliders (pCons (pV 0) pNil)))
    (kSeq (kDrop (pCall 2 G_check_moves (pCons (pV 1) (pCons (pV 0) pNil))))
    (kSeq (kDrop (pCall 2 G_check_moves (pCons (pV 2) (pCons (pV 0) pNil))))
    (kSeq (kFor (pwL (pCall 1 G_telling_rows (pCons (pV 0) pNil))) (gvN 3) (kIf (qTest (pOp (pEqD true) (pCall 2 G_row_behind (pCons (pV 3) (pCons (pV 1) pNil))) (pCall 2 G_row_behind (pCons (pV 3) (pCons (pV 2) pNil))))) (kRet (pV 3)) kNext))
    (kRet (pC .non))))))
def G_parting_row : GD := Gof p_parting_row false 1
def sp_parting_row (K : PySem.W.Frag) : Sp := spD (gx K) 3 false .e 0 G_parting_row
theorem ss_parting_row {K : PySem.W.Frag} {W : XW} : SS (gx K) W .e 0 (t_parting_row K W) p_parting_row := by
  unfold t_parting_row p_parting_row
  exact SS.mono ((ss_seq (ss_drop (sx_callE (.inr rfl) (sa_ce sx_v sa_nil)))
    (ss_seq (ss_drop (sx_callE (.inr rfl) (sa_ce sx_v (sa_ce sx_v sa_nil))))
    (ss_seq (ss_drop (sx_callE (.inr rfl) (sa_ce sx_v (sa_ce sx_v sa_nil))))
    (ss_seq (ss_for (sw_list (md := .e) (.inl rfl) ((sx_callE (.inr rfl) (sa_ce sx_v sa_nil))).fe) sg_name (ss_if (sb_test (sx_op ((sx_callE (.inr rfl) (sa_ce sx_v (sa_ce sx_v sa_nil)))).ft ((sx_callE (.inr rfl) (sa_ce sx_v (sa_ce sx_v sa_nil)))).ft os_neD)) (ss_retE sx_v) ss_next))
    (ss_retE (sx_non).fe)))))) (by decide +kernel)
theorem ln_parting_row {K : PySem.W.Frag} {vs : List V} {H : Hp} {Q : VK} {E : XK} (h : sp_parting_row K vs H Q E) : vs.length = (["sliders", "moves", "other_moves"] : List Str).length := spD_len h
theorem rd_parting_row {K : PySem.W.Frag} {vs : List V} {H : Hp} {Q : VK} {E : XK} (h : sp_parting_row K vs H Q E) : t_parting_row K (fun cls dd _ H => E cls dd H) (fin Q) (L2.start N_parting_row vs) H := rd_def ss_parting_row (.inl rfl) (by decide +kernel) h
theorem sz_ones {n : Nat} : Sz 1 (onesW n) := fun x hx => by
  unfold onesW at hx
  rw [List.eq_of_mem_replicate hx]; decide
theorem sz_onesI {n i : Nat} : Sz 2 (onesI n i) := fun x hx => by
  unfold onesI at hx
  rcases List.mem_or_eq_of_mem_set hx with z | z
  · rw [List.eq_of_mem_replicate z]; decide
  · rw [z]; decide
theorem tell_at {n i : Nat} {d : D} (h2 : 2 ≤ n) (h8 : n ≤ 8) (h : (tellD n)[i]? = some d) : ∃ r : List Int, d = dI r ∧ IsRow r ∧ r.length = n ∧ Sz 2 r := by
  cases i with
  | zero => cases h; exact ⟨_, rfl, onesW_row h2 h8, by unfold onesW; rw [List.length_replicate], sz_ones.mono (by decide)⟩
  | succ i =>
    rw [show (tellD n)[i + 1]? = ((List.range n).map fun i => dI (onesI n i))[i]? from rfl, List.getElem?_map] at h
    cases e : (List.range n)[i]? with
    | none => rw [e] at h; cases h
    | some u => rw [e] at h; cases h; exact ⟨_, rfl, onesI_row h2 h8, onesI_len n u, sz_onesI⟩
theorem g_parting_rowE {a d e : D} {j : Nat} (hj : j ≤ 190) (ha : a.tv = true) (md : Mo j d) (me : Mo j e) (e1 : badN a xx) (e2 : badM a d xx) (e3 : badM a e xx) (h : (∃ n : Nat, a = .int (n : Int) ∧ okN a = true ∧ okMsD n d = true ∧ okMsD n e = true) → ∀ x, po x) : G_parting_row [a, d, e] po xx := by
  refine ⟨rfl, g_chkN ha (fun n en n2 n8 => ?_) e1⟩
  subst en
  refine ⟨rfl, g_chkM (j := j) md (fun ms em h40 hO => ?_) fun q => e2 n rfl (okN_int n2 n8) q⟩
  refine ⟨rfl, g_chkM (j := j) me (fun ms' em' h40' hO' => ?_) fun q => e3 n rfl (okN_int n2 n8) q⟩
  subst em; subst em'
  have hv := h ⟨n, rfl, okN_int n2 n8, okMs_of h40 n8 hO, okMs_of h40' n8 hO'⟩
  refine for_ind (ds := tellD n) (fun q h => ⟨rfl, g_telling_rows n8 h⟩) (by unfold tellD; rw [List.length_cons, List.length_map, List.length_range]; omega) (fun i ρ => ∃ z, ρ = [some (.d (.int (n : Int))), some (.d (dMs ms)), some (.d (dMs ms')), z]) ⟨none, rfl⟩ ?_ ?_
  · rintro i x ρ hi ⟨z, rfl⟩
    obtain ⟨r, rfl, hr, hl, hz⟩ := tell_at n2 n8 hi
    refine ⟨rfl, g_row_behind (n := n) (k := 2) (j := j) hr hl hO hz (by omega) (by have := jk h40 hj; omega) ⟨rfl, g_row_behind (n := n) (k := 2) (j := j) hr hl hO' hz (by omega) (by have := jk h40' hj; omega) (pEqD_rows fun b hb => ite_b (fun _ => hv _) fun _ => ⟨_, rfl⟩)⟩⟩
  · rintro ρ ⟨z, rfl⟩
    exact hv _
abbrev N_is_parting : List Str := ["moves", "other_moves", "value"]
def t_is_parting (K : PySem.W.Frag) (W : XW) : TS :=
  (tSeq (tDrop (tCallS (sp_check_moves K) (WE W) (tCons (tVar 0) (tCons (tC (.int 8)) tNil))))
    (tSeq (tDrop (tCallS (sp_check_moves K) (WE W) (tCons (tVar 1) (tCons (tC (.int 8)) tNil))))
    (tSeq (tIfS (tOr (tNot (tB (tCallS (sp_is_row K) (WE W) (tCons (tVar 2) tNil)))) (tNot (tB (tCallS (sp_are_there K) (WE W) (tCons (tOp (rCatQ K) (tVar 0) (tVar 1)) (tCons (tCB (Evl.rLenS K) (tCons (tVar 2) tNil)) tNil)))))) (tRet (tC (.bl false))) tNext)
    (tRet (tOp (rNeD K) (tCallS (sp_row_behind K) (WE W) (tCons (tVar 2) (tCons (tVar 0) tNil))) (tCallS (sp_row_behind K) (WE W) (tCons (tVar 2) (tCons (tVar 1) tNil))))))))
def p_is_parting : PS' :=
  (kSeq (kDrop (pCall 2 G_check_moves (pCons (pV 0) (pCons (pC (.int 8)) pNil))))
    (kSeq (kDrop (pCall 2 G_check_moves (pCons (pV 1) (pCons (pC (.int 8)) pNil))))
    (kSeq (kIf (qOr (qNot (qTest (pCall 1 G_is_row (pCons (pV 2) pNil)))) (qNot (qTest (pCall 2 G_are_there (pCons (pOp pCat (pV 0) (pV 1)) (pCons (pCB pLen (pCons (pV 2) pNil)) pNil)))))) (kRet (pC (.bl false))) kNext)
    (kRet (pOp (pEqD true) (pCall 2 G_row_behind (pCons (pV 2) (pCons (pV 0) pNil))) (pCall 2 G_row_behind (pCons (pV 2) (pCons (pV 1) pNil))))))))
def G_is_parting : GD := Gof p_is_parting false 0
def sp_is_parting (K : PySem.W.Frag) : Sp := spD (gx K) 3 false .f 0 G_is_parting
theorem ss_is_parting {K : PySem.W.Frag} {W : XW} : SS (gx K) W .f 0 (t_is_parting K W) p_is_parting := by
  unfold t_is_parting p_is_parting
  exact SS.mono ((ss_seq (ss_drop (sx_callE (.inr rfl) (sa_ce sx_v (sa_ce (sx_int).fe sa_nil))))
    (ss_seq (ss_drop (sx_callE (.inr rfl) (sa_ce sx_v (sa_ce (sx_int).fe sa_nil))))
    (ss_seq (ss_if (sb_or (sb_not (sb_B (sx_callE (.inr rfl) (sa_ce sx_v sa_nil)))) (sb_not (sb_B (sx_callE (.inr rfl) (sa_ce ((sx_cat (sx_v).eb (sx_v).eb)).fe (sa_ce ((sx_cb (sa_ct (sx_v).et sa_nil) oa_len)).fe sa_nil)))))) (ss_retF sx_bl) ss_next)
    (ss_retF (sx_op ((sx_callE (.inr rfl) (sa_ce sx_v (sa_ce sx_v sa_nil)))).ft ((sx_callE (.inr rfl) (sa_ce sx_v (sa_ce sx_v sa_nil)))).ft os_neD)))))) (by decide +kernel)
theorem ln_is_parting {K : PySem.W.Frag} {vs : List V} {H : Hp} {Q : VK} {E : XK} (h : sp_is_parting K vs H Q E) : vs.length = (["moves", "other_moves", "value"] : List Str).length := spD_len h
theorem rd_is_parting {K : PySem.W.Frag} {vs : List V} {H : Hp} {Q : VK} {E : XK} (h : sp_is_parting K vs H Q E) : t_is_parting K (fun cls dd _ H => E cls dd H) (fin Q) (L2.start N_is_parting vs) H := rd_def ss_is_parting (.inr rfl) (by decide +kernel) h
theorem g_is_partingE {d e v : D} {j : Nat} (md : Mo j d) (me : Mo j e) (hd : v.tv = true) (hs : ∀ ns, v ≠ .scr ns) (hi : ∀ ds, v = .lst ds → ∀ x ∈ ds, x.tv = true) (hr : isRowD v = false) (e2 : okMsD 8 d = false → xx ⟨"InvalidMovesError", none⟩) (e3 : okMsD 8 e = false → xx ⟨"InvalidMovesError", none⟩)
    (h : okMsD 8 d = true → okMsD 8 e = true → po (.bl false)) : G_is_parting [d, e, v] po xx := by
  refine ⟨rfl, g_chkM (n := 8) (j := j) md (fun ms em h40 hO => ?_) e2⟩
  refine ⟨rfl, g_chkM (n := 8) (j := j) me (fun ms' em' h40' hO' => ?_) e3⟩
  subst em; subst em'
  refine ⟨rfl, g_is_row hd hs hi ?_⟩
  rw [hr]
  exact h (okMs_of h40 (by decide) hO) (okMs_of h40' (by decide) hO')
theorem g_forgottenE {d : D} {j : Nat} (md : Mo j d) (e2 : okMsD 8 d = false → xx ⟨"InvalidMovesError", none⟩) (h : okMsD 8 d = true → ∀ x, po x) : G_forgotten [d] po xx := by
  refine ⟨rfl, g_chkM (n := 8) (j := j) md (fun ms em h40 hO => ?_) e2⟩
  subst em
  have hv := h (okMs_of h40 (by decide) hO)
  refine ⟨ms.length, len_dM ms, rfl, ?_⟩
  cases ms with
  | nil => exact hv _
  | cons m ms => exact ⟨dMv m, at_nat (i := 0) rfl, .int (m.1 : Int), at_nat (i := 0) rfl, hv _⟩
end
end PD

/-! rows of any kind: are_alike -/
namespace PD
open PySem PySem.Spec PyProof.Rows L2 Evl SL
section
variable {po : D → Prop} {xx : Exn → Prop} {κ : PK} {ρ : Env}
structure Ro (k : Nat) (d : D) : Prop where
  tv : d.tv = true
  ns : ∀ l, d ≠ .scr l
  it : ∀ ds, d = .lst ds → ∀ x ∈ ds, x.tv = true
  sz : ∀ ns, d = dI ns → Sz k ns
theorem row_get {k : Nat} {d : D} (r : Ro k d) (h : isRowD d = true) : ∃ ns, d = dI ns ∧ IsRow ns ∧ Sz k ns := by
  cases d with
  | lst ds =>
    have h' : (areWd (.lst ds) && decide (gcdL _ = 1)) = true := h
    rw [Bool.and_eq_true, decide_eq_true_eq] at h'
    obtain ⟨h1, h2⟩ := h'
    have h1' : (lenB ds.length && ds.all wB) = true := h1
    rw [Bool.and_eq_true] at h1'
    obtain ⟨ns, rfl, hp⟩ := areW_ints h1'.2
    have hl := lenB_le h1'.1
    rw [List.length_map] at hl
    rw [ints_back] at h2
    exact ⟨ns, rfl, ⟨hl.1, hl.2, hp, h2⟩, r.sz ns rfl⟩
  | _ => cases h
theorem g_chkR {k : Nat} {d : D} (r : Ro k d) (h0 : ∀ ns, d = dI ns → IsRow ns → Sz k ns → po .non) (h1 : isRowD d = false → xx ⟨"InvalidRowError", none⟩) : G_check_row [d] po xx :=
  g_check_rowD r.tv r.ns r.it (fun e => by obtain ⟨ns, e1, e2, e3⟩ := row_get r e; exact h0 ns e1 e2 e3) h1
theorem g_chkRo {k n : Nat} {d : D} (r : Ro k d) (h0 : ∀ ns, d = dI ns → IsRow ns → Sz k ns → ns.length = n → po .non) (h1 : (∀ ns, d = dI ns → IsRow ns → ns.length ≠ n) → xx ⟨"InvalidRowError", none⟩) : G_check_row_of [d, .int (n : Int)] po xx := by
  refine ⟨rfl, g_chkR r (fun ns e hr hz => ?_) fun e => h1 fun ns en hr => ?_⟩
  · subst e
    refine ⟨_, len_dN ns, pEq_int fun b hb => ite_b (fun e => ?_) fun e => ?_⟩
    · refine h1 fun vs ev hv z => ?_
      unfold dI at ev
      injection ev with ev
      have e2 := congrArg intsD ev
      rw [intsD_map, intsD_map] at e2
      subst e2
      have := hb.mpr (by omega)
      rw [this] at e; cases e
    · refine h0 ns rfl hr hz ?_
      have := hb.mp (by cases b with | true => rfl | false => cases e)
      omega
  · subst en
    rw [isRowD_row hr] at e
    cases e
abbrev N_are_alike : List Str := ["row", "other_row", "moves"]
def t_are_alike (K : PySem.W.Frag) (W : XW) : TS :=
  (tSeq (tDrop (tCallS (sp_check_row K) (WE W) (tCons (tVar 0) tNil)))
    (tSeq (tDrop (tCallS (sp_check_row_of K) (WE W) (tCons (tVar 1) (tCons (tCB (Evl.rLenS K) (tCons (tVar 0) tNil)) tNil))))
    (tSeq (tDrop (tCallS (sp_check_moves K) (WE W) (tCons (tVar 2) (tCons (tCB (Evl.rLenS K) (tCons (tVar 0) tNil)) tNil))))
    (tRet (tOp (rEqD K) (tCallS (sp_row_behind K) (WE W) (tCons (tVar 0) (tCons (tVar 2) tNil))) (tCallS (sp_row_behind K) (WE W) (tCons (tVar 1) (tCons (tVar 2) tNil))))))))
def p_are_alike : PS' :=
  (kSeq (kDrop (pCall 1 G_check_row (pCons (pV 0) pNil)))
    (kSeq (kDrop (pCall 2 G_check_row_of (pCons (pV 1) (pCons (pCB pLen (pCons (pV 0) pNil)) pNil))))
    (kSeq (kDrop (pCall 2 G_check_moves (pCons (pV 2) (pCons (pCB pLen (pCons (pV 0) pNil)) pNil))))
    (kRet (pOp (pEqD false) (pCall 2 G_row_behind (pCons (pV 0) (pCons (pV 2) pNil))) (pCall 2 G_row_behind (pCons (pV 1) (pCons (pV 2) pNil))))))))
def G_are_alike : GD := Gof p_are_alike false 0
def sp_are_alike (K : PySem.W.Frag) : Sp := spD (gx K) 3 false .f 0 G_are_alike
theorem ss_are_alike {K : PySem.W.Frag} {W : XW} : SS (gx K) W .f 0 (t_are_alike K W) p_are_alike := by
  unfold t_are_alike p_are_alike
  exact SS.mono ((ss_seq (ss_drop (sx_callE (.inr rfl) (sa_ce sx_v sa_nil)))
    (ss_seq (ss_drop (sx_callE (.inr rfl) (sa_ce sx_v (sa_ce ((sx_cb (sa_ct (sx_v).et sa_nil) oa_len)).fe sa_nil))))
    (ss_seq (ss_drop (sx_callE (.inr rfl) (sa_ce sx_v (sa_ce ((sx_cb (sa_ct (sx_v).et sa_nil) oa_len)).fe sa_nil))))
    (ss_retF (sx_op ((sx_callE (.inr rfl) (sa_ce sx_v (sa_ce sx_v sa_nil)))).ft ((sx_callE (.inr rfl) (sa_ce sx_v (sa_ce sx_v sa_nil)))).ft os_eqD)))))) (by decide +kernel)
theorem ln_are_alike {K : PySem.W.Frag} {vs : List V} {H : Hp} {Q : VK} {E : XK} (h : sp_are_alike K vs H Q E) : vs.length = (["row", "other_row", "moves"] : List Str).length := spD_len h
theorem rd_are_alike {K : PySem.W.Frag} {vs : List V} {H : Hp} {Q : VK} {E : XK} (h : sp_are_alike K vs H Q E) : t_are_alike K (fun cls dd _ H => E cls dd H) (fin Q) (L2.start N_are_alike vs) H := rd_def ss_are_alike (.inr rfl) (by decide +kernel) h
theorem g_are_alikeE {a b d : D} {j k : Nat} (hk9 : k + 40 * (j + 5) ≤ 9000) (ra : Ro k a) (rb : Ro k b) (md : Mo j d) (e1 : isRowD a = false → xx ⟨"InvalidRowError", none⟩) (e2 : ∀ ns, a = dI ns → IsRow ns → (∀ vs, b = dI vs → IsRow vs → vs.length ≠ ns.length) → xx ⟨"InvalidRowError", none⟩)
    (e3 : ∀ ns vs, a = dI ns → IsRow ns → b = dI vs → IsRow vs → vs.length = ns.length → okMsD ns.length d = false → xx ⟨"InvalidMovesError", none⟩)
    (h : ∀ ns vs, a = dI ns → IsRow ns → b = dI vs → IsRow vs → vs.length = ns.length → okMsD ns.length d = true → ∀ x, po x) : G_are_alike [a, b, d] po xx := by
  refine ⟨rfl, g_chkR ra (fun ns en hr hz => ?_) e1⟩
  subst en
  refine ⟨_, len_dN ns, rfl, g_chkRo rb (fun vs ev hv hzv hl => ?_) fun z => e2 ns rfl hr z⟩
  subst ev
  refine ⟨_, len_dN ns, rfl, g_chkM (n := ns.length) (j := j) md (fun ms em h40 hO => ?_) fun q => e3 ns vs rfl hr rfl hv hl q⟩
  subst em
  have hvv := h ns vs rfl hr rfl hv hl (okMs_of h40 hr.hi hO)
  have hm : ms.length * (j + 5) ≤ 40 * (j + 5) := Nat.mul_le_mul_right _ h40
  exact ⟨rfl, g_row_behind (n := ns.length) (k := k) (j := j) hr rfl hO hz (by omega) (by omega) ⟨rfl, g_row_behind (n := ns.length) (k := k) (j := j) hv hl hO hzv (by omega) (by omega) (pEqD_rows fun b hb => hvv _)⟩⟩
end
end PD

/-! values that are no moves (the same as in L46c, without a law's words) -/
namespace PD
open PySem PySem.Spec PyProof.Rows L2 Evl SL
section
variable {po : D → Prop} {xx : Exn → Prop} {κ : PK} {ρ : Env}
theorem ten60 : 10 ^ 60 ≤ tenB := by decide +kernel
theorem shs_i {i : Int} (h : i.natAbs < 10 ^ 60) : Shs 100 0 (.int i) := by
  refine ⟨.int i, by simp only [D.pq], by simp only [okB]; exact Nat.lt_of_lt_of_le h ten60, by simp only [PyData.depth]; exact Nat.le_refl _, ?_⟩
  have e := int_text_length_le10 (k := 60) (by decide) h
  simp only [PyData.shown]
  show (Str.ofString (toString i)).length ≤ _
  rw [PySem.ofString_length]
  omega
/-- a part of a move -/
def Pt (d : D) : Prop := d.tv = true ∧ Shs 110 1 d
theorem pt_int {i : Int} (h : i.natAbs < 10 ^ 60) : Pt (.int i) := ⟨rfl, (shs_i h).mono (by decide) (by decide)⟩
theorem pt_bl (b : Bool) : Pt (.bl b) := ⟨rfl, .bool b, by simp only [D.pq], by simp only [okB], by simp only [PyData.depth]; decide, by simp only [PyData.shown]; cases b <;> decide⟩
theorem pt_non : Pt .non := ⟨rfl, .none, by simp only [D.pq], by simp only [okB], by simp only [PyData.depth]; decide, by simp only [PyData.shown]; decide⟩
theorem pt_str {x : Str} (h : (PyData.shown (.str x)).length ≤ 110) : Pt (.str x) := ⟨rfl, .str x, by simp only [D.pq], by simp only [okB], by simp only [PyData.depth]; decide, h⟩
theorem pt_emp : Pt .emp := ⟨rfl, .dict [], by simp only [D.emp, D.pq, List.map_nil], by simp only [okB]; exact ⟨[], rfl, fun p hp => by cases hp⟩, by simp only [PyData.depth, PyData.depthKv]; exact Nat.le_refl _, by simp only [PyData.shown, PyData.shownKv]; rw [dictText_nil]; decide⟩
theorem pt_l0 : Pt (.lst [.int 0]) := ⟨rfl, (shs_lst (n := 100) (dp := 0) (ds := [.int 0]) fun d hd => by rw [List.mem_singleton.mp hd]; exact shs_i (by decide)).mono (by show 1 * 102 + 3 ≤ 110; decide) (by decide)⟩
def okMvD (n : Int) (d : D) : Bool := isMvD d && match d with | .tup (.int s :: _) => decide (s < n) | _ => false
theorem all_and {α : Type} (a b : α → Bool) : ∀ l : List α, (l.all a && l.all b) = l.all fun x => a x && b x
  | [] => rfl
  | x :: r => by
    rw [List.all_cons, List.all_cons, List.all_cons, ← all_and a b r]
    cases a x <;> cases b x <;> cases r.all a <;> cases r.all b <;> rfl
theorem okMs_all {n : Int} {ds : List D} : okMsD n (.lst ds) = (decide (ds.length ≤ 40) && ds.all (okMvD n)) := by
  rw [okMs_lst]
  show ((decide (ds.length ≤ 40) && ds.all isMvD) && _) = _
  rw [Bool.and_assoc, all_and]
  congr 2
/-- no move of n sliders, and fit to be asked and told -/
structure NoM (n : Int) (d : D) : Prop where
  q : Mq d
  no : okMvD n d = false
  sh : Shs 460 2 d
  z : ∀ m : Mv, d = dMv m → m.2.2.natAbs < 2 ^ 110
theorem nom_flat {n : Int} {d : D} (h : Pt d) (ht : ∀ ds, d ≠ .tup ds) : NoM n d :=
  ⟨⟨h.1, fun ds e => absurd e (ht ds)⟩, by unfold okMvD; cases d <;> first | rfl | exact absurd rfl (ht _), h.2.mono (by decide) (by decide), fun m e => absurd e (ht _)⟩
theorem nom_tup {n : Int} {ds : List D} (hl : ds.length ≤ 4) (h : ∀ x ∈ ds, Pt x) (hn : okMvD n (.tup ds) = false) (hz : ∀ m : Mv, D.tup ds = dMv m → m.2.2.natAbs < 2 ^ 110) : NoM n (.tup ds) :=
  ⟨⟨rfl, fun es e => by injection e with e; subst e; exact ⟨fun x hx => (h x hx).1, by omega⟩⟩, hn, (shs_tup (n := 110) (dp := 1) fun d hd => (h d hd).2).mono (by have := Nat.mul_le_mul_right 112 hl; omega) (Nat.le_refl _), hz⟩
theorem z_int {a b c : Int} (h : c.natAbs < 2 ^ 110) : ∀ m : Mv, D.tup [.int a, .int b, .int c] = dMv m → m.2.2.natAbs < 2 ^ 110 := fun m e => by
  unfold dMv at e
  injection e with e
  injection e with _ e
  injection e with _ e
  injection e with e _
  injection e with e
  rw [← e]; exact h
theorem all3 {P : D → Prop} {a b c : D} (h1 : P a) (h2 : P b) (h3 : P c) : ∀ x ∈ [a, b, c], P x := fun x hx => by
  simp only [List.mem_cons, List.mem_nil_iff, or_false] at hx
  rcases hx with rfl | rfl | rfl
  · exact h1
  · exact h2
  · exact h3
theorem nom_3 {n a b c : Int} (ha : a.natAbs < 10 ^ 60) (hb : b.natAbs < 10 ^ 60) (hc : c.natAbs < 2 ^ 110) (hn : (mvB a b c && decide (a < n)) = false) : NoM n (.tup [.int a, .int b, .int c]) :=
  nom_tup (by show 3 ≤ 4; decide) (all3 (pt_int ha) (pt_int hb) (pt_int (Nat.lt_trans hc (by decide)))) hn (z_int hc)
theorem nom_x {n : Int} {a b c : D} (ha : Pt a) (hb : Pt b) (hc : Pt c) (h : isW a = false ∨ isW b = false ∨ isW c = false) : NoM n (.tup [a, b, c]) := by
  refine nom_tup (by show 3 ≤ 4; decide) (all3 ha hb hc) ?_ fun m e => ?_
  · unfold okMvD
    rw [mvD_int (by
      simp only [List.map_cons, List.map_nil, List.all_cons, List.all_nil, id, Bool.and_true]
      rcases h with h | h | h <;> simp [h]), Bool.false_and]
  · exfalso
    unfold dMv at e
    injection e with e
    injection e with e1 e
    injection e with e2 e
    injection e with e3 e
    subst e1; subst e2; subst e3
    simp [isW] at h
theorem nom_len {n : Int} {ds : List D} (hl : ds.length ≤ 4) (h3 : ds.length ≠ 3) (h : ∀ x ∈ ds, Pt x) : NoM n (.tup ds) :=
  nom_tup hl h (by unfold okMvD; rw [mvD_len h3, Bool.false_and]) fun m e => absurd (by unfold dMv at e; injection e with e; rw [e]; rfl) h3
theorem all2 {P : D → Prop} {a b : D} (h1 : P a) (h2 : P b) : ∀ x ∈ [a, b], P x := fun x hx => by
  simp only [List.mem_cons, List.mem_nil_iff, or_false] at hx
  rcases hx with rfl | rfl
  · exact h1
  · exact h2
theorem all4 {P : D → Prop} {a b c d : D} (h1 : P a) (h2 : P b) (h3 : P c) (h4 : P d) : ∀ x ∈ [a, b, c, d], P x := fun x hx => by
  simp only [List.mem_cons, List.mem_nil_iff, or_false] at hx
  rcases hx with rfl | rfl | rfl | rfl
  · exact h1
  · exact h2
  · exact h3
  · exact h4
theorem p1 : Pt (.int 1) := pt_int (by decide)
theorem p2 : Pt (.int 2) := pt_int (by decide)
theorem p0 : Pt (.int 0) := pt_int (by decide)
theorem nom_l012 {n : Int} : NoM n (.lst [.int 0, .int 1, .int 2]) :=
  ⟨⟨rfl, fun ds e => by cases e⟩, rfl, (shs_lst (n := 110) (dp := 1) (ds := [.int 0, .int 1, .int 2]) (all3 p0.2 p1.2 p2.2)).mono (by show 3 * 112 + 3 ≤ 460; decide) (Nat.le_refl _), fun m e => by unfold dMv at e; cases e⟩
/-- an item of a list that may be asked -/
structure It (N : Nat) (d : D) : Prop where
  q : Mq d
  sh : Shs N 3 d
  z : ∀ m : Mv, d = dMv m → m.2.2.natAbs < 2 ^ 110
theorem mo_lst {N : Nat} {ds : List D} (h : ∀ x ∈ ds, It N x) : Mo 110 (.lst ds) ∧ Shs (ds.length * (N + 2) + 3) 4 (.lst ds) := by
  refine ⟨⟨⟨rfl, fun l e => (by cases e), fun es e x hx => ?_⟩, fun ms e m hm => ?_⟩, shs_lst fun x hx => (h x hx).sh⟩
  · injection e with e
    subst e
    exact (h x hx).q
  · unfold dMs at e
    injection e with e
    exact (h (dMv m) (by rw [e]; exact List.mem_map_of_mem hm)).z m rfl
theorem dMv_inj {m m' : Mv} (e : dMv m = dMv m') : m.2.2 = m'.2.2 := by
  unfold dMv at e
  injection e with e
  injection e with _ e
  injection e with _ e
  injection e with e _
  injection e with e
theorem it_mv {n j : Nat} {m : Mv} (o : OkM n j m) (hn : n ≤ 8) (hj : j ≤ 110) : It 14000 (dMv m) :=
  ⟨⟨rfl, fun ds e => by unfold dMv at e; injection e with e; subst e; exact ⟨all3 rfl rfl rfl, by show 3 ≤ 90000; decide⟩⟩, (shs_dMv o (by omega) (by omega)).mono (Nat.le_refl _) (by decide), fun m' e => by
    rw [← dMv_inj e]; exact Nat.lt_of_lt_of_le o.z (Nat.pow_le_pow_right (by decide) hj)⟩
theorem NoM.it {n : Int} {d : D} (h : NoM n d) {N : Nat} (hN : 460 ≤ N) : It N d := ⟨h.q, h.sh.mono hN (by decide), h.z⟩
/-- no moves of n sliders, and fit to be asked and told -/
structure NoMs (n : Int) (d : D) : Prop where
  q : Mo 110 d
  no : okMsD n d = false
  sh : Shs 1000000 4 d
theorem noms_lst {n : Int} {N : Nat} {ds : List D} (h : ∀ x ∈ ds, It N x) (hl : ds.length * (N + 2) + 3 ≤ 1000000) (hn : 40 < ds.length ∨ ∃ x ∈ ds, okMvD n x = false) : NoMs n (.lst ds) := by
  obtain ⟨h1, h2⟩ := mo_lst h
  refine ⟨h1, ?_, h2.mono hl (Nat.le_refl _)⟩
  rw [okMs_all]
  rcases hn with z | ⟨x, hx, z⟩
  · rw [decide_eq_false (by omega), Bool.false_and]
  · have : ds.all (okMvD n) = false := Bool.eq_false_iff.mpr fun q => by
      have := List.all_eq_true.mp q x hx
      rw [z] at this; cases this
    rw [this, Bool.and_false]
theorem noms_flat {n : Int} {d : D} (h : d.tv = true) (sh : Shs 1000000 4 d) (h2 : ∀ ds, d ≠ .lst ds) (h3 : ∀ l, d ≠ .scr l) : NoMs n d :=
  ⟨⟨⟨h, h3, fun ds e => absurd e (h2 ds)⟩, fun ms e => absurd e (h2 _)⟩, by cases d <;> first | rfl | exact absurd rfl (h2 _), sh⟩
theorem rep_one {d : D} : ∀ n : Nat, repD n [d] = List.replicate n d
  | 0 => rfl
  | n + 1 => by
    have := rep_one (d := d) n
    unfold repD at this ⊢
    rw [List.replicate_succ, List.replicate_succ, List.flatten_cons, this]; rfl
end
end PD

set_option exponentiation.threshold 600
/-! values that are no rows (as in L46b, without a law's words), told and asked -/
namespace PD
open PySem PySem.Spec PyProof.Rows L2 Evl SL
section
variable {po : D → Prop} {xx : Exn → Prop} {κ : PK} {ρ : Env}
theorem pickN {ds : List D} {i : Int} {R : D → Prop} (h0 : 0 ≤ i) (h1 : i < ds.length) (hr : ∀ d ∈ ds, R d) : ∃ x, atI ds i = some x ∧ R x := by
  obtain ⟨j, rfl⟩ := Int.eq_ofNat_of_zero_le h0
  have hj : j < ds.length := by omega
  exact ⟨ds[j], at_nat (List.getElem?_eq_getElem hj), hr _ (List.getElem_mem hj)⟩
/-- no row, and fit to be asked -/
structure NoR (d : D) : Prop where
  r : Ro 121 d
  no : isRowD d = false
theorem isRowD_lst {ds : List D} (h : ds.all wB = false ∨ lenB ds.length = false) : isRowD (.lst ds) = false := by
  show ((lenB ds.length && ds.all wB) && _) = false
  rcases h with h | h
  · rw [h, Bool.and_false, Bool.false_and]
  · rw [h, Bool.false_and, Bool.false_and]
theorem ro_flat {d : D} (h1 : d.tv = true) (h2 : ∀ ds, d ≠ .lst ds) (h3 : ∀ l, d ≠ .scr l) : Ro 121 d := ⟨h1, h3, fun ds e => absurd e (h2 ds), fun ns e => absurd e (h2 _)⟩
theorem nor_flat {d : D} (h1 : d.tv = true) (h2 : ∀ ds, d ≠ .lst ds) (h3 : ∀ l, d ≠ .scr l) : NoR d := ⟨ro_flat h1 h2 h3, by cases d <;> first | rfl | exact absurd rfl (h2 _)⟩
theorem ro_ints {ns : List Int} (h : Sz 121 ns) : Ro 121 (dI ns) := by
  refine ⟨rfl, fun l e => (by cases e), tv_ints, fun vs e => ?_⟩
  unfold dI at e
  injection e with e
  have := congrArg intsD e
  rw [intsD_map, intsD_map] at this
  rw [← this]; exact h
theorem nor_ints {ns : List Int} (h : Sz 121 ns) (hl : lenB ns.length = false) : NoR (dI ns) := ⟨ro_ints h, isRowD_lst (.inr (by rw [List.length_map]; exact hl))⟩
theorem gcd_two : ∀ {ns : List Int} {g : Int}, (ns.map fun x => 2 * x).foldl (fun g x => ((Int.gcd g x : Nat) : Int)) (2 * g) = 2 * ns.foldl (fun g x => ((Int.gcd g x : Nat) : Int)) g
  | [], _ => rfl
  | x :: r, g => by
    rw [List.map_cons, List.foldl_cons, List.foldl_cons]
    have e : ((Int.gcd (2 * g) (2 * x) : Nat) : Int) = 2 * ((Int.gcd g x : Nat) : Int) := by
      rw [Int.gcd_mul_left]; rfl
    rw [e]
    exact gcd_two
theorem nor_two {ns : List Int} (h : Sz 120 ns) (hr : gcdL ns = 1) : NoR (dI (ns.map fun x => 2 * x)) := by
  refine ⟨ro_ints fun x hx => ?_, ?_⟩
  · obtain ⟨y, hy, rfl⟩ := List.mem_map.mp hx
    have := h y hy
    have e : (2 : Nat) ^ 121 = 2 * 2 ^ 120 := by decide
    show (2 * y).natAbs < 2 ^ 121
    omega
  · have e : gcdL (ns.map fun x => 2 * x) = 2 := by
      have := gcd_two (ns := ns) (g := 0)
      show (ns.map fun x => 2 * x).foldl (fun g x => ((Int.gcd g x : Nat) : Int)) 0 = 2
      rw [show (0 : Int) = 2 * 0 by decide, this]
      have h1 : ns.foldl (fun g x => ((Int.gcd g x : Nat) : Int)) 0 = 1 := hr
      rw [h1]; rfl
    show (areWd _ && decide (gcdL _ = 1)) = false
    rw [ints_back, e, show decide ((2 : Int) = 1) = false by decide, Bool.and_false]
theorem nor_odd {ns : List Int} {a b : Option Int} {odd : D} (h1 : odd.tv = true) (h2 : wB odd = false) (h3 : ∀ i, odd = .int i → i.natAbs < 2 ^ 121) (h : Sz 120 ns) : NoR (.lst (cutD (ns.map D.int) none a ++ [odd] ++ cutD (ns.map D.int) b none)) := by
  have mem : ∀ x ∈ cutD (ns.map D.int) none a ++ [odd] ++ cutD (ns.map D.int) b none, x = odd ∨ ∃ y ∈ ns, x = .int y := fun x hx => by
    rcases List.mem_append.mp hx with z | z
    · rcases List.mem_append.mp z with z | z
      · obtain ⟨y, hy, rfl⟩ := List.mem_map.mp (cut_mem z); exact .inr ⟨y, hy, rfl⟩
      · exact .inl (List.mem_singleton.mp z)
    · obtain ⟨y, hy, rfl⟩ := List.mem_map.mp (cut_mem z); exact .inr ⟨y, hy, rfl⟩
  refine ⟨⟨rfl, fun l e => (by cases e), fun ds e x hx => ?_, fun vs e x hx => ?_⟩, isRowD_lst (.inl ?_)⟩
  · injection e with e
    subst e
    rcases mem x hx with z | ⟨y, _, z⟩
    · rw [z]; exact h1
    · rw [z]; rfl
  · unfold dI at e
    injection e with e
    rcases mem (.int x) (by rw [e]; exact List.mem_map_of_mem hx) with z | ⟨y, hy, z⟩
    · exact h3 x z.symm
    · injection z with z
      rw [z]
      exact Nat.lt_trans (h y hy) (by decide)
  · refine Bool.eq_false_iff.mpr fun z => ?_
    have := List.all_eq_true.mp z odd (by simp)
    rw [h2] at this; cases this
theorem repN1 {i : Int} (n : Nat) : repD n [D.int i] = (List.replicate n i).map D.int := by rw [rep_one, List.map_replicate]
def inIN (lo hi : Int) : D → Prop := fun d => ∃ i, d = .int i ∧ lo ≤ i ∧ i ≤ hi
/-- no row, fit to be asked and told -/
structure NoRs (d : D) : Prop where
  n : NoR d
  sh : Shs 2000000 4 d
/-- a part of a row -/
theorem shs_ints {ns : List Int} {l : Nat} (h : Sz 121 ns) (hl : ns.length ≤ l) : Shs (l * 4402 + 3) 1 (dI ns) := by
  refine (shs_lst (n := 4400) (dp := 0) (ds := ns.map D.int) fun d hd => ?_).mono (by rw [List.length_map]; have := Nat.mul_le_mul_right 4402 hl; omega) (Nat.le_refl _)
  obtain ⟨i, hi, rfl⟩ := List.mem_map.mp hd
  exact shs_int (h i hi) (by decide)
theorem nrs_ints {ns : List Int} (h : Sz 121 ns) (hl : lenB ns.length = false) (h4 : ns.length ≤ 400) : NoRs (dI ns) := ⟨nor_ints h hl, (shs_ints h h4).mono (by decide) (by decide)⟩
theorem nrs_flat {d : D} (h1 : d.tv = true) (h2 : ∀ ds, d ≠ .lst ds) (h3 : ∀ l, d ≠ .scr l) (sh : Shs 2000000 4 d) : NoRs d := ⟨nor_flat h1 h2 h3, sh⟩
theorem nrs_two {ns : List Int} (h : Sz 120 ns) (hr : gcdL ns = 1) (h8 : ns.length ≤ 8) : NoRs (dI (ns.map fun x => 2 * x)) := by
  refine ⟨nor_two h hr, (shs_ints (l := 400) (fun x hx => ?_) (by rw [List.length_map]; omega)).mono (by decide) (by decide)⟩
  obtain ⟨y, hy, rfl⟩ := List.mem_map.mp hx
  have := h y hy
  have e : (2 : Nat) ^ 121 = 2 * 2 ^ 120 := by decide
  show (2 * y).natAbs < 2 ^ 121
  omega
theorem nrs_odd {ns : List Int} {a b : Option Int} {odd : D} (h1 : odd.tv = true) (h2 : wB odd = false) (h3 : ∀ i, odd = .int i → i.natAbs < 2 ^ 121) (hs : Shs 4600 1 odd) (h : Sz 120 ns) (h8 : ns.length ≤ 8) : NoRs (.lst (cutD (ns.map D.int) none a ++ [odd] ++ cutD (ns.map D.int) b none)) := by
  refine ⟨nor_odd h1 h2 h3 h, (shs_lst (n := 4600) (dp := 1) fun x hx => ?_).mono ?_ (by decide)⟩
  · rcases List.mem_append.mp hx with z | z
    · rcases List.mem_append.mp z with z | z
      · obtain ⟨y, hy, rfl⟩ := List.mem_map.mp (cut_mem z); exact (shs_int (h y hy) (by decide)).mono (by decide) (by decide)
      · rw [List.mem_singleton.mp z]; exact hs
    · obtain ⟨y, hy, rfl⟩ := List.mem_map.mp (cut_mem z); exact (shs_int (h y hy) (by decide)).mono (by decide) (by decide)
  · have e1 := cut_le (ns.map D.int) none a
    have e2 := cut_le (ns.map D.int) b none
    rw [List.length_map] at e1 e2
    rw [List.length_append, List.length_append]
    show (_ + 1 + _) * 4602 + 3 ≤ _
    have := Nat.mul_le_mul_right 4602 (show (cutD (ns.map D.int) none a).length + 1 + (cutD (ns.map D.int) b none).length ≤ 17 by omega)
    omega
theorem nrs_ll {ns : List Int} (h : Sz 120 ns) (h8 : ns.length ≤ 8) : NoRs (.lst [dI ns, dI ns]) := by
  refine ⟨⟨⟨rfl, fun l e => (by cases e), fun ds e x hx => ?_, fun vs e => ?_⟩, isRowD_lst (.inl rfl)⟩, (shs_two (shs_ints (l := 9) (h.mono (by decide)) (by omega)) (shs_ints (l := 9) (h.mono (by decide)) (by omega))).mono (by decide) (by decide)⟩
  · injection e with e
    subst e
    simp only [List.mem_cons, List.mem_nil_iff, or_false] at hx
    rcases hx with rfl | rfl <;> rfl
  · unfold dI at e
    injection e with e
    cases vs with
    | nil => cases e
    | cons x r => cases e
end
end PD

namespace SL
open PySem PySem.Spec PyProof.Rows L2 Evl
/-! Evl, further -/
section
variable {K : PySem.W.Frag} {σ : L2.St} {H H' : Hp} {ta tb tc te : TE} {t u : TT} {x y z v : V} {r r' : R2}
theorem eu_call {sp : Sp} {dvs vs xs : List V} {E : XK} {ta : TA} (h : EvA ta σ H vs) (hs : SpU sp (vs ++ dvs) H xs) : EvU (tCall sp dvs E ta) σ H xs := fun H1 e Q q =>
  h H1 e _ fun H2 e2 => hs H2 (e.trans e2) Q (fun p H3 hp e3 h3 => q p H3 (fresh_back e2 hp) (e2.trans e3) h3) E
theorem ev_addI {i j : Int} (ha : Ev ta σ H (.int i)) (hb : Ev tb σ H (.int j)) : Ev (tOp rAddI ta tb) σ H (.int (i + j)) := ev_op ha hb rv_I0
theorem ev_subI {i j : Int} (ha : Ev ta σ H (.int i)) (hb : Ev tb σ H (.int j)) : Ev (tOp rSubI ta tb) σ H (.int (i - j)) := ev_op ha hb rv_I0
theorem ev_mulI {i j : Int} (ha : Ev ta σ H (.int i)) (hb : Ev tb σ H (.int j)) (hc : CMulW i j) : Ev (tOp rMulI ta tb) σ H (.int (i * j)) := ev_op ha hb (rv_I hc)
theorem ev_divI {i j : Int} (ha : Ev ta σ H (.int i)) (hb : Ev tb σ H (.int j)) (hc : CDivW i j) : Ev (tOp rDivI ta tb) σ H (.int (i / j)) := ev_op ha hb (rv_I hc)
theorem ev_modI {i j : Int} (ha : Ev ta σ H (.int i)) (hb : Ev tb σ H (.int j)) (hc : 0 < j) : Ev (tOp rModI ta tb) σ H (.int (i % j)) := ev_op ha hb (rv_I hc)
theorem ev_powI {i j : Int} (ha : Ev ta σ H (.int i)) (hb : Ev tb σ H (.int j)) (hc : CPowW i j) : Ev (tOp rPowI ta tb) σ H (.int (i ^ j.toNat)) := ev_op ha hb (rv_I hc)
theorem ev_gtI {i j : Int} (ha : Ev ta σ H (.int i)) (hb : Ev tb σ H (.int j)) : Ev (tOp rGtI ta tb) σ H (.bl (decide (j < i))) := ev_op ha hb rv_I0
theorem ev_geI {i j : Int} (ha : Ev ta σ H (.int i)) (hb : Ev tb σ H (.int j)) : Ev (tOp rGeI ta tb) σ H (.bl (decide (j ≤ i))) := ev_op ha hb rv_I0
theorem ev_ltI {i j : Int} (ha : Ev ta σ H (.int i)) (hb : Ev tb σ H (.int j)) : Ev (tOp rLtI ta tb) σ H (.bl (decide (i < j))) := ev_op ha hb rv_I0
theorem ev_leI {i j : Int} (ha : Ev ta σ H (.int i)) (hb : Ev tb σ H (.int j)) : Ev (tOp rLeI ta tb) σ H (.bl (decide (i ≤ j))) := ev_op ha hb rv_I0
theorem ev_negI {i : Int} (ha : Ev ta σ H (.int i)) : Ev (tUn rNegI ta) σ H (.int (-i)) := ev_un ha ru_neg
theorem ev_eqI {i j : Int} (ha : Ev ta σ H (.int i)) (hb : Ev tb σ H (.int j)) : Ev (tOp rEq ta tb) σ H (.bl (decide (i = j))) := by
  have h : Ev (tOp rEq ta tb) σ H (.bl (decide (V.int i = V.int j))) := ev_op ha hb (rv_eq rfl)
  rw [show decide (V.int i = V.int j) = decide (i = j) by rw [dec_int, Bool.beq_eq_decide_eq]] at h
  exact h
theorem ev_neI {i j : Int} (ha : Ev ta σ H (.int i)) (hb : Ev tb σ H (.int j)) : Ev (tOp rNe ta tb) σ H (.bl (!decide (i = j))) := by
  have h : Ev (tOp rNe ta tb) σ H (.bl (!decide (V.int i = V.int j))) := ev_op ha hb (rv_ne rfl)
  rw [show decide (V.int i = V.int j) = decide (i = j) by rw [dec_int, Bool.beq_eq_decide_eq]] at h
  exact h
theorem ev_chain {a b : Bool} (ha : Ev ta σ H x) (hb : Ev tb σ H y) (hr : RV r x y H (.bl a)) (hc : Ev tc σ H z) (hr' : RV r' y z H (.bl b)) : Ev (tChain r r' ta tb tc) σ H (.bl (a && b)) := fun H1 e Q q =>
  ha H1 e _ fun H2 e2 => hb H2 (e.trans e2) _ fun H3 e3 => hr H3 ((e.trans e2).trans e3) _ fun H4 e4 => ⟨a, rfl, by
    cases a with
    | true =>
      show tc σ H4 _
      exact hc H4 (((e.trans e2).trans e3).trans e4) _ fun H5 e5 => hr' H5 ((((e.trans e2).trans e3).trans e4).trans e5) Q fun H6 e6 => q H6 ((((e2.trans e3).trans e4).trans e5).trans e6)
    | false =>
      show Q (.bl false) H4
      exact q H4 ((e2.trans e3).trans e4)⟩
theorem ev_gcd {i j : Int} (ha : Ev ta σ H (.int i)) (hb : Ev tb σ H (.int j)) : Ev (tCB rGcd (tCons ta (tCons tb tNil))) σ H (.int ((Int.gcd i j : Nat) : Int)) :=
  ev_cb (ea_cons ha (ea_cons hb ea_nil)) fun H1 _ _ q => ⟨i, j, rfl, q H1 (Ex.refl H1)⟩
theorem ev_sum {a : Addr} {ns : List Int} (ha : Ev ta σ H (.ref a)) (h : LI H a ns) : Ev (tCB (rSum K) (tCons ta tNil)) σ H (.int ns.sum) :=
  ev_cb (ea_cons ha ea_nil) fun H1 e _ q => ⟨a, ns, rfl, (h.ex e).sq, q H1 (Ex.refl H1)⟩
theorem ev_ixI {a : Addr} {ns : List Int} {i : Nat} {k x : Int} (ha : Ev ta σ H (.ref a)) (hb : Ev tb σ H (.int k)) (h : LI H a ns) (hk : k = (i : Int)) (hx : ns[i]? = some x) : Ev (tOp (rIxL K) ta tb) σ H (.int x) := by
  subst hk
  exact ev_op ha hb (rv_ixL h.sq (atI_nat (by rw [List.getElem?_map, hx]; rfl)))
theorem ev_lenI {a : Addr} {ns : List Int} (ha : Ev ta σ H (.ref a)) (h : LI H a ns) : Ev (tCB (rLenS K) (tCons ta tNil)) σ H (.int (ns.length : Int)) := by
  have := ev_len ha h.sq (K := K)
  rw [List.length_map] at this
  exact this
theorem ev_lenT {p : Addr} {xs : List V} (ha : Ev ta σ H (.ref p)) (h : H p = some (.tup xs)) : Ev (tCB (rLenS K) (tCons ta tNil)) σ H (.int (xs.length : Int)) := fun H1 e Q q =>
  ha H1 e _ fun H2 e2 => ⟨p, xs, rfl, Or.inr (.inl (.inl ((e.trans e2) _ _ h))), q H2 e2⟩
theorem ev_type {n : String} (ha : Ev ta σ H x) (h : ∀ H1, Ex H H1 → zTyV x H1 = some n) : Ev (tThenZ ta kTyp) σ H (.ty n) := fun H1 e Q q =>
  ha H1 e _ fun H2 e2 => ⟨n, h H2 (e.trans e2), q H2 e2⟩
theorem rv_isTyp {m n : String} : RV rIsTyp (.ty m) (.ty n) H (.bl (decide (m = n))) := fun H1 _ _ q => ⟨m, n, rfl, rfl, q H1 (Ex.refl H1)⟩
theorem rv_notTyp {m n : String} : RV rNotTyp (.ty m) (.ty n) H (.bl (!decide (m = n))) := fun H1 _ _ q => ⟨m, n, rfl, rfl, q H1 (Ex.refl H1)⟩
/-- all(..) of a new list of truths -/
theorem ev_all {xs : List V} {bs : List Bool} (ha : EvL ta σ H xs) (hb : xs = bs.map V.bl) : Ev (tCB (rAll K) (tCons ta tNil)) σ H (.bl (bs.all id)) := fun H1 e Q q =>
  ha H1 e _ fun p H2 _ e2 h2 => ⟨p, bs, rfl, by rw [← hb]; exact sq_of h2, q H2 e2⟩
/-- what a comprehension without a test gives -/
theorem given_all {n : Nat} {v : Nat → V} : given n (fun _ => true) v = (List.range n).map v := by
  unfold given
  rw [List.filter_eq_self.mpr (fun _ _ => rfl)]
theorem et_yes : EvT tYes σ H true := fun H1 _ _ q => q H1 (Ex.refl H1)
/-- [e for x in a list of ints] -/
theorem el_lcI {a : Addr} {ns : List Int} {tl : TE} {j : Nat} (f : Int → V) (h : Ev tl σ H (.ref a)) (hx : LI H a ns) (hz : ns.length ≤ 40000)
    (he : ∀ (x : Int) H1, Ex H H1 → x ∈ ns → Ev te ((wipe σ [j]).set j (some (.int x))) H1 (f x)) : EvL (tLc (iList K tl) (gName j) tYes te [j]) σ H (ns.map f) := by
  have h1 := el_lcL (K := K) (t := tYes) (te := te) (j := j) (vs := [j]) (σ := σ) (H := H) (fun _ => true) (fun i => match ns[i]? with | some x => f x | none => .non) h hx.sq (by rw [List.length_map]; exact hz)
    (fun x => by simp [wipe]) (fun i x H1 _ _ => et_yes) (fun i x H1 e hi _ => by
      rw [List.getElem?_map] at hi
      cases hn : ns[i]? with
      | none => rw [hn] at hi; cases hi
      | some y =>
        rw [hn] at hi
        have : V.int y = x := Option.some.inj hi
        subst this
        exact he y H1 e (List.mem_of_getElem? hn))
  rw [given_all] at h1
  have e : (List.range (ns.map V.int).length).map (fun i => match ns[i]? with | some x => f x | none => .non) = ns.map f := by
    apply List.ext_getElem?
    intro i
    rw [List.length_map, List.getElem?_map, List.getElem?_map]
    by_cases hi : i < ns.length
    · rw [List.getElem?_range hi, List.getElem?_eq_getElem hi]
      simp [hi]
    · rw [List.getElem?_eq_none (by rw [List.length_range]; omega), List.getElem?_eq_none (by omega)]
      rfl
  rw [e] at h1
  exact h1
end
theorem spv_of {sp : Sp} {vs : List V} {H : Hp} {z : V} (h : ∀ H1, Ex H H1 → ∀ (Q : VK) (E : XK), RetV z H1 Q → sp vs H1 Q E) : SpV sp vs H z := fun H1 e Q q E => h H1 e Q E q
theorem spl_of {sp : Sp} {vs xs : List V} {H : Hp} (h : ∀ H1, Ex H H1 → ∀ (Q : VK) (E : XK), RetL xs H1 Q → sp vs H1 Q E) : SpL sp vs H xs := fun H1 e Q q E => h H1 e Q E q
theorem spu_of {sp : Sp} {vs xs : List V} {H : Hp} (h : ∀ H1, Ex H H1 → ∀ (Q : VK) (E : XK), RetU xs H1 Q → sp vs H1 Q E) : SpU sp vs H xs := fun H1 e Q q E => h H1 e Q E q
section
variable {K : PySem.W.Frag} {vs : List V} {H : Hp} {Q : VK} {E : XK}
theorem small_pow {i : Int} {k : Nat} (h0 : 0 ≤ i) (h : i < 2 ^ k) : i.natAbs < 2 ^ k := by
  have e : ((i.natAbs : Nat) : Int) = i := Int.natAbs_of_nonneg h0
  have e2 : (((2 ^ k : Nat)) : Int) = (2 : Int) ^ k := by norm_cast
  omega

end
end SL

set_option exponentiation.threshold 600
/-! the draws of laws k35 to k50 -/
namespace PD
open PySem PySem.Spec PyProof.Rows L2 Evl SL
def G_draw : GD := fun ds po _ => match ds with
  | [.int lim] => (1 ≤ lim ∧ lim.natAbs < 2 ^ 220) ∧ ∀ d : Int, 0 ≤ d → d < lim → po (.int d)
  | _ => False
theorem g_draw {lim : Int} {po : D → Prop} {xx : Exn → Prop} (h1 : 1 ≤ lim) (h2 : lim.natAbs < 2 ^ 220) (h : ∀ d : Int, 0 ≤ d → d < lim → po (.int d)) : G_draw [.int lim] po xx := ⟨⟨h1, h2⟩, h⟩
/-- what a draw is asked, told by the heap -/
theorem draw_asked {K : PySem.W.Frag} {vs : List V} {H : Hp} {Q : VK} {E : XK} (h : spD (gx K) 1 true .f 1 G_draw vs H Q E) : ∃ (a : Addr) (n : Nat) (lim : Int), vs = [.ref a, .int lim] ∧ n + 1 ≤ NM ∧ 1 ≤ lim ∧ lim.natAbs < 2 ^ 220 ∧
    (∃ s0 s1 s2 : Int, H a = some (.lst [.int s0, .int s1, .int s2]) ∧ 0 ≤ s1 ∧ s1.natAbs < 2 ^ 220 ∧ 0 ≤ s2 ∧ s2 ≤ n) ∧
    ∀ (d : Int) H', 0 ≤ d → d < lim → (∀ b o, b ≠ a → H b = some o → H' b = some o) → (∃ s0 s1 s2 : Int, H' a = some (.lst [.int s0, .int s1, .int s2]) ∧ 0 ≤ s1 ∧ s1.natAbs < 2 ^ 220 ∧ 0 ≤ s2 ∧ s2 ≤ (n + 1 : Nat)) → Q (.int d) H' := by
  obtain ⟨S, us, ds, F, N, po, xx, rfl, hS, hl, hu, hF, hSrc, hk, hG, hQ, hE⟩ := h
  cases S with
  | none => cases hS
  | some a =>
    unfold G_draw at hG
    split at hG
    case h_2 => exact hG.elim
    rename_i lim
    obtain ⟨x, rfl, hx⟩ := pd1 hu
    cases hx
    obtain ⟨⟨h1, h2⟩, h3⟩ := hG
    obtain ⟨vs, e, s0, s1, s2, rfl, g1, g2, g3, g4⟩ := hSrc a rfl
    refine ⟨a, N, lim, rfl, hk, h1, h2, ⟨s0, s1, s2, e, g1, g2, g3, g4⟩, fun d H' d0 d1 he ⟨t0, t1, t2, ht, i1, i2, i3, i4⟩ => ?_⟩
    refine hQ (.int d) H' (.int d) (N + 1) (Nat.le_refl _) (h3 d d0 d1) ⟨fun b o hb hn => he b o (fun z => hn (show some a = some b by rw [z])) hb, fun b hb => ?_, .inl ⟨rfl, .int d⟩⟩
    cases hb
    exact ⟨_, ht, t0, t1, t2, rfl, i1, i2, i3, i4⟩
section
variable {K : PySem.W.Frag} {vs : List V} {H : Hp} {Q : VK} {E : XK} {a : Addr}
theorem ix0 {H1 : Hp} {σ : L2.St} {ta tb : TE} {x y z : Int} (g : H1 a = some (.lst [.int x, .int y, .int z])) (ha : Ev ta σ H1 (.ref a)) (hb : Ev tb σ H1 (.int 0)) : Ev (tOp (rIxL K) ta tb) σ H1 (.int x) := ev_ixI (ns := [x, y, z]) (i := 0) ha hb g rfl rfl
theorem ix1 {H1 : Hp} {σ : L2.St} {ta tb : TE} {x y z : Int} (g : H1 a = some (.lst [.int x, .int y, .int z])) (ha : Ev ta σ H1 (.ref a)) (hb : Ev tb σ H1 (.int 1)) : Ev (tOp (rIxL K) ta tb) σ H1 (.int y) := ev_ixI (ns := [x, y, z]) (i := 1) ha hb g rfl rfl
theorem ix2 {H1 : Hp} {σ : L2.St} {ta tb : TE} {x y z : Int} (g : H1 a = some (.lst [.int x, .int y, .int z])) (ha : Ev ta σ H1 (.ref a)) (hb : Ev tb σ H1 (.int 2)) : Ev (tOp (rIxL K) ta tb) σ H1 (.int z) := ev_ixI (ns := [x, y, z]) (i := 2) ha hb g rfl rfl
theorem c10 (j : Int) (h0 : 0 ≤ j) (h1 : j ≤ 100) : CPowW 10 j := cpow_of (a := 4) (by decide) (by omega) h0 (by omega)
theorem mul_sm {i j : Int} {a b : Nat} (ha : i.natAbs < 2 ^ a) (hb : j.natAbs < 2 ^ b) (h : a + b ≤ 900000) : CMulW i j := wide_mul' ha hb h
abbrev sp_draw (K : PySem.W.Frag) : Sp := spD (gx K) 1 true .f 1 G_draw
theorem ln_draw (h : sp_draw K vs H Q E) : vs.length = (["source", "limit"] : List Str).length := spD_len h
abbrev N_draw : List Str := ["source", "limit", "digit", "mixed"]
def t_draw (K : PySem.W.Frag) : TS :=
  (tSeq (tIfS (tTest (tOp rGtI (tOp (rIxL K) (tVar 0) (tC (.int 0))) (tC (.int 0)))) (tSeq (tAsg (tOp rModI (tOp (rIxL K) (tVar 0) (tC (.int 0))) (tVar 1)) (gName 2))
    (tSeq (tAsg (tOp rDivI (tOp (rIxL K) (tVar 0) (tC (.int 0))) (tVar 1)) (gSub (tVar 0) (tC (.int 0)) rSetL))
    (tRet (tVar 2)))) tNext)
    (tSeq (tAsg (tOp rAddI (tOp (rIxL K) (tVar 0) (tC (.int 2))) (tC (.int 1))) (gSub (tVar 0) (tC (.int 2)) rSetL))
    (tSeq (tAsg (tOp rModI (tOp rPowI (tOp rAddI (tOp rAddI (tOp (rIxL K) (tVar 0) (tC (.int 1))) (tOp rMulI (tOp rMulI (tC (.int 40503)) (tOp (rIxL K) (tVar 0) (tC (.int 2)))) (tOp (rIxL K) (tVar 0) (tC (.int 2))))) (tC (.int 11))) (tC (.int 3))) (tC (.int 2305843009213693951))) (gName 3))
    (tSeq (tAsg (tOp rModI (tOp rPowI (tOp rAddI (tVar 3) (tOp rMulI (tC (.int 69621)) (tOp (rIxL K) (tVar 0) (tC (.int 2))))) (tC (.int 3))) (tC (.int 2305843009213693921))) (gName 3))
    (tRet (tOp rModI (tOp rDivI (tVar 3) (tC (.int 65537))) (tVar 1)))))))
theorem NM_lt : NM = 2 ^ 250 := rfl
theorem rd_draw (h : sp_draw K vs H Q E) : t_draw K (fin Q) (L2.start N_draw vs) H := by
  obtain ⟨a, n, lim, rfl, hn, hl, hl', ⟨s0, s1, s2, hS, h1, h1', h2, h2'⟩, q⟩ := draw_asked h
  rw [NM_lt] at hn
  refine q_when (et_test (ev_gtI (ix0 hS (ev_var rfl) ev_c) ev_c)) (fun hb H1 e1 => ?_) (fun hb H1 e1 => ?_)
  · have g1 := e1 _ _ hS
    refine q_asg (ev_modI (ix0 g1 (ev_var rfl) ev_c) (ev_var rfl) (by omega)) fun H2 e2 => ?_
    have g2 := e2 _ _ g1
    refine q_setL (j := 0) g2 (ev_divI (ix0 g2 (ev_var rfl) ev_c) (ev_var rfl) (wide_div (by omega) hl' (by omega) (by omega))) (ev_var rfl) ev_c (by show 0 < 3; decide) fun H3 e3 => ?_
    refine s_ret (v := .int (s0 % lim)) (ev_var rfl) fun H4 e4 => q _ H4 (Int.emod_nonneg _ (by omega)) (Int.emod_lt_of_pos _ (by omega)) (fun b o hba hb => e4 _ _ ?_) ⟨s0 / lim, s1, s2, e4 _ _ upd_same, h1, h1', h2, by omega⟩
    rw [upd_ne hba]
    exact e3 _ _ (e2 _ _ (e1 _ _ hb))
  · have g1 := e1 _ _ hS
    refine q_setL (j := 2) g1 (ev_addI (ix2 g1 (ev_var rfl) ev_c) ev_c) (ev_var rfl) ev_c (by show 2 < 3; decide) fun H2 e2 => ?_
    have g2 : (upd H2 a (.lst ([V.int s0, .int s1, .int s2].set 2 (.int (s2 + 1))))) a = some (.lst [.int s0, .int s1, .int (s2 + 1)]) := upd_same
    have z2 : (s2 + 1).natAbs < 2 ^ 251 := by omega
    have q1 : (40503 * (s2 + 1)).natAbs < 2 ^ 267 := wide_lt (a := 16) (b := 251) (show (40503 : Int).natAbs < 2 ^ 16 by decide) z2
    have p1 : (s1 + 40503 * (s2 + 1) * (s2 + 1) + 11).natAbs < 2 ^ 520 := by
      have a1 := wide_lt (a := 267) (b := 251) q1 z2
      have a4 := add_lt_pow (a := 518) (Nat.lt_of_lt_of_le h1' (two_pow_le (by omega))) a1
      exact Nat.lt_of_lt_of_le (add_lt_pow (a := 519) a4 (Nat.lt_of_lt_of_le (show (11 : Int).natAbs < 2 ^ 4 by decide) (two_pow_le (by omega)))) (two_pow_le (by omega))
    refine q_asg (ev_modI (ev_powI (ev_addI (ev_addI (ix1 g2 (ev_var rfl) ev_c) (ev_mulI (ev_mulI ev_c (ix2 g2 (ev_var rfl) ev_c) (mul_sm (a := 16) (b := 251) (by decide) z2 (by omega))) (ix2 g2 (ev_var rfl) ev_c) (mul_sm (a := 267) (b := 251) q1 z2 (by omega)))) ev_c) ev_c (cpow_of (a := 520) p1 (by omega) (by omega) (by decide))) ev_c (by decide)) fun H3 e3 => ?_
    have g3 := e3 _ _ g2
    generalize hm1 : (s1 + 40503 * (s2 + 1) * (s2 + 1) + 11) ^ (Int.toNat 3) % 2305843009213693951 = m1
    have m1a : 0 ≤ m1 := by rw [← hm1]; exact Int.emod_nonneg _ (by decide)
    have m1b : m1 < 2305843009213693951 := by rw [← hm1]; exact Int.emod_lt_of_pos _ (by decide)
    have m1c : m1.natAbs < 2 ^ 137 := small_pow m1a (Int.lt_trans m1b (by decide))
    have p2 : (m1 + 69621 * (s2 + 1)).natAbs < 2 ^ 270 := by
      have a1 := wide_lt (a := 17) (b := 251) (show (69621 : Int).natAbs < 2 ^ 17 by decide) z2
      have a4 := add_lt_pow (a := 268) (Nat.lt_of_lt_of_le m1c (two_pow_le (by omega))) a1
      exact Nat.lt_of_lt_of_le a4 (two_pow_le (by omega))
    refine q_asg (ev_modI (ev_powI (ev_addI (ev_var rfl) (ev_mulI ev_c (ix2 g3 (ev_var rfl) ev_c) (mul_sm (a := 17) (b := 251) (by decide) z2 (by omega)))) ev_c (cpow_of (a := 270) p2 (by omega) (by omega) (by decide))) ev_c (by decide)) fun H4 e4 => ?_
    refine s_ret (ev_modI (ev_divI (ev_var rfl) ev_c (wide_div (b := 17) (by decide) (by decide) (by omega) (by omega))) (ev_var rfl) (by omega)) fun H5 e5 => ?_
    refine q _ H5 (Int.emod_nonneg _ (by omega)) (Int.emod_lt_of_pos _ (by omega)) (fun b o hba hb => e5 _ _ (e4 _ _ (e3 _ _ ?_))) ⟨s0, s1, s2 + 1, e5 _ _ (e4 _ _ g3), h1, h1', by omega, by omega⟩
    rw [upd_ne hba]
    exact e2 _ _ (e1 _ _ hb)
/-! a new source: its word, then what is told of it -/
def G_openSource (ds : List D) : Prop := ∃ (ns : List Int) (k : Int), ds = [.scr ns, .int k] ∧ 0 ≤ k ∧ k < 1000000
theorem lnG_openSource : ∀ ds, G_openSource ds → ds.length = 2 := fun ds ⟨ns, k, e, _⟩ => by rw [e]; rfl
abbrev sp_openSource (K : PySem.W.Frag) : Sp := spS (gx K) 2 G_openSource
theorem ln_openSource (h : sp_openSource K vs H Q E) : vs.length = (["script", "k"] : List Str).length := by
  obtain ⟨A, ds, hl, hr, _⟩ := h
  rw [pd_len hr, hl]; rfl
abbrev N_openSource : List Str := ["script", "k", "cell"]
def t_openSource (K : PySem.W.Frag) : TS :=
  (tSeq (tAsg (tC (.int 0)) (gName 2))
    (tSeq (tIfS (tTest (tOp rLtI (tVar 1) (tCB (Evl.rLenS K) (tCons (tVar 0) tNil)))) (tAsg (tOp (rIxL K) (tVar 0) (tVar 1)) (gName 2)) tNext)
    (tRet (tLst (tCons (tCB Evl.rMax2 (tCons (tC (.int 0)) (tCons (tOp rSubI (tVar 2) (tOp rPowI (tC (.int 10)) (tC (.int 18)))) tNil))) (tCons (tOp rAddI (tOp rMulI (tOp rModI (tVar 2) (tOp rAddI (tOp rPowI (tC (.int 10)) (tC (.int 60))) (tC (.int 7)))) (tC (.int 64))) (tOp rModI (tVar 1) (tC (.int 64)))) (tCons (tC (.int 0)) tNil)))))))
def p_openSource : PS' :=
  (kSeq (kAsgD 2 (pC (.int 0)))
    (kSeq (kIf (qTest (pOp pLt (pV 1) (pCB pLen (pCons (pV 0) pNil)))) (kAsgD 2 (pOp pIxQ (pV 0) (pV 1))) kNext)
    (kRet (pLst (pCons (pCB pMax2 (pCons (pC (.int 0)) (pCons (pOp pSub (pV 2) (pOp pPow (pC (.int 10)) (pC (.int 18)))) pNil))) (pCons (pOp pAdd (pOp pMul (pOp pMod (pV 2) (pOp pAdd (pOp pPow (pC (.int 10)) (pC (.int 60))) (pC (.int 7)))) (pC (.int 64))) (pOp pMod (pV 1) (pC (.int 64)))) (pCons (pC (.int 0)) pNil)))))))
theorem ss_openSource {K : PySem.W.Frag} : SS (gx K) W0 .f 0 (t_openSource K) p_openSource := by
  unfold t_openSource p_openSource
  exact SS.mono ((ss_seq (ss_asgD (sx_int).fe)
    (ss_seq (ss_if (sb_test (sx_op (sx_v).et ((sx_cb (sa_ct (sx_v).et sa_nil) oa_len)).ft os_lt)) (ss_asgD ((sx_op (sx_v).et (sx_v).et os_ixQ)).fe) ss_next)
    (ss_retF (sx_lst (sa_ce ((sx_cb (sa_ct (sx_int).ft (sa_ct ((sx_op (sx_v).et ((sx_op (sx_int).ft (sx_int).ft os_pow)).ft os_sub)).ft sa_nil)) oa_max2)).fe (sa_ce ((sx_op ((sx_op ((sx_op (sx_v).et ((sx_op ((sx_op (sx_int).ft (sx_int).ft os_pow)).ft (sx_int).ft os_add)).ft os_mod)).ft (sx_int).ft os_mul)).ft ((sx_op (sx_v).et (sx_int).ft os_mod)).ft os_add)).fe (sa_ce (sx_int).fe sa_nil)))))))) (by decide +kernel)
theorem rd_openSource (h : sp_openSource K vs H Q E) : t_openSource K (fin Q) (L2.start N_openSource vs) H := by
  obtain ⟨A, ds, hl, hr, ⟨ns, k, rfl, k0, k1⟩, q⟩ := h
  have hr' : RpA K H (fun _ => False) vs [.scr ns, .int k] := hr.less fun _ z => z.elim
  refine rd_def0 (g := gx K) (n := 2) (hasS := false) (mr := .f) (k := 0) (p := p_openSource) (m := 1) (E := E) ss_openSource (.inr rfl) (by decide) ⟨none, vs, [.scr ns, .int k], fun _ => False, 0, fun d => ∃ s0 s1 s2 : Int, d = .lst [.int s0, .int s1, .int s2] ∧ 0 ≤ s1 ∧ s1.natAbs < 2 ^ 220 ∧ s2 = 0, fun _ => False, rfl, rfl, rfl, hr'.less (fun a z => z.elim id fun z => by cases z), fun a z => z.elim, fun a z => (by cases z), by decide, ?_, ?_, fun e _ _ _ _ _ z => z.elim⟩
  · have done : ∀ c : Int, (kRet (pLst (pCons (pCB pMax2 (pCons (pC (.int 0)) (pCons (pOp pSub (pV 2) (pOp pPow (pC (.int 10)) (pC (.int 18)))) pNil))) (pCons (pOp pAdd (pOp pMul (pOp pMod (pV 2) (pOp pAdd (pOp pPow (pC (.int 10)) (pC (.int 60))) (pC (.int 7)))) (pC (.int 64))) (pOp pMod (pV 1) (pC (.int 64)))) (pCons (pC (.int 0)) pNil))))) (topK (fun d => ∃ s0 s1 s2 : Int, d = .lst [.int s0, .int s1, .int s2] ∧ 0 ≤ s1 ∧ s1.natAbs < 2 ^ 220 ∧ s2 = 0) fun _ => False) [some (.d (.scr ns)), some (.d (.int k)), some (.d (.int c))] := fun c => by
      have hp : (0 : Int) < 10 ^ (Int.toNat 60) + 7 := by decide
      have m0 := Int.emod_nonneg c (b := 10 ^ (Int.toNat 60) + 7) (by decide)
      have m1 := Int.emod_lt_of_pos c hp
      have m2 : (c % (10 ^ (Int.toNat 60) + 7)).natAbs < 2 ^ 200 := small_pow m0 (Int.lt_trans m1 (by decide))
      have k64 := Int.emod_nonneg k (b := 64) (by decide)
      have k65 := Int.emod_lt_of_pos k (b := 64) (by decide)
      refine ⟨c10 _ (by decide) (by decide), c10 _ (by decide) (by decide), hp, mul_sm (a := 200) (b := 7) m2 (by decide) (by omega), by show (0 : Int) < 64; decide, by show 3 ≤ 100000; decide, _, _, _, rfl, ?_, ?_, rfl⟩
      · omega
      · have a1 := wide_lt (a := 200) (b := 7) m2 (show (64 : Int).natAbs < 2 ^ 7 by decide)
        have a2 := add_lt_pow a1 (show (k % 64).natAbs < 2 ^ 207 by omega)
        exact Nat.lt_of_lt_of_le a2 (two_pow_le (by omega))
    refine ⟨ns.length, rfl, ?_⟩
    by_cases hk : k < (ns.length : Int)
    · refine ite_t (decide_eq_true hk) ⟨ns.getD k.toNat 0, ?_, done _⟩
      have := at_nat (xs := ns) (i := k.toNat) (getD_some (by omega))
      rw [show ((k.toNat : Nat) : Int) = k by omega] at this
      exact this
    · exact ite_f (decide_eq_false hk) (done 0)
  · rintro v H' d M hM ⟨s0, s1, s2, rfl, h1, h2, rfl⟩ ⟨he, _, hv⟩
    rcases hv with ⟨z, _⟩ | ⟨a, ws, es, rfl, e, h3, h4, h5, h6⟩
    · cases z
    · cases e
      refine q a H' h4 (fun b o hb => he b o hb fun z => by cases z) ⟨ws, h3, s0, s1, 0, ?_, h1, h2, by decide, by decide⟩
      cases h6 with
      | cons a1 r => cases r with
        | cons a2 r => cases r with
          | cons a3 r => cases r; cases a1; cases a2; cases a3; rfl
end
end PD

set_option exponentiation.threshold 600
/-! what laws k35 to k50 share -/
namespace PD
open PySem PySem.Spec PyProof.Rows L2 Evl SL
section
variable {po : D → Prop} {xx : Exn → Prop} {κ : PK} {ρ : Env}
theorem pickO {ds : List D} {i : Int} {R : D → Prop} (h0 : 0 ≤ i) (h1 : i < ds.length) (hr : ∀ d ∈ ds, R d) : ∃ x, atI ds i = some x ∧ R x := by
  obtain ⟨n, rfl⟩ := Int.eq_ofNat_of_zero_le h0
  have hn : n < ds.length := by omega
  have hg := List.getElem?_eq_getElem hn
  exact ⟨ds[n], atI_nat hg, hr _ (List.mem_of_getElem? hg)⟩
theorem euclidO {x y : Int} (hx : 0 ≤ x) (hy : 0 < y) : Int.gcd y (x % y) = Int.gcd x y := by
  obtain ⟨a, rfl⟩ := Int.eq_ofNat_of_zero_le hx
  obtain ⟨b, rfl⟩ := Int.eq_ofNat_of_zero_le (show 0 ≤ y by omega)
  show Nat.gcd b ((a : Int) % (b : Int)).natAbs = Nat.gcd a b
  rw [← Int.natCast_emod, Int.natAbs_natCast, Nat.gcd_comm a b, Nat.gcd_comm b (a % b), ← Nat.gcd_rec]
abbrev N_divisor : List Str := ["one", "other"]
def t_divisor (K : PySem.W.Frag) : TS :=
  (tSeq (tWhile (tTest (tOp rGtI (tVar 1) (tC (.int 0)))) (tPar 0 1 (tCons (tVar 1) (tCons (tOp rModI (tVar 0) (tVar 1)) tNil))))
    (tRet (tVar 0)))
def p_divisor : PS' :=
  (kSeq (kWhile (qTest (pOp pGt (pV 1) (pC (.int 0)))) (kPar 0 1 (pV 1) (pOp pMod (pV 0) (pV 1)) (stW .e) (stW .e)))
    (kRetO 0))
def G_divisor : GD := Gof0 p_divisor false 0
def sp_divisor (K : PySem.W.Frag) : Sp := spD (gx K) 2 false .f 0 G_divisor
theorem ss_divisor {K : PySem.W.Frag} : SS (gx K) W0 .f 0 (t_divisor K) p_divisor := by
  unfold t_divisor p_divisor
  exact SS.mono ((ss_seq (ss_while (sb_test (sx_op (sx_v).et (sx_int).ft os_gt)) (ss_par (by decide) (.inl rfl) (.inl rfl) sx_v ((sx_op (sx_v).et (sx_v).et os_mod)).fe))
    (ss_retO (i := 0)))) (by decide +kernel)
theorem ln_divisor {K : PySem.W.Frag} {vs : List V} {H : Hp} {Q : VK} {E : XK} (h : sp_divisor K vs H Q E) : vs.length = (["one", "other"] : List Str).length := spD_len h
theorem rd_divisor {K : PySem.W.Frag} {vs : List V} {H : Hp} {Q : VK} {E : XK} (h : sp_divisor K vs H Q E) : t_divisor K (fin Q) (L2.start N_divisor vs) H := rd_def0 ss_divisor (.inr rfl) (by decide +kernel) h
theorem g_divisor {x y : Int} (hx : 0 ≤ x) (hy : 0 ≤ y) (h : po (.int ((Int.gcd x y : Nat) : Int))) : G_divisor [.int x, .int y] po xx := by
  refine ⟨⟨fun m ρ => ∃ a b : Int, ρ = [some (.d (.int a)), some (.d (.int b))] ∧ 0 ≤ a ∧ 0 ≤ b ∧ Int.gcd a b = Int.gcd x y ∧ m = b.toNat, ⟨y.toNat, x, y, rfl, hx, hy, rfl, rfl⟩, ?_⟩⟩
  rintro m ρ ⟨a, b, rfl, ha, hb, hg, rfl⟩
  refine ite_b (fun hne => ?_) fun he => ?_
  · have hb' : 0 < b := of_decide_eq_true hne
    refine ⟨hb', (a % b).toNat, ?_, b, a % b, rfl, hb, Int.emod_nonneg _ (by omega), by rw [euclidO ha hb']; exact hg, rfl⟩
    have := Int.emod_lt_of_pos a hb'
    have := Int.emod_nonneg a (b := b) (by omega)
    omega
  · have hb0 : b = 0 := by
      have : ¬ 0 < b := of_decide_eq_false he
      omega
    subst hb0
    have : a = ((Int.gcd x y : Nat) : Int) := by
      rw [← hg, Int.gcd_zero_right]; omega
    rw [← this] at h
    exact ⟨rfl, h⟩
abbrev N_plain : List Str := ["numbers", "shared", "number"]
def t_plain (K : PySem.W.Frag) : TS :=
  (tSeq (tAsg (tC (.int 0)) (gName 1))
    (tSeq (tFor (iList K (tVar 0)) (gName 2) (tAsg (tCallS (sp_divisor K) (WE W0) (tCons (tVar 1) (tCons (tVar 2) tNil))) (gName 1)))
    (tRet (tLc (iList K (tVar 0)) (gName 2) tYes (tOp rDivI (tVar 2) (tVar 1)) [2]))))
def p_plain : PS' :=
  (kSeq (kAsgD 1 (pC (.int 0)))
    (kSeq (kFor (pwL (pV 0)) (gvN 2) (kAsgD 1 (pCall 2 G_divisor (pCons (pV 1) (pCons (pV 2) pNil)))))
    (kRet (pLc (pwL (pV 0)) (gvN 2) qYes (pOp pDiv (pV 2) (pV 1)) [2]))))
def G_plain : GD := Gof0 p_plain false 2
def sp_plain (K : PySem.W.Frag) : Sp := spD (gx K) 1 false .f 0 G_plain
theorem ss_plain {K : PySem.W.Frag} : SS (gx K) W0 .f 0 (t_plain K) p_plain := by
  unfold t_plain p_plain
  exact SS.mono ((ss_seq (ss_asgD (sx_int).fe)
    (ss_seq (ss_for (sw_list (md := .e) (.inl rfl) sx_v) sg_name (ss_asgD ((sx_callE (.inr rfl) (sa_ce sx_v (sa_ce sx_v sa_nil)))).fe))
    (ss_retF (sx_lc (vs := [2]) (sw_list (md := .b) (.inr rfl) (sx_v).eb) sg_name (by decide) sb_yes ((sx_op (sx_v).et (sx_v).et os_div)).fe))))) (by decide +kernel)
theorem ln_plain {K : PySem.W.Frag} {vs : List V} {H : Hp} {Q : VK} {E : XK} (h : sp_plain K vs H Q E) : vs.length = (["numbers"] : List Str).length := spD_len h
theorem rd_plain {K : PySem.W.Frag} {vs : List V} {H : Hp} {Q : VK} {E : XK} (h : sp_plain K vs H Q E) : t_plain K (fin Q) (L2.start N_plain vs) H := rd_def0 ss_plain (.inr rfl) (by decide +kernel) h
theorem g_plain {ns : List Int} {k : Nat} (hl : ns.length ≤ 80000) (h1 : 1 ≤ ns.length) (hp : ∀ x ∈ ns, 1 ≤ x) (hz : Sz k ns) (h0 : 0 < k) (h9 : k ≤ 9000) (h : po (dI (red ns))) : G_plain [dI ns] po xx := by
  obtain ⟨g1, g2⟩ := gcdL_lt hz hp h1
  have fin : ∀ z : Option Wd, clr [some (.d (dI ns)), some (.d (.int (gcdL ns))), z] [2] = true → (kRet (pLc (pwL (pV 0)) (gvN 2) qYes (pOp pDiv (pV 2) (pV 1)) [2])) (topK po fun _ => False) [some (.d (dI ns)), some (.d (.int (gcdL ns))), z] := fun z hc => by
    refine lc_map (ds := ns.map D.int) (fun d => match d with | .int i => .int (i / gcdL ns) | d => d) hc (fun q h => h) (by rw [List.length_map]; omega) (fun d hd => ?_) ?_
    · obtain ⟨i, hi, rfl⟩ := List.mem_map.mp hd
      exact ⟨_, rfl, fun q hq => ⟨wide_div g1 g2 h0 h9, hq⟩⟩
    · rw [List.map_map]
      have e : dI (red ns) = .lst (ns.map ((fun d : D => match d with | .int i => .int (i / gcdL ns) | d => d) ∘ D.int)) := by
        unfold dI red
        rw [List.map_map]
        rfl
      rw [← e]
      exact h
  refine for_ind (ds := ns.map D.int) (fun q h => h) (by rw [List.length_map]; omega) (fun i ρ => ∃ z, ρ = [some (.d (dI ns)), some (.d (.int (gcdL (ns.take i)))), z] ∧ (z = none ∨ ∃ y : Int, z = some (.d (.int y)))) ⟨none, rfl, .inl rfl⟩ ?_ ?_
  · rintro i d ρ hi ⟨z, rfl, _⟩
    obtain ⟨y, hy, rfl⟩ := map_at hi
    have hy1 := hp y (List.mem_of_getElem? hy)
    refine ⟨rfl, g_divisor (gcdL_nn _) (by omega) ⟨some (.d (.int y)), ?_, .inr ⟨y, rfl⟩⟩⟩
    rw [gcdL_take hy]
    rfl
  · rintro ρ ⟨z, rfl, hz'⟩
    rw [List.length_map, List.take_length]
    rcases hz' with rfl | ⟨y, rfl⟩
    · exact fin _ rfl
    · exact fin _ rfl
def inIO (lo hi : Int) : D → Prop := fun d => ∃ i, d = .int i ∧ lo ≤ i ∧ i ≤ hi
theorem rngO_at {lo : Int} {n i : Nat} {d : D} (h : (rngD lo n)[i]? = some d) : i < n ∧ d = .int (lo + (i : Int)) := by
  unfold rngD at h
  obtain ⟨j, hj, rfl⟩ := map_at h
  have hl := (List.getElem?_eq_some_iff.mp hj).1
  rw [List.length_range] at hl
  rw [List.getElem?_range hl] at hj
  cases hj
  exact ⟨hl, rfl⟩
theorem rngO_len {lo : Int} {n : Nat} : (rngD lo n).length = n := by simp [rngD]
abbrev N_width : List Str := ["source", "script"]
def t_width (K : PySem.W.Frag) : TS :=
  (tRet (tIf (tTest (tOp (rEqD K) (tVar 1) (tLst tNil))) (tC (.int 3)) (tOp (rIxL K) (tLst (tCons (tOp rAddI (tC (.int 2)) (tCallS (sp_draw K) (WE W0) (tCons (tVar 0) (tCons (tC (.int 7)) tNil)))) (tCons (tC (.int 3)) (tCons (tC (.int 8)) tNil)))) (tCallS (sp_draw K) (WE W0) (tCons (tVar 0) (tCons (tC (.int 3)) tNil))))))
def p_width : PS' :=
  (kRet (pIf (qTest (pOp (pEqD false) (pV 1) (pLst pNil))) (pC (.int 3)) (pOp pIxL (pLst (pCons (pOp pAdd (pC (.int 2)) (pCallS 0 1 G_draw (pCons (pC (.int 7)) pNil))) (pCons (pC (.int 3)) (pCons (pC (.int 8)) pNil)))) (pCallS 0 1 G_draw (pCons (pC (.int 3)) pNil)))))
def G_width : GD := Gof0 p_width true 0
def sp_width (K : PySem.W.Frag) : Sp := spD (gx K) 1 true .e 2 G_width
theorem ss_width {K : PySem.W.Frag} : SS (gx K) W0 .e 2 (t_width K) p_width := by
  unfold t_width p_width
  exact SS.mono ((ss_retE (sx_if (sb_test (sx_op (sx_v).et ((sx_lst sa_nil)).ft os_eqD)) (sx_int).fe (sx_ixL ((sx_lst (sa_ce ((sx_op (sx_int).ft ((sx_callSE (i := 0) (.inr rfl) (sa_ce (sx_int).fe sa_nil))).ft os_add)).fe (sa_ce (sx_int).fe (sa_ce (sx_int).fe sa_nil))))).fb ((sx_callSE (i := 0) (.inr rfl) (sa_ce (sx_int).fe sa_nil))).ft)))) (by decide +kernel)
theorem ln_width {K : PySem.W.Frag} {vs : List V} {H : Hp} {Q : VK} {E : XK} (h : sp_width K vs H Q E) : vs.length = (["source", "script"] : List Str).length := spD_len h
theorem rd_width {K : PySem.W.Frag} {vs : List V} {H : Hp} {Q : VK} {E : XK} (h : sp_width K vs H Q E) : t_width K (fin Q) (L2.start N_width vs) H := rd_def0 ss_width (.inl rfl) (by decide +kernel) h
theorem g_width {ns : List Int} (h : ∀ n : Nat, 2 ≤ n → n ≤ 8 → po (.int (n : Int))) : G_width [.scr ns] po xx := by
  refine ⟨by show 0 ≤ 100000; decide, pEqD_scr fun b hb => ite_b (fun _ => h 3 (by decide) (by decide)) fun _ => ?_⟩
  refine ⟨trivial, rfl, g_draw (by decide) (by decide) fun d0 a0 a1 => ⟨by show 3 ≤ 100000; decide, trivial, rfl, g_draw (by decide) (by decide) fun d1 b0 b1 => ?_⟩⟩
  obtain ⟨x, hx, i, rfl, i1, i2⟩ := pickO (R := inIO 2 8) (ds := [.int (2 + d0), .int 3, .int 8]) b0 b1 (fun d hd => by
    simp only [List.mem_cons, List.mem_nil_iff, or_false] at hd
    rcases hd with rfl | rfl | rfl
    · exact ⟨_, rfl, by omega, by omega⟩
    · exact ⟨_, rfl, by decide, by decide⟩
    · exact ⟨_, rfl, by decide, by decide⟩)
  refine ⟨_, hx, ?_⟩
  have := h i.toNat (by omega) (by omega)
  rw [show ((i.toNat : Nat) : Int) = i by omega] at this
  exact this
abbrev N_any : List Str := ["source", "wide"]
def t_any (K : PySem.W.Frag) : TS :=
  (tSeq (tIfS (tTest (tOp rLtI (tVar 1) (tOp rPowI (tC (.int 10)) (tC (.int 15))))) (tRet (tCallS (sp_draw K) (WE W0) (tCons (tVar 0) (tCons (tVar 1) tNil)))) tNext)
    (tRet (tOp rModI (tOp rAddI (tOp rMulI (tCallS (sp_draw K) (WE W0) (tCons (tVar 0) (tCons (tOp rPowI (tC (.int 10)) (tC (.int 15))) tNil))) (tOp rPowI (tC (.int 10)) (tC (.int 16)))) (tCallS (sp_draw K) (WE W0) (tCons (tVar 0) (tCons (tOp rPowI (tC (.int 10)) (tC (.int 16))) tNil)))) (tVar 1))))
def p_any : PS' :=
  (kSeq (kIf (qTest (pOp pLt (pV 1) (pOp pPow (pC (.int 10)) (pC (.int 15))))) (kRet (pCallS 0 1 G_draw (pCons (pV 1) pNil))) kNext)
    (kRet (pOp pMod (pOp pAdd (pOp pMul (pCallS 0 1 G_draw (pCons (pOp pPow (pC (.int 10)) (pC (.int 15))) pNil)) (pOp pPow (pC (.int 10)) (pC (.int 16)))) (pCallS 0 1 G_draw (pCons (pOp pPow (pC (.int 10)) (pC (.int 16))) pNil))) (pV 1))))
def G_any : GD := Gof0 p_any true 0
def sp_any (K : PySem.W.Frag) : Sp := spD (gx K) 1 true .f 3 G_any
theorem ss_any {K : PySem.W.Frag} : SS (gx K) W0 .f 3 (t_any K) p_any := by
  unfold t_any p_any
  exact SS.mono ((ss_seq (ss_if (sb_test (sx_op (sx_v).et ((sx_op (sx_int).ft (sx_int).ft os_pow)).ft os_lt)) (ss_retF (sx_callSE (i := 0) (.inr rfl) (sa_ce sx_v sa_nil))) ss_next)
    (ss_retF (sx_op ((sx_op ((sx_op ((sx_callSE (i := 0) (.inr rfl) (sa_ce ((sx_op (sx_int).ft (sx_int).ft os_pow)).fe sa_nil))).ft ((sx_op (sx_int).ft (sx_int).ft os_pow)).ft os_mul)).ft ((sx_callSE (i := 0) (.inr rfl) (sa_ce ((sx_op (sx_int).ft (sx_int).ft os_pow)).fe sa_nil))).ft os_add)).ft (sx_v).et os_mod)))) (by decide +kernel)
theorem ln_any {K : PySem.W.Frag} {vs : List V} {H : Hp} {Q : VK} {E : XK} (h : sp_any K vs H Q E) : vs.length = (["source", "wide"] : List Str).length := spD_len h
theorem rd_any {K : PySem.W.Frag} {vs : List V} {H : Hp} {Q : VK} {E : XK} (h : sp_any K vs H Q E) : t_any K (fin Q) (L2.start N_any vs) H := rd_def0 ss_any (.inr rfl) (by decide +kernel) h
theorem g_any {wide : Int} (w1 : 1 ≤ wide) (w2 : wide.natAbs < 2 ^ 120) (h : ∀ d : Int, 0 ≤ d → d < wide → po (.int d)) : G_any [.int wide] po xx := by
  have c15 := c10 15 (by decide) (by decide)
  have c16 := c10 16 (by decide) (by decide)
  refine ⟨c15, ite_b (fun _ => ⟨trivial, rfl, g_draw w1 (Nat.lt_trans w2 (by decide)) fun d d0 d1 => h d d0 d1⟩) fun _ => ?_⟩
  refine ⟨trivial, c15, rfl, g_draw (by decide) (by decide) fun d0 a0 a1 => ⟨c16, mul_sm (a := 60) (b := 60) (small_pow a0 (Int.lt_trans a1 (by decide))) (by decide) (by decide), trivial, c16, rfl, g_draw (by decide) (by decide) fun d1 b0 b1 => ⟨by show 0 < wide; omega, ?_⟩⟩⟩
  exact h _ (Int.emod_nonneg _ (by omega)) (Int.emod_lt_of_pos _ (by omega))
theorem rep1 {i : Int} : ∀ n : Nat, repD n [D.int i] = (List.replicate n i).map D.int
  | 0 => rfl
  | n + 1 => by
    have := rep1 (i := i) n
    unfold repD at this ⊢
    rw [List.replicate_succ, List.replicate_succ, List.flatten_cons, List.map_cons, this]; rfl
abbrev N_weights : List Str := ["source", "width", "wide", "found", "way", "spot"]
def t_weights (K : PySem.W.Frag) : TS :=
  (tSeq (tAsg (tLc (iRng1 (tCons (tVar 1) tNil)) (gName 5) tYes (tOp rAddI (tC (.int 1)) (tCallS (sp_any K) (WE W0) (tCons (tVar 0) (tCons (tVar 2) tNil)))) [5]) (gName 3))
    (tSeq (tAsg (tCallS (sp_draw K) (WE W0) (tCons (tVar 0) (tCons (tC (.int 5)) tNil))) (gName 4))
    (tSeq (tIfS (tTest (tOp rEq (tVar 4) (tC (.int 0)))) (tAsg (tOp rRep (tLst (tCons (tC (.int 1)) tNil)) (tVar 1)) (gName 3)) tNext)
    (tSeq (tIfS (tTest (tOp rEq (tVar 4) (tC (.int 1)))) (tAsg (tVar 2) (gSub (tVar 3) (tCallS (sp_draw K) (WE W0) (tCons (tVar 0) (tCons (tVar 1) tNil))) rSetL)) tNext)
    (tRet (tCallS (sp_plain K) (WE W0) (tCons (tVar 3) tNil)))))))
def p_weights : PS' :=
  (kSeq (kAsgF 3 (pLc (pwR1 (pCons (pV 1) pNil)) (gvN 5) qYes (pOp pAdd (pC (.int 1)) (pCallS 0 1 G_any (pCons (pV 2) pNil))) [5]))
    (kSeq (kAsgD 4 (pCallS 0 1 G_draw (pCons (pC (.int 5)) pNil)))
    (kSeq (kIf (qTest (pOp (pEq false) (pV 4) (pC (.int 0)))) (kAsgF 3 (pOp pRep (pLst (pCons (pC (.int 1)) pNil)) (pV 1))) kNext)
    (kSeq (kIf (qTest (pOp (pEq false) (pV 4) (pC (.int 1)))) (kSet 3 (pCallS 0 1 G_draw (pCons (pV 1) pNil)) (pV 2)) kNext)
    (kRet (pCallL .f 1 G_plain (pCons (pVb 3) pNil)))))))
def G_weights : GD := Gof0 p_weights true 3
def sp_weights (K : PySem.W.Frag) : Sp := spD (gx K) 2 true .f 270002 G_weights
theorem ss_weights {K : PySem.W.Frag} : SS (gx K) W0 .f 270002 (t_weights K) p_weights := by
  unfold t_weights p_weights
  exact SS.mono ((ss_seq (ss_asgF (sx_lc (vs := [5]) (sw_rng1 (sa_ct (sx_v).et sa_nil)) sg_name (by decide) sb_yes ((sx_op (sx_int).ft ((sx_callSE (i := 0) (.inr rfl) (sa_ce sx_v sa_nil))).ft os_add)).fe))
    (ss_seq (ss_asgD ((sx_callSE (i := 0) (.inr rfl) (sa_ce (sx_int).fe sa_nil))).fe)
    (ss_seq (ss_if (sb_test (sx_op (sx_v).et (sx_int).ft os_eq)) (ss_asgF (sx_rep ((sx_lst (sa_ce (sx_int).fe sa_nil))).fb (sx_v).et)) ss_next)
    (ss_seq (ss_if (sb_test (sx_op (sx_v).et (sx_int).ft os_eq)) (ss_set sx_v ((sx_callSE (i := 0) (.inr rfl) (sa_ce sx_v sa_nil))).ft) ss_next)
    (ss_retF (sx_callL (sa_ct (sx_vb).bt sa_nil)))))))) (by decide +kernel)
theorem ln_weights {K : PySem.W.Frag} {vs : List V} {H : Hp} {Q : VK} {E : XK} (h : sp_weights K vs H Q E) : vs.length = (["source", "width", "wide"] : List Str).length := spD_len h
theorem rd_weights {K : PySem.W.Frag} {vs : List V} {H : Hp} {Q : VK} {E : XK} (h : sp_weights K vs H Q E) : t_weights K (fin Q) (L2.start N_weights vs) H := rd_def0 ss_weights (.inr rfl) (by decide +kernel) h
theorem g_weights {n : Nat} {wide : Int} (n2 : 2 ≤ n) (n8 : n ≤ 8) (w1 : 1 ≤ wide) (w2 : wide.natAbs < 2 ^ 119) (h : ∀ ws : List Int, IsRow ws → ws.length = n → Sz 120 ws → po (dI ws)) : G_weights [.int (n : Int), .int wide] po xx := by
  have e120 : (2 : Nat) ^ 120 = 2 * 2 ^ 119 := by decide
  have done : ∀ (ws : List Int) (way : Int) (z : Option Wd), ws.length = n → (∀ x ∈ ws, 1 ≤ x ∧ x.natAbs < 2 ^ 120) → (kRet (pCallL .f 1 G_plain (pCons (pVb 3) pNil))) (topK po fun _ => False) [some .s, some (.d (.int (n : Int))), some (.d (.int wide)), some (.o (ws.map D.int)), some (.d (.int way)), z] := fun ws way z hl hw => by
    have hp : ∀ x ∈ ws, 1 ≤ x := fun x hx => (hw x hx).1
    have hz : Sz 120 ws := fun x hx => (hw x hx).2
    refine ⟨rfl, g_plain (by omega) (by omega) hp hz (by decide) (by decide) ⟨.inr ⟨rfl, lfi_ints _⟩, h (red ws) (isRow_red (by omega) (by omega) hp) (by rw [red_len]; exact hl) (red_sz hz)⟩⟩
  have step : ∀ (ws : List Int) (way : Int), ws.length = n → (∀ x ∈ ws, 1 ≤ x ∧ x.natAbs < 2 ^ 120) → (kSeq (kIf (qTest (pOp (pEq false) (pV 4) (pC (.int 1)))) (kSet 3 (pCallS 0 1 G_draw (pCons (pV 1) pNil)) (pV 2)) kNext)
    (kRet (pCallL .f 1 G_plain (pCons (pVb 3) pNil)))) (topK po fun _ => False) [some .s, some (.d (.int (n : Int))), some (.d (.int wide)), some (.o (ws.map D.int)), some (.d (.int way)), none] := fun ws way hl hw => by
    refine pEq_int fun b hb => ite_b (fun _ => ?_) fun _ => done ws way none hl hw
    refine ⟨trivial, rfl, g_draw (by omega) (by omega) fun y y0 y1 => ?_⟩
    obtain ⟨m, rfl⟩ := Int.eq_ofNat_of_zero_le y0
    have hn : m < ws.length := by omega
    refine ⟨m, by rw [List.length_map]; exact ix_nat hn, ?_⟩
    rw [← List.map_set]
    refine done (ws.set m wide) way none (by rw [List.length_set]; exact hl) fun x hx => ?_
    rcases List.mem_or_eq_of_mem_set hx with z | z
    · exact hw x z
    · rw [z]; exact ⟨w1, by omega⟩
  refine lc_ind (ds := rngD 0 n) rfl (fun q h => ⟨by omega, by omega, by rw [show ((n : Int)).toNat = n by omega] at *; exact h⟩) (by rw [rngO_len]; omega) (fun i acc => ∃ ws : List Int, acc = ws.map D.int ∧ ws.length = i ∧ ∀ x ∈ ws, 1 ≤ x ∧ x.natAbs < 2 ^ 120) ⟨[], rfl, rfl, fun m hm => by cases hm⟩ ?_ ?_
  · rintro i d acc hi _ ⟨ws, rfl, hl, ho⟩
    refine ⟨trivial, rfl, g_any w1 (by omega) fun m m0 m1 => ⟨ws ++ [1 + m], by simp, by simp [hl], fun x hx => ?_⟩⟩
    rcases List.mem_append.mp hx with z | z
    · exact ho x z
    · rw [List.mem_singleton.mp z]; omega
  · rintro acc ⟨ws, rfl, hl, ho⟩
    rw [rngO_len] at hl
    refine ⟨trivial, rfl, g_draw (by decide) (by decide) fun way w0 w5 => pEq_int fun b hb => ite_b (fun _ => ?_) fun _ => step ws way hl ho⟩
    refine ⟨by show 1 ≤ 100000; decide, ?_⟩
    refine ⟨⟨by omega, by omega, by show 1 * ((n : Int)).toNat ≤ 100000; omega⟩, ?_⟩
    show (kSeq _ _) _ [_, _, _, some (.o (repD ((n : Int)).toNat [D.int 1])), _, _]
    rw [rep1]
    refine step _ way (by rw [List.length_replicate]; omega) fun x hx => ?_
    rw [List.eq_of_mem_replicate hx]
    exact ⟨by decide, by decide⟩
abbrev N_share : List Str := ["source", "wide", "below", "above", "shared"]
def t_share (K : PySem.W.Frag) : TS :=
  (tSeq (tAsg (tOp rAddI (tC (.int 2)) (tCallS (sp_any K) (WE W0) (tCons (tVar 0) (tCons (tVar 1) tNil)))) (gName 2))
    (tSeq (tAsg (tOp rAddI (tC (.int 1)) (tCallS (sp_any K) (WE W0) (tCons (tVar 0) (tCons (tOp rSubI (tVar 2) (tC (.int 1))) tNil)))) (gName 3))
    (tSeq (tAsg (tCallS (sp_divisor K) (WE W0) (tCons (tVar 3) (tCons (tVar 2) tNil))) (gName 4))
    (tRet (tTup (tCons (tOp rDivI (tVar 3) (tVar 4)) (tCons (tOp rDivI (tVar 2) (tVar 4)) tNil)))))))
def p_share : PS' :=
  (kSeq (kAsgD 2 (pOp pAdd (pC (.int 2)) (pCallS 0 1 G_any (pCons (pV 1) pNil))))
    (kSeq (kAsgD 3 (pOp pAdd (pC (.int 1)) (pCallS 0 1 G_any (pCons (pOp pSub (pV 2) (pC (.int 1))) pNil))))
    (kSeq (kAsgD 4 (pCall 2 G_divisor (pCons (pV 3) (pCons (pV 2) pNil))))
    (kRet (pTup (pCons (pOp pDiv (pV 3) (pV 4)) (pCons (pOp pDiv (pV 2) (pV 4)) pNil)))))))
def G_share : GD := Gof0 p_share true 3
def sp_share (K : PySem.W.Frag) : Sp := spD (gx K) 1 true .e 6 G_share
theorem ss_share {K : PySem.W.Frag} : SS (gx K) W0 .e 6 (t_share K) p_share := by
  unfold t_share p_share
  exact SS.mono ((ss_seq (ss_asgD ((sx_op (sx_int).ft ((sx_callSE (i := 0) (.inr rfl) (sa_ce sx_v sa_nil))).ft os_add)).fe)
    (ss_seq (ss_asgD ((sx_op (sx_int).ft ((sx_callSE (i := 0) (.inr rfl) (sa_ce ((sx_op (sx_v).et (sx_int).ft os_sub)).fe sa_nil))).ft os_add)).fe)
    (ss_seq (ss_asgD ((sx_callE (.inr rfl) (sa_ce sx_v (sa_ce sx_v sa_nil)))).fe)
    (ss_retE (sx_tup (sa_ce ((sx_op (sx_v).et (sx_v).et os_div)).fe (sa_ce ((sx_op (sx_v).et (sx_v).et os_div)).fe sa_nil)))))))) (by decide +kernel)
theorem ln_share {K : PySem.W.Frag} {vs : List V} {H : Hp} {Q : VK} {E : XK} (h : sp_share K vs H Q E) : vs.length = (["source", "wide"] : List Str).length := spD_len h
theorem rd_share {K : PySem.W.Frag} {vs : List V} {H : Hp} {Q : VK} {E : XK} (h : sp_share K vs H Q E) : t_share K (fin Q) (L2.start N_share vs) H := rd_def0 ss_share (.inl rfl) (by decide +kernel) h
theorem g_share {wide : Int} {j : Nat} (w1 : 1 ≤ wide) (w2 : (wide + 1).natAbs < 2 ^ j) (j9 : j ≤ 119) (h : ∀ t b : Int, 1 ≤ t → t < b → Int.gcd t b = 1 → b.natAbs < 2 ^ j → po (.tup [.int t, .int b])) : G_share [.int wide] po xx := by
  have big : ∀ {x : Int}, 0 ≤ x → x ≤ wide + 1 → x.natAbs < 2 ^ j := fun {x} h0 h1 => by omega
  have p120 : (2 : Nat) ^ j < 2 ^ 120 := Nat.pow_lt_pow_right (by decide) (by omega)
  refine ⟨trivial, rfl, g_any w1 (by omega) fun d0 a0 a1 => ⟨trivial, rfl, g_any (wide := 2 + d0 - 1) (by omega) (by omega) fun d1 b0 b1 => ⟨rfl, g_divisor (by omega) (by omega) ?_⟩⟩⟩
  obtain ⟨up, hu⟩ : ∃ up, 1 + d1 = up := ⟨_, rfl⟩
  obtain ⟨down, hv⟩ : ∃ down, 2 + d0 = down := ⟨_, rfl⟩
  have u1 : 1 ≤ up := by omega
  have u2 : up < down := by omega
  have v2 : down.natAbs < 2 ^ j := big (by omega) (by omega)
  have gp := gcd_pos_of (a := up) (b := down) (by omega)
  have gle : ((Int.gcd up down : Nat) : Int) ≤ down := Int.le_of_dvd (by omega) (Int.gcd_dvd_right up down)
  have gz : ((Int.gcd up down : Nat) : Int).natAbs < 2 ^ 120 := by omega
  have e1 : up / ((Int.gcd up down : Nat) : Int) * ((Int.gcd up down : Nat) : Int) = up := Int.ediv_mul_cancel (Int.gcd_dvd_left up down)
  have e2 : down / ((Int.gcd up down : Nat) : Int) * ((Int.gcd up down : Nat) : Int) = down := Int.ediv_mul_cancel (Int.gcd_dvd_right up down)
  have fin : po (.tup [.int (up / ((Int.gcd up down : Nat) : Int)), .int (down / ((Int.gcd up down : Nat) : Int))]) := by
    refine h _ _ ?_ ?_ ?_ ?_
    · rw [Int.le_ediv_iff_mul_le gp, Int.one_mul]
      exact Int.le_of_dvd (by omega) (Int.gcd_dvd_left up down)
    · refine Int.lt_of_mul_lt_mul_right (a := ((Int.gcd up down : Nat) : Int)) ?_ (by omega)
      rw [e1, e2]; omega
    · exact Int.gcd_ediv_gcd_ediv_gcd (by
        have : 0 < ((Int.gcd up down : Nat) : Int) := gp
        omega)
    · have n0 : 0 ≤ down / ((Int.gcd up down : Nat) : Int) := Int.ediv_nonneg (by omega) (by omega)
      have n1 : down / ((Int.gcd up down : Nat) : Int) ≤ down := Int.ediv_le_self _ (by omega)
      omega
  rw [← hu, ← hv] at gp gz fin
  exact ⟨wide_div gp gz (by decide) (by decide), wide_div gp gz (by decide) (by decide), by show 2 ≤ 100000; decide, fin⟩
abbrev N_deeds : List Str := ["source", "width", "many", "wide", "way", "found", "turn", "spot"]
def t_deeds (K : PySem.W.Frag) : TS :=
  (tSeq (tPar 4 5 (tCons (tCallS (sp_draw K) (WE W0) (tCons (tVar 0) (tCons (tC (.int 4)) tNil))) (tCons (tLst tNil) tNil)))
    (tSeq (tFor (iRng1 (tCons (tVar 2) tNil)) (gName 6) (tSeq (tAsg (tOp (rIxL K) (tLst (tCons (tCallS (sp_draw K) (WE W0) (tCons (tVar 0) (tCons (tVar 1) tNil))) (tCons (tOp rModI (tVar 6) (tVar 1)) (tCons (tCallS (sp_draw K) (WE W0) (tCons (tVar 0) (tCons (tC (.int 2)) tNil))) (tCons (tOp rSubI (tOp rSubI (tVar 1) (tC (.int 1))) (tOp rModI (tVar 6) (tVar 1))) tNil))))) (tVar 4)) (gName 7))
    (tDrop (tBM K "list" rAppend (tVar 5) (tCons (tOp (rCatT K) (tTup (tCons (tVar 7) tNil)) (tCallS (sp_share K) (WE W0) (tCons (tVar 0) (tCons (tVar 3) tNil)))) tNil)))))
    (tRet (tVar 5))))
def p_deeds : PS' :=
  (kSeq (kPar 4 5 (pCallS 0 1 G_draw (pCons (pC (.int 4)) pNil)) (pLst pNil) (stW .e) (stW .f))
    (kSeq (kFor (pwR1 (pCons (pV 2) pNil)) (gvN 6) (kSeq (kAsgD 7 (pOp pIxL (pLst (pCons (pCallS 0 1 G_draw (pCons (pV 1) pNil)) (pCons (pOp pMod (pV 6) (pV 1)) (pCons (pCallS 0 1 G_draw (pCons (pC (.int 2)) pNil)) (pCons (pOp pSub (pOp pSub (pV 1) (pC (.int 1))) (pOp pMod (pV 6) (pV 1))) pNil))))) (pV 4)))
    (kApp 5 (pOp pCatT (pTup (pCons (pV 7) pNil)) (pCallS 0 1 G_share (pCons (pV 3) pNil))))))
    (kRetO 5)))
def G_deeds : GD := Gof0 p_deeds true 4
def sp_deeds (K : PySem.W.Frag) : Sp := spD (gx K) 3 true .f 800001 G_deeds
theorem ss_deeds {K : PySem.W.Frag} : SS (gx K) W0 .f 800001 (t_deeds K) p_deeds := by
  unfold t_deeds p_deeds
  exact SS.mono ((ss_seq (ss_par (by decide) (.inl rfl) (.inr rfl) ((sx_callSE (i := 0) (.inr rfl) (sa_ce (sx_int).fe sa_nil))).fe (sx_lst sa_nil))
    (ss_seq (ss_for (sw_rng1 (sa_ct (sx_v).et sa_nil)) sg_name (ss_seq (ss_asgD (sx_ixL ((sx_lst (sa_ce ((sx_callSE (i := 0) (.inr rfl) (sa_ce sx_v sa_nil))).fe (sa_ce ((sx_op (sx_v).et (sx_v).et os_mod)).fe (sa_ce ((sx_callSE (i := 0) (.inr rfl) (sa_ce (sx_int).fe sa_nil))).fe (sa_ce ((sx_op ((sx_op (sx_v).et (sx_int).ft os_sub)).ft ((sx_op (sx_v).et (sx_v).et os_mod)).ft os_sub)).fe sa_nil)))))).fb (sx_v).et))
    (ss_app (i := 5) (sx_catT (sx_tup (sa_ce sx_v sa_nil)) (sx_callSE (i := 0) (.inl rfl) (sa_ce sx_v sa_nil))))))
    (ss_retO (i := 5))))) (by decide +kernel)
theorem ln_deeds {K : PySem.W.Frag} {vs : List V} {H : Hp} {Q : VK} {E : XK} (h : sp_deeds K vs H Q E) : vs.length = (["source", "width", "many", "wide"] : List Str).length := spD_len h
theorem rd_deeds {K : PySem.W.Frag} {vs : List V} {H : Hp} {Q : VK} {E : XK} (h : sp_deeds K vs H Q E) : t_deeds K (fin Q) (L2.start N_deeds vs) H := rd_def0 ss_deeds (.inr rfl) (by decide +kernel) h
theorem g_deeds {n : Nat} {many wide : Int} {j : Nat} (n1 : 2 ≤ n) (n8 : n ≤ 8) (m0 : 0 ≤ many) (m1 : many ≤ 60) (w1 : 1 ≤ wide) (w2 : (wide + 1).natAbs < 2 ^ j) (j9 : j ≤ 119)
    (h : ∀ ms : List Mv, ms.length = many.toNat → (∀ m ∈ ms, OkM n j m) → po (dMs ms)) : G_deeds [.int (n : Int), .int many, .int wide] po xx := by
  refine ⟨trivial, rfl, g_draw (by decide) (by decide) fun way w0 w4 => ⟨by show 0 ≤ 100000; decide, ?_⟩⟩
  refine for_ind (ds := rngD 0 many.toNat) (fun q h => ⟨by omega, by omega, h⟩) (by rw [rngO_len]; omega) (fun i ρ => ∃ (ms : List Mv) (z1 z2 : Option Wd), ρ = [some .s, some (.d (.int (n : Int))), some (.d (.int many)), some (.d (.int wide)), some (.d (.int way)), some (.o (ms.map dMv)), z1, z2] ∧ ms.length = i ∧ ∀ m ∈ ms, OkM n j m) ⟨[], none, none, rfl, rfl, fun m hm => by cases hm⟩ ?_ ?_
  · rintro i d ρ hi ⟨ms, z1, z2, rfl, hl, ho⟩
    obtain ⟨hlt, rfl⟩ := rngO_at hi
    have hm0 := Int.emod_nonneg (0 + (i : Int)) (b := (n : Int)) (by omega)
    have hm1 := Int.emod_lt_of_pos (0 + (i : Int)) (b := (n : Int)) (by omega)
    refine ⟨trivial, rfl, g_draw (by omega) (by omega) fun x0 p0 p1 => ⟨by show (0 : Int) < (n : Int); omega, trivial, rfl, g_draw (by decide) (by decide) fun x1 q0 q1 => ⟨by show (0 : Int) < (n : Int); omega, by show 4 ≤ 100000; decide, ?_⟩⟩⟩
    obtain ⟨x, hx, s, rfl, s0, s1⟩ := pickO (R := inIO 0 ((n : Int) - 1)) (ds := [.int x0, .int ((0 + (i : Int)) % (n : Int)), .int x1, .int ((n : Int) - 1 - (0 + (i : Int)) % (n : Int))]) w0 w4 (fun d hd => by
      simp only [List.mem_cons, List.mem_nil_iff, or_false] at hd
      rcases hd with rfl | rfl | rfl | rfl
      · exact ⟨_, rfl, by omega, by omega⟩
      · exact ⟨_, rfl, by omega, by omega⟩
      · exact ⟨_, rfl, by omega, by omega⟩
      · exact ⟨_, rfl, by omega, by omega⟩)
    refine ⟨_, hx, by show 1 ≤ 100000; decide, trivial, rfl, g_share (j := j) w1 w2 j9 fun t b t1 tb g1 bz => ?_⟩
    have es : ((s.toNat : Nat) : Int) = s := by omega
    have em : D.tup [.int s, .int t, .int b] = dMv (s.toNat, t, b) := by unfold dMv; simp only [es]
    refine ⟨⟨by simp, by show 3 ≤ 100000; decide⟩, by rw [List.length_map]; omega, ms ++ [(s.toNat, t, b)], _, _, by rw [List.map_append, List.map_singleton, ← em]; rfl, by simp [hl], fun x hx => ?_⟩
    rcases List.mem_append.mp hx with z | z
    · exact ho x z
    · rw [List.mem_singleton.mp z]
      exact ⟨by show s.toNat < n; omega, t1, tb, g1, bz⟩
  · rintro ρ ⟨ms, z1, z2, rfl, hl, ho⟩
    rw [rngO_len] at hl
    exact h ms hl ho
end
end PD

/-! an exception class whose __init__ says super().__init__('..'), self.index = index -/
namespace SL
open PySem PySem.Spec PyProof.Rows L2 PD
/-- ValueError.__init__ bound to the object, called -/
theorem mw_call {prog : Program} {w : World} {A : Around} {E : Value → Shared → Prop} {s : Shared} {K : PySem.W.Frag} {C u e t0 : Addr} {rest : List Value} {Q : Value → Shared → Prop}
    (T : OexC K C) (X : K.In s.heap) (he : s.heap.get? e = some (PySem.HandSPX.excO C t0)) (hu : s.heap.get? u = some (PySem.W.kxs_mw "ValueError.__init__" e)) (hz : rest.length ≤ sizeLine)
    (h : ∀ h' t1, (∀ b o, b ≠ e → s.heap.get? b = some o → h'.get? b = some o) → h'.get? e = some (PySem.HandSPX.excO C t1) → Q .none { s with heap := h' }) :
    wpAny (model prog w) A (call (.ref u) rest) Q E s := by
  obtain ⟨nm, q, N, bs, bm, sn, sub, ab, col, dd, k0, k1, k2, k3, k5, hC, hbm⟩ := T.cls
  obtain ⟨hh, g, d, tk, os⟩ := s
  refine wpAny_call (codeAny_of_tree ?_)
  show wpAny _ A.in1 (callAny (.ref u) ⟨rest, []⟩) _ _ _
  simp only [callAny]
  refine wpAny_bind (wpAny_load hu ?_)
  simp only [PySem.W.kxs_mw, show (Value.type "method-wrapper" == Value.type "method" || Value.type "method-wrapper" == Value.type "builtin_function_or_method" || Value.type "method-wrapper" == Value.type "method-wrapper") = true by decide, if_true]
  refine PySem.W.KFB.if_so (by decide) ?_
  refine wpAny_bind (PySem.W.check_bound_init PySem.F.excBase_ValueError.toExcCallFacts (X _ _ hC) he rfl ?_)
  refine wpAny_bind (wpAny_pure (wpAny_pure ?_))
  refine ⟨plainId_quiet PySem.F.excBase_ValueError.init.plain _, codeAny_builtin PySem.F.excBase_ValueError.initEntry ?_⟩
  exact PySem.W.exc_init_tree (cls := .ref C) (t0 := t0) (dv := none) (c2 := .none) (c3 := .none) (b4 := .bool false) he hz fun h' k e' _ => h h' _ k e'
/-- what the written part and the text say of such a class -/
structure IxF (P : Program) (K : PySem.W.Frag) (C fI cc cda : Addr) (q m : Str) (prm : Arguments) (sc : Scope) (doc pm ct : Value) (p0 p1 p2 p3 p4 p5 p6 p7 p8 p9 : Pos) (tk : Nat) : Prop where
  T : OexC K C
  iC : PySem.W.findIn K (.ref C) "__init__" = some (some (.ref fI))
  tI : PySem.W.typeIn K (.ref fI) = some (.type "function")
  lk : ∃ oc od osl, K.lookup fI = some ⟨oc, od, .func (PySem.W.fnX "__init__" q prm [.Expr (.Call (.Attribute (.Call (.Name "super" p0) [] [] p1) "__init__" p2) [.Constant (.str m) tk p3] [] p4) p5, .Assign [.Attribute (.Name "self" p6) "index" p7] (.Name "index" p8) p9] sc [("__class__", cc)] .none .none doc pm none (.ref cda) ct), osl⟩
  cd : PySem.W.codeIn K (.ref cda) q = true
  cell : ∃ cl cld csl, K.lookup cc = some ⟨cl, cld, .cell (some (.ref C)), csl⟩
  code : ∃ ccl cdd ccs vs file tf, K.lookup cda = some ⟨ccl, cdd, .fields vs, ccs⟩ ∧ vs[2]? = some (.str file tf) ∧ ((P.main.file : Str) == file) = true
  top : (P.main.scope.names.lookup ("super" : Str)).isSome = false
  sup : PySem.W.nsIn K mainGlobals "super" = some none
  cls : ∃ cdC, PySem.W.clsIn K C = some cdC
  mro : PySem.W.mroIn K C (.ref C) = some true
  opq : PySem.W.nsIn K cStatics "thirdparty.any" = some none
  via : PySem.W.ks_superIn K C C "__init__" = some (some (.builtin "ValueError.__init__"))
  ve : PySem.W.subIn K (.ref C) (.type "ValueError") = some true
  no : PySem.W.findIn K (.ref C) "index" = some none
  pr : (prm.posonlyargs ++ prm.args).head?.map (·.arg) = some "self"
  binds : ∀ (doc pm ct : Value) (us : List Value), us.length = 2 → bindArgs (PySem.W.fnX "__init__" q prm [.Expr (.Call (.Attribute (.Call (.Name "super" p0) [] [] p1) "__init__" p2) [.Constant (.str m) tk p3] [] p4) p5, .Assign [.Attribute (.Name "self" p6) "index" p7] (.Name "index" p8) p9] sc [("__class__", cc)] .none .none doc pm none (.ref cda) ct) ⟨us, []⟩ = pure ((["self", "index"] : List Str).zip us)
  kbinds : ∀ (doc pm ct : Value) (a v : Value), bindArgs (PySem.W.fnX "__init__" q prm [.Expr (.Call (.Attribute (.Call (.Name "super" p0) [] [] p1) "__init__" p2) [.Constant (.str m) tk p3] [] p4) p5, .Assign [.Attribute (.Name "self" p6) "index" p7] (.Name "index" p8) p9] sc [("__class__", cc)] .none .none doc pm none (.ref cda) ct) ⟨[a], [("index", v)]⟩ = pure ((["self", "index"] : List Str).zip [a, v])
  ns : NdefX.NScope ["self", "index", "__class__"] ["self", "index"] ["__class__"] sc
  he : ∀ env : PySem.Env, ∃ pl : Sem Bool, eval (.Call (.Attribute (.Call (.Name "super" p0) [] [] p1) "__init__" p2) [.Constant (.str m) tk p3] [] p4) env = (do
      let ov ← attributeBase (.Call (.Name "super" p0) [] [] p1) "__init__" env (eval (.Call (.Name "super" p0) [] [] p1) env)
      standAt p2.atName
      let (f, first) ← holding [ov] (getMethod ov "__init__" pl)
      callWith p4 f first (backTo p4 (starEach [.Constant (.str m) tk p3] env)) [])
  sg : sc.names.lookup ("super" : Str) = some .globalImplicit
def spIx (K : PySem.W.Frag) (C : Addr) : Sp := fun vs H Q _ => ∃ a y, vs = [.ref a, y] ∧ H a = some (exo a C none) ∧ ∀ dx, H dx = none → dx ≠ a → Q .non (upd (upd H dx (exd dx [("index", y)])) a (exo a C (some dx)))
/-- super().__init__('..') in such a class's __init__ -/
theorem sup_init {X : Cx} {pins : List (Addr × Obj)} {σ : L2.St} {H : Hp} {st : Shared} {E : Value → Shared → Prop} {Q : Shared → Prop} {body : List Stmt} {a C fI cc cda : Addr} {q m : Str} {prm : Arguments} {sc : Scope} {doc pm ct : Value} {p0 p1 p2 p3 p4 p5 p6 p7 p8 p9 : Pos} {tk : Nat}
    (x : IxF X.prog X.K C fI cc cda q m prm sc doc pm ct p0 p1 p2 p3 p4 p5 p6 p7 p8 p9 tk) (I : Inv X pins σ H st) (hX : X.env = PySem.W.envX q sc X.env.locals fI (.ref cda) [("__class__", cc)]) (hN : X.N[0]? = some ("self" : Str)) (hs : σ[0]? = some (some (.ref a))) (ha : H a = some (exo a C none))
    (hA : starEach [.Constant (.str m) tk p3] X.env = [(false, eval (.Constant (.str m) tk p3) X.env)])
    (h : ∀ st', Inv X pins σ H st' → Q st') :
    PySem.wpAt (model X.prog X.w) X.A (.func body X.env) (eval (.Call (.Attribute (.Call (.Name "super" p0) [] [] p1) "__init__" p2) [.Constant (.str m) tk p3] [] p4) X.env) (fun _ s' => Q s') E st := by
  obtain ⟨pl, hE⟩ := x.he X.env
  obtain ⟨oc, od, osl, lk⟩ := x.lk
  obtain ⟨cl, cld, csl, hcell⟩ := x.cell
  obtain ⟨ccl, cdd, ccs, cvs, file, tf, hcode, hfile1, hfile2⟩ := x.code
  obtain ⟨cdC, hcls⟩ := x.cls
  obtain ⟨ar, har, hav⟩ := Option.map_eq_some_iff.mp x.pr
  have kS : X.env.kindOf "super" = some .globalImplicit := by rw [hX]; exact x.sg
  have kC : X.env.kindOf "__class__" = some .free := by rw [hX]; exact x.ns.frk _ (by simp)
  have kI : X.env.kindOf "self" = some .local := by rw [hX]; exact x.ns.par _ (by simp)
  have fu : X.env.func = some fI := by rw [hX]
  have co : X.env.code = .ref cda := by rw [hX]
  have ce : X.env.cells.lookup ("__class__" : Str) = some cc := by rw [hX]; rfl
  obtain ⟨oD, hD1, hD2⟩ : ∃ oD, X.K.lookup C = some oD ∧ oD.data = .cls cdC := by
    have hcls2 := hcls
    unfold PySem.W.clsIn at hcls2
    split at hcls2
    · rename_i c d cd' sl ho
      cases hcls2
      exact ⟨_, ho, rfl⟩
    · cases hcls2
  obtain ⟨mb, b1, b2⟩ := I.mod.blt
  refine ks_wpAt_MethodCall (ks_wpAt_super_base kS kC (by decide) fu (I.kIn _ _ lk) rfl har co (I.kIn _ _ hcode) rfl hfile1 hfile2 x.top ?_) hE
  refine PySem.W.ks_loadName_global I.ok.kind kS (Calls.loadGlobal_builtin (by rw [I.ok.glob]; exact I.mod.glob.keeps I.bk) (PySem.W.mg_none_of I.mod.kin I.mod.glob x.sup) (by rw [I.ok.blt]; exact b1.keeps I.bk) ((b2 _ (by decide)).trans (show bootBuiltins "super" = some (.type "super") from PyProof.Rows.Boot.«super»)) ⟨rfl, ?_⟩)
  refine wpAny_loadName_free I.ok.kind kC ce ⟨_, I.kIn _ _ hcell, rfl⟩ ?_
  rw [hav]
  obtain ⟨mm, hn, hv⟩ := I.loc
  obtain ⟨u, ru, look⟩ := hv 0 _ _ hN hs (.inl (show X.env.scope.names.lookup ("self" : Str) = some NameKind.local from kI))
  obtain rfl : u = Value.ref a := ru
  have hm : mm "self" = some (.ref a) := by
    rcases look with ⟨_, z⟩ | ⟨z | z, _⟩
    · exact z
    · rw [kI] at z; cases z
    · rw [kI] at z; cases z
  refine wpAny_loadName_local I.ok.kind kI hn hm ?_
  refine ks_wpAny_isType_cls (I.kIn _ _ hD1) hD2 ⟨rfl, ?_⟩
  obtain ⟨t1, ho⟩ := L2.exo_at I.hok ha
  have ne : a ≠ C := PySem.W.ks_ne I.kIn (odx := none) ⟨ho, rfl, rfl, trivial⟩ hcls
  refine ks_wpAny_call_super (I.kIn _ _ hD1) hD2 ho rfl (fun c e => by cases e) (PySem.W.looks_mroIn I.kIn x.mro) (fun h' e k => ?_)
  have I1 : Inv X pins σ H { st with heap := h' } := I.kept (t' := st.toks) k
  have ho1 := k _ _ ho
  have inst : PySem.W.InstAt h' a (PySem.HandSPX.excO C t1) C none := ⟨ho1, rfl, rfl, trivial⟩
  have via := x.via
  unfold PySem.W.ks_superIn at via
  rw [hcls] at via
  refine PySem.W.kxs_getMethod PySem.W.kxs_ValueError e (PySem.W.looks_opaque I1.kIn x.opq) (l₀ := cdC.mro) (fun A Q E s k q => wpAny_bind ((PySem.W.looks_clsIn I1.kIn hcls) A _ E s k (wpAny_pure q))) rfl I1.kIn via (inst.type.andThen (PySem.W.looks_subIn I1.kIn x.ve)) ne (by decide) ?_
  have k2 : ∀ b o, h'.get? b = some o → (h'.push (PySem.W.kxs_mw "ValueError.__init__" a)).get? b = some o := fun b o e => Heap.get?_push_of_some _ e
  rw [hA]
  refine PySem.W.kxs_callWith (i := "ValueError.__init__") (x := a) rfl ?_
  refine Calls.evalArgs_plain (Calls.spliced_cons (Calls.Constant_str (k := tk) (pos := p3) (Calls.spliced_nil ⟨Heap.get?_push_at rfl rfl, ?_⟩)))
  have I2 : Inv X pins σ H { st with heap := h'.push (PySem.W.kxs_mw "ValueError.__init__" a), toks := st.toks + 1 + 1 } := I1.kept (t' := st.toks + 1 + 1) k2
  refine mw_call x.T I2.kIn (k2 _ _ ho1) (Heap.get?_push_at rfl rfl) (by show 1 ≤ sizeLine; rw [sizeLine_eq]; decide) fun h3 t3 k3 e3 => ?_
  have J := I2.write (t' := st.toks + 1 + 1) (x := a) (e := a) (o := exo a C none) (by rw [ha]; exact True.intro) (.inl rfl) k3 ⟨_, e3⟩ (L2.exo_ok e3)
  have eu : upd H a (exo a C none) = H := by
    funext b
    by_cases hb : b = a
    · rw [hb, upd_same, ha]
    · rw [upd_ne hb]
  rw [eu] at J
  exact h _ J
theorem ix_fn {P : Program} {w : World} {K : PySem.W.Frag} {mg : Str → Option Value} {base : Heap} {CX : CXT} {k : Nat} {C fI cc cda : Addr} {q m : Str} {prm : Arguments} {sc : Scope} {doc pm ct : Value} {p0 p1 p2 p3 p4 p5 p6 p7 p8 p9 : Pos} {tk : Nat}
    (x : IxF P K C fI cc cda q m prm sc doc pm ct p0 p1 p2 p3 p4 p5 p6 p7 p8 p9 tk) :
    FnOk P w K mg base CX k fI (PySem.W.fnX "__init__" q prm [.Expr (.Call (.Attribute (.Call (.Name "super" p0) [] [] p1) "__init__" p2) [.Constant (.str m) tk p3] [] p4) p5, .Assign [.Attribute (.Name "self" p6) "index" p7] (.Name "index" p8) p9] sc [("__class__", cc)] .none .none doc pm none (.ref cda) ct) ["self", "index"] (spIx K C) := by
  refine ⟨fun vs H Q E ⟨a, y, e, _⟩ => by rw [e]; rfl, fun A outer s H args us vs Q E hr e0 hb r hsp => ?_⟩
  obtain ⟨a, y, rfl, ha, hq⟩ := hsp
  have KX : K.In s.heap := e0.mod.kin.keeps fun b o e => (e0.bs b o e).1
  have lim : s.heap.NoLimit := e0.mod.nolimit.keeps fun b o e => (e0.bs b o e).1
  obtain ⟨oc, od, osl, lk⟩ := x.lk
  obtain ⟨cl, cld, csl, hcell⟩ := x.cell
  obtain ⟨ccl, cdd, ccs, cvs, file, tf, hcode, hfile1, hfile2⟩ := x.code
  obtain ⟨cdC, hcls⟩ := x.cls
  have bc : H cc = none := by
    have := e0.mod.kin _ _ hcell
    exact (e0.bs _ _ this).2
  refine ks_codeAny_call_defAt (binds := (["self", "index"] : List Str).zip us) hr.depth (KX _ _ lk) rfl lim (PySem.W.codeRec_of KX x.cd) rfl hb x.ns.nocell (fun ⟨n, v⟩ hy => x.ns.par n (List.of_mem_zip hy).1) (fun h₁ hns hk => ?_) x.ns.co x.ns.gen x.ns.kind
  let F : NdefX.NF := ⟨"__init__", q, prm, [.Expr (.Call (.Attribute (.Call (.Name "super" p0) [] [] p1) "__init__" p2) [.Constant (.str m) tk p3] [] p4) p5, .Assign [.Attribute (.Name "self" p6) "index" p7] (.Name "index" p8) p9], sc, [("__class__", cc)], cda⟩
  have cellAt : NdefX.CellsAt F.cl ["__class__"] [none] s.heap H := by
    refine ⟨rfl, fun y' c e => ?_, fun y1 y2 c e1 e2 => ?_, fun i y' hi => ?_⟩
    · have e : List.lookup y' [(("__class__" : Str), cc)] = some c := e
      rw [List.lookup_cons] at e
      split at e
      · cases e
        exact ⟨bc, _, _, KX _ _ hcell, rfl⟩
      · cases e
    · have e1 : List.lookup y1 [(("__class__" : Str), cc)] = some c := e1
      have e2 : List.lookup y2 [(("__class__" : Str), cc)] = some c := e2
      rw [List.lookup_cons] at e1 e2
      split at e1
      · rename_i h1
        split at e2
        · rename_i h2
          rw [beq_iff_eq] at h1 h2
          rw [h1, h2]
        · cases e2
      · cases e1
    · match i, hi with
      | 0, hi =>
        cases hi
        exact ⟨cc, rfl, fun v e => by cases e⟩
      | i + 1, hi => cases hi
  have I : Inv (NdefX.ncx CX P w K mg base ["self", "index", "__class__"] F fI A outer s H E) [] (NdefX.startF ["self", "index", "__class__"] [.ref a, y] [none]) H { s with heap := h₁, toks := s.toks + ((["self", "index"] : List Str).zip us).length } :=
    NdefX.inv_startN x.ns hr.hd e0 rfl r cellAt hns hk
  refine ks_wpAt_execs_cons (ks_wpAt_Expr_any (sup_init (X := NdefX.ncx CX P w K mg base ["self", "index", "__class__"] F fI A outer s H E) x I rfl rfl rfl ha rfl fun st' J => ?_) I.quiet)
  refine wpAt_of_wpAny ?_
  have ht : PSs (NdefX.ncx CX P w K mg base ["self", "index", "__class__"] F fI A outer s H E) [.Assign [.Attribute (.Name "self" p6) "index" p7] (.Name "index" p8) p9] (tOst K "index" (tVar 0) (tVar 1)) :=
    pss_one (ps_ost (pv 0 rfl (.inl (x.ns.par _ (by simp)))) (pv 1 rfl (.inl (x.ns.par _ (by simp)))))
  refine wpAny_mono (ht.run [] st' _ H { nx := fun _ H' => Q .non H', rt := Q } J ⟨y, rfl, .ref a, rfl, a, C, rfl, x.T, x.no, .inl ⟨ha, fun dx n ne => hq dx n ne⟩⟩) (fun fl s' hs => ?_) fun e s' hs => hs
  have fin : ∀ {σ' : L2.St} {H' : Hp} {v : V} {u : Value}, Inv (NdefX.ncx CX P w K mg base ["self", "index", "__class__"] F fI A outer s H E) [] σ' H' s' → L2.RelV v u → Q v H' → CE outer P w H s Q u s' :=
    fun {σ' H' v u} J rv q => ⟨v, H', J.os, J.bare, J.base, J.hok, rv, q⟩
  cases fl with
  | ret u =>
    obtain ⟨v, σ', H', J, rv, q⟩ := hs
    exact fin J rv q
  | next =>
    obtain ⟨σ', H', J, q⟩ := hs
    exact fin (v := V.non) (u := Value.none) J rfl q
  | brk =>
    obtain ⟨_, _, _, q⟩ := hs
    exact False.elim q
  | cont =>
    obtain ⟨_, _, _, q⟩ := hs
    exact False.elim q
/-! what is made where nothing is handled bears no context -/
/-- the object of C(..) as it is laid, ahead of __init__ -/
theorem laid_new {X : Cx} {pins : List (Addr × Obj)} {σ : L2.St} {H : Hp} {st : Shared} {C : Addr} (I : Inv X pins σ H st) (ys : List Value) :
    Inv X pins σ (upd H (st.heap.objs.size + 1) (exo (st.heap.objs.size + 1) C none)) { st with heap := (st.heap.push (PySem.W.kdv_tup ys)).push (PySem.HandSPX.excO C st.heap.objs.size) } :=
  I.laid (t' := st.toks) (fun _ _ there => Heap.get?_push_of_some _ (Heap.get?_push_of_some _ there)) (Nat.le_succ _) (exo_ok (by heap_get))
theorem pmk_oexN {X : Cx} {CX : CXT} {nm : Str} {C fI : Addr} {k : Nat} {fd : FuncData} {par : List Str} {sp : Sp} {e : Expr} {es : List Expr} {ta : TA} {p pos : Pos} (T : OexC X.K C) (iC : PySem.W.findIn X.K (.ref C) "__init__" = some (some (.ref fI))) (tI : PySem.W.typeIn X.K (.ref fI) = some (.type "function"))
    (o : FnOk X.prog X.w X.K X.mg X.base CX k fI fd par sp) (room : Room (k + 1) X.A) (bnd : Binds X.K fd par []) (pass : Passes CX X (fun _ _ _ => False)) (glob : Gl X nm) (at_ : X.mg nm = some (.ref C)) (args : PA X (e :: es) ta)
    (notD : (nm == ("__debug__" : Str)) = false := by decide) (one : starEach (e :: es) X.env = (false, eval e X.env) :: starEach es X.env := by rfl) (plain : (backTo pos (starEach es X.env)).any (·.1) = false := by rfl) :
    L2N.PMk X (.Call (.Name nm p) (e :: es) [] pos) (tMkO C sp [] ta) := by
  intro pins st σ H Q I want
  have ⟨_, _, _, _, bases, _, _, _, _, _, _, _, _, _, _, isCls, isBase⟩ := T.cls
  apply wpAny_Call_Name_kw (ld_glob I glob at_ _ notD)
  apply PySem.W.callWith_K (h₀ := X.base) I.ok.mod.kin T.kC (thn (args.run pos pins st σ H _ I want) _) one plain
  rintro ys now ⟨xs, G, J, rel, few, go⟩
  refine ⟨J.kIn, ?_⟩
  have go := go (now.heap.objs.size + 1) (J.hok.fresh (Nat.le_succ _))
  rw [List.append_nil] at go
  have L := laid_new (C := C) J ys
  have vals : Vals (V.ref (now.heap.objs.size + 1) :: xs) (Value.ref (now.heap.objs.size + 1) :: ys) := .cons rfl rel
  have count : (Value.ref (now.heap.objs.size + 1) :: ys ++ []).length = par.length := by
    rw [List.append_nil, ← vals.length]; exact o.len _ _ _ _ go
  have bd := bnd _ _ L.kIn count
  rw [List.append_nil] at bd
  have fits : ys.length ≤ sizeLine := by
    rw [← rel.length, sizeLine_eq]; omega
  apply wpAny_call
  apply PySem.HandSPX.call_own F.excBase_ValueError (fun Y => PySem.HandSPX.refsVE_contains Y _ isBase) (J.kIn _ _ isCls) (PySem.W.looks_findIn J.kIn iC) (fun self => PySem.W.bind_fn J.kIn self tI) fits
  apply codeAny_mono (o.run _ X.stack _ _ ⟨Value.ref (now.heap.objs.size + 1) :: ys, []⟩ _ _ _ (fun _ _ _ => False) (room.make C ys []) (L.env0.make C ys []) bd vals go)
  intro res st2 done
  match res, done with
  | .error ex, done => exact pass pins σ _ _ ex st2 L done
  | .ok .next, done => exact False.elim done
  | .ok .brk, done => exact False.elim done
  | .ok .cont, done => exact False.elim done
  | .ok (.ret u), done =>
    obtain ⟨v, H2, sameOs, bare, un, ok2, rv, isNon, d, fs, atE, atD, free, q⟩ := done
    subst isNon
    obtain ⟨h2, g2, dr2, t2, os2⟩ := st2
    have ⟨t0, ground, back, keeps, off, lies, none_⟩ := mk_end0 (d2 := dr2) (t2 := t2) J (Nat.le_succ _) (fun _ _ there => Heap.get?_push_of_some _ (Heap.get?_push_of_some _ there)) un ok2 sameOs bare atE atD free
    exact ⟨rv, _, _, _, ⟨ground, g2, dr2, t2, os2⟩, _, .ref C, some d, rfl, back, keeps, off, lies, ⟨rfl, rfl, fun _ z => by cases z; rfl⟩, rfl, rfl, none_, rfl, bare, raises_own T.exC T.tyC, q⟩
/-! raise X(e) -/
def tRaiseIx (K : PySem.W.Frag) (W : WX) (n : Str) (te : TE) : TS := fun _ σ H => tMkO (adE K n) (spIx K (adE K n)) [] (tCons te tNil) σ H fun _ d H' => W (exV K n) d σ H'
/-- the class n is such a one -/
structure IxC (P : Program) (K : PySem.W.Frag) (n : Str) : Prop where
  ref : exV K n = .ref (adE K n)
  ex : ∃ fI cc cda q m prm sc doc pm ct p0 p1 p2 p3 p4 p5 p6 p7 p8 p9 tk, IxF P K (adE K n) fI cc cda q m prm sc doc pm ct p0 p1 p2 p3 p4 p5 p6 p7 p8 p9 tk
theorem ps_raiseIx {X : Cx} {W : WX} {n : Str} {p pos pos' : Pos} {e : Expr} {te : TE} (hc : X.calm = true) (tk : L2N.Takes X W) (hx : IxC X.prog X.K n) (hr : Room 2 X.A) (gC : X.mg n = some (.ref (adE X.K n))) (hg : Gl X n) (he : PE X e te) (hdb : (n == ("__debug__" : Str)) = false := by decide)
    (hst : starEach [e] X.env = (false, eval e X.env) :: starEach [] X.env := by rfl) (hpl : (backTo pos (starEach [] X.env)).any (·.1) = false := by rfl) :
    PS X (.Raise (some (.Call (.Name n p) [e] [] pos)) none pos') (tRaiseIx X.K W n te) := by
  obtain ⟨fI, cc, cda, q, m, prm, sc, doc, pm, ct, p0, p1, p2, p3, p4, p5, p6, p7, p8, p9, tk', x⟩ := hx.ex
  have F1 := ix_fn (w := X.w) (mg := X.mg) (base := X.base) (CX := CX0) (k := 0) x
  have hb : Binds X.K (PySem.W.fnX "__init__" q prm [.Expr (.Call (.Attribute (.Call (.Name "super" p0) [] [] p1) "__init__" p2) [.Constant (.str m) tk' p3] [] p4) p5, .Assign [.Attribute (.Name "self" p6) "index" p7] (.Name "index" p8) p9] sc [("__class__", cc)] .none .none doc pm none (.ref cda) ct) ["self", "index"] [] := Binds.all fun us hl => x.binds doc pm ct us hl
  have h := L2N.ps_raise (pos := pos') hc tk (pmk_oexN (pos := pos) (p := p) x.T x.iC x.tI F1 (hr.mono (by decide)) hb pass0 hg gC (pa_cons he pa_nil hst) hdb hst hpl)
  have e : tRaiseIx X.K W n te = fun _ σ H => tMkO (adE X.K n) (spIx X.K (adE X.K n)) [] (tCons te tNil) σ H fun cls d H' => W cls d σ H' := by
    funext D σ H
    show tMkO (adE X.K n) (spIx X.K (adE X.K n)) [] (tCons te tNil) σ H (fun _ d H' => W (exV X.K n) d σ H') = _
    rw [hx.ref]
    rfl
  rw [e]; exact h
end SL

/-! a for loop in a generator's body, whose turns may yield -/
namespace SL
open PySem PySem.Spec PyProof.Rows L2 GenW
section
variable {M : Model} {A : Around} {R : GenEnd} {Y : Protocol} {n : Nat} {s₀ : Shared} {c : Code} {fs : List Frame} {s : Shared} {env : Env} {K : Flow → Sem PySem.Fin} {J : Value → Sem PySem.Fin} {gd : Bool → Bool} {lv : List Value → List Value}
theorem seg_For {target iter : Expr} {body : List Stmt} {pos : Pos}
    (h : wpAny M (A.over c fs) (eval iter env) (fun x s1 => wpAny M (A.over c fs) (pyIter x) (fun it s2 => ∀ p, Seg M A R Y n s₀ (.forLoop target it body [] env) (M.den (.forLoop target it body [] env))
        (.ret (fun r => ((match r with | .ok f => (.pure f : Sem Flow) | .error e => .raise e).onRaise (cameBack env)).wrap K J gd lv) none (gd false) (lv []) c p [] :: fs) s2)
      (fun x s' => Seg M A R Y n s₀ c (J x) fs s') s1) (fun x s' => Seg M A R Y n s₀ c (J x) fs s') s)
    (hs : ∀ x, foldedSetIterable iter env x = pure x := by intro _; rfl) :
    Seg M A R Y n s₀ c ((exec (.For target iter body [] pos) env).wrap K J gd lv) fs s := by
  rw [exec_For]
  refine seg_bind_wrap (wpAny_standAt ?_)
  refine seg_bind_wrap (wpAny_mono h (fun x s1 h1 => ?_) fun _ _ z => z)
  refine seg_bind_wrap (wpAny_of_eq (hs x) ?_)
  refine seg_bind_wrap (wpAny_standAt ?_)
  refine seg_bind_wrap (wpAny_holding (wpAny_mono h1 (fun it s2 h2 => ?_) fun _ _ z => z))
  exact seg_call h2
end
section
variable {prog : Program} {w : World} {A : Around} {R : GenEnd} {Y : Protocol} {n : Nat} {s₀ : Shared} {fs : List Frame} {s : Shared} {env : Env}
/-- an exception leaves a turn -/
abbrev turnOut (env : Env) (x : Value) : Sem PySem.Fin := (do noteFrame x env; theTreesLotGoes x : Sem Unit).wrap (fun _ => .raise x) .raise id id
theorem seg_forLoop {target : Expr} {it : Value} {body : List Stmt}
    (h : wpAny (model prog w) (A.over (.forLoop target it body [] env) fs) (pyNext it) (fun r s1 => match r with
      | none => Seg (model prog w) A R Y n s₀ (.block [] env) ((model prog w).den (.block [] env)) fs s1
      | some v => wpAny (model prog w) (A.over (.forLoop target it body [] env) fs) (letOwnedTupleGo target it v) (fun _ s2 =>
          wpAny (model prog w) (A.over (.forLoop target it body [] env) fs) (assign target env v) (fun _ s3 =>
            Seg (model prog w) A R Y n s₀ (.forLoop target it body [] env) ((execs body env).wrap (fun f => match f with
              | .next | .cont => .pure (.again (.forLoop target it body [] env))
              | .brk => .pure (.done .next)
              | .ret v => .pure (.done (.ret v))) (turnOut env) id id) fs s3)
            (fun x s' => Seg (model prog w) A R Y n s₀ (.forLoop target it body [] env) (turnOut env x) fs s') s2)
          (fun x s' => Seg (model prog w) A R Y n s₀ (.forLoop target it body [] env) (turnOut env x) fs s') s1)
      (fun x s' => Seg (model prog w) A R Y n s₀ (.forLoop target it body [] env) (turnOut env x) fs s') s) :
    Seg (model prog w) A R Y n s₀ (.forLoop target it body [] env) ((model prog w).den (.forLoop target it body [] env)) fs s := by
  show Seg _ A R Y n s₀ _ ((forTurn target it body [] env).onRaise (fun x => do noteFrame x env; theTreesLotGoes x)) fs s
  unfold forTurn
  rw [Sem.onRaise_eq_wrap]
  have ex : ∀ {x : Value} {s' : Shared}, Seg (model prog w) A R Y n s₀ (.forLoop target it body [] env) (turnOut env x) fs s' → Seg (model prog w) A R Y n s₀ (.forLoop target it body [] env) ((do noteFrame x env; theTreesLotGoes x : Sem Unit).bind fun _ => (.raise x : Sem PySem.Fin)) fs s' := fun {x s'} hx => by
    rw [Sem.bind_eq_wrap]; exact hx
  refine seg_bind_wrap (wpAny_standAt ?_)
  refine seg_bind_wrap (wpAny_onRaise (wpAny_mono h (fun r s1 h1 => ?_) fun x s' hx => wpAny_standAt ?_))
  · cases r with
    | none => exact seg_again rfl h1
    | some v =>
      refine seg_bind_wrap (wpAny_mono h1 (fun _ s2 h2 => ?_) fun x s' hx => ex hx)
      refine seg_bind_wrap (wpAny_mono h2 (fun _ s3 h3 => ?_) fun x s' hx => ex hx)
      rw [Sem.bind_eq_wrap', Sem.wrap_wrap]
      rw [Sem.wrap_congr (execs body env) _ _ (K' := fun f => match f with
            | .next | .cont => .pure (.again (.forLoop target it body [] env))
            | .brk => .pure (.done .next)
            | .ret v => .pure (.done (.ret v))) (H' := turnOut env)
        (fun f => by cases f <;> rfl)
        (fun e => by first | exact Sem.bind_eq_wrap _ _ | (show (do noteFrame e env; theTreesLotGoes e : Sem Unit).bind (fun _ => .raise e) = _; rw [Sem.bind_eq_wrap]))]
      exact h3
  · exact ex hx
theorem seg_block0 (h : Seg (model prog w) A R Y n s₀ (.block [] env) (.pure (.done .next)) fs s) : Seg (model prog w) A R Y n s₀ (.block [] env) ((model prog w).den (.block [] env)) fs s := h
end
/-- for x in xs: body, in a generator -/
def tGFor (wi : TI) (g : TG) (tb : TGn) : TGn := fun D ys σ H => wi σ H fun J H1 => ∃ W : Nat → Nat → List V → L2.St → Hp → Prop, (∃ m, W 0 m ys σ H1) ∧ ∀ i m ys σ H, W i m ys σ H →
  (J.stop i H ∧ D.nx ys σ H) ∨ (J.go i H ∧ ∃ N : List V → L2.St → Hp → Prop, (∀ ys' σ' H', N ys' σ' H' → ∃ m', m' < m ∧ W (i + 1) m' ys' σ' H') ∧ ∀ x H', J.yld i H x H' → g x σ H' fun σ2 H2 => tb { D with nx := N, ct := N, bk := D.nx } ys σ2 H2)
section
variable {X : Cx} {tg : Expr}
theorem fpOk_pins {S : Addr} {o o' : Obj} {ip : List (Addr × Obj)} {H H' : Hp} {b : Addr} (h : FpOk X ((S, o) :: ip) H b) (hn : H' b = none) : FpOk X ((S, o') :: ip) H' b := by
  obtain ⟨_, h1, h2, h3, h4, h5⟩ := h
  refine ⟨hn, h1, h2, h3, h4, fun p hp => ?_⟩
  rcases List.mem_append.mp hp with z | z
  · exact h5 p (List.mem_append_left _ z)
  · rcases List.mem_cons.mp z with z | z
    · rw [z]; exact h5 (S, o) (List.mem_append_right _ List.mem_cons_self)
    · exact h5 p (List.mem_append_right _ (List.mem_cons_of_mem _ z))
theorem gs_for {iter : Expr} {body : List Stmt} {wi : TI} {g : TG} {tb : TGn} {pos : Pos} (hp : PassesOwn (model X.prog X.w) X.A X.env X.xe) (hc : X.calm = true) (hi : PI X tg iter wi) (hg : PG X tg g) (hb : GSs X body tb)
    (hs : ∀ x, foldedSetIterable iter X.env x = pure x := by intro _; rfl) : GS X (.For tg iter body [] pos) (tGFor wi g tb) := by
  refine ⟨fun A S ip R n ys s₀ c fs K J gd lv s σ H D gg hn k hI ht => ?_⟩
  obtain ⟨acc, cc, r, I⟩ := hI
  refine seg_For ?_ hs
  rw [gg.over]
  refine wpAny_mono (hi.run _ s σ H _ I ht) (fun v s1 h1 => wpAny_mono h1 (fun itv s2 h2 => ?_) fun x s' hx => k.exc n s₀ x s' hx) fun x s' hx => k.exc n s₀ x s' hx
  obtain ⟨it, fp, tn, Jt, H2, e, I2, T, st2, f2, W, ⟨m0, w0⟩, turn⟩ := h2
  subst e
  intro p
  have gl : ∀ (kk : Result → Sem PySem.Fin) (c' : Code), c'.weight = 0 → c'.cUnits = 0 → GC X S ip A c' (.ret kk none (gd false) (lv []) c p [] :: fs) id := fun kk c' hw hu => gc_loop (k := kk) (c' := c') (l := lv []) (kp := []) (p := p) gg hw hu
  have stat : ∀ {H' : Hp} {acc : Array Value} {cc : Nat}, (∀ b ∈ fp, H' b = none) → ∀ b ∈ fp, FpOk X ((S, lstObj acc cc) :: ip) H' b := fun {H' acc cc} hn b hb => fpOk_pins (f2 b hb) (hn b hb)
  have fpS : ∀ b ∈ fp, b ≠ S := fun b hb z => (f2 b hb).2.2.2.2.2 (S, lstObj acc cc) (List.mem_append_right _ List.mem_cons_self) z.symm
  have loop : ∀ (m i n : Nat) (ys : List V) (s₀ s : Shared) (σ : L2.St) (H : Hp), n + ys.length = sizeLine → W i m ys σ H → GI X S ip ys σ H s → tn i s.heap → (∀ b ∈ fp, H b = none) →
      Seg (model X.prog X.w) A R (GY X S) n s₀ (.forLoop tg (.ref it) body [] X.env) ((model X.prog X.w).den (.forLoop tg (.ref it) body [] X.env))
        (.ret (fun r => ((match r with | .ok f => (.pure f : Sem Flow) | .error e => .raise e).onRaise (cameBack X.env)).wrap K J gd lv) none (gd false) (lv []) c p [] :: fs) s := by
    intro m
    induction m using Nat.strongRecOn with
    | ind m ih =>
      intro i n ys s₀ s σ H hn w hI st fr
      have gL := gl (fun r => ((match r with | .ok f => (.pure f : Sem Flow) | .error e => .raise e).onRaise (cameBack X.env)).wrap K J gd lv) (.forLoop tg (.ref it) body [] X.env) rfl rfl
      have ee : ∀ (n : Nat) (s₀ : Shared) (x : Value) (s' : Shared), X.xe x s' → Seg (model X.prog X.w) A R (GY X S) n s₀ (.forLoop tg (.ref it) body [] X.env) (turnOut X.env x)
          (.ret (fun r => ((match r with | .ok f => (.pure f : Sem Flow) | .error e => .raise e).onRaise (cameBack X.env)).wrap K J gd lv) none (gd false) (lv []) c p [] :: fs) s' := fun n s₀ x s' hx => by
        refine seg_wrap ?_
        rw [gL.over]
        refine wpAny_bind (wpAny_mono (hp x s' hx) (fun _ s'' hcb => wpAny_theTreesLotGoes ?_) fun y s'' hcb => ?_)
        · exact seg_leaf (.error x) (seg_cameBack gg k hcb)
        · exact seg_leaf (.error y) (seg_cameBack gg k hcb)
      refine seg_forLoop ?_
      rw [gL.over]
      obtain ⟨acc1, c1, r1, I1⟩ := hI
      rcases turn i m ys σ H w with ⟨stop, qn⟩ | ⟨go, N, hN, step⟩
      · refine wpAny_mono (T.done X rfl rfl rfl hc i _ s σ H X.xe I1 (stat fr) st stop) (fun r s4 ⟨hr, I4⟩ => ?_) fun x s' hx => ee n s₀ x s' hx
        subst hr
        refine seg_block0 ?_
        exact seg_leaf (.ok .next) (k.ok n ys s₀ s4 .next hn ⟨σ, H, ⟨acc1, c1, r1, I4⟩, qn⟩)
      · refine wpAny_mono (T.item X rfl rfl rfl hc i _ s σ H X.xe I1 (stat fr) st go) (fun r s4 ⟨u, hr, h4⟩ => ?_) fun x s' hx => ee n s₀ x s' hx
        subst hr
        refine wpAny_mono h4 (fun _ s5 ⟨x, H5, I5, r5, y5, st5, fr5⟩ => ?_) fun x s' hx => ee n s₀ x s' hx
        have I5' := I5.pinned (stat fr5) (T.obj _ _ st5)
        refine wpAny_mono (hg.run _ s5 σ H5 x u _ I5' r5 (step x H5 y5)) (fun _ s6 ⟨σ6, H6, I6, q6⟩ => ?_) fun x s' hx => ee n s₀ x s' hx
        have gB : GC X S (ip ++ pinsAt fp s5.heap) A (.forLoop tg (.ref it) body [] X.env) (.ret (fun r => ((match r with | .ok f => (.pure f : Sem Flow) | .error e => .raise e).onRaise (cameBack X.env)).wrap K J gd lv) none (gd false) (lv []) c p [] :: fs) id :=
          ⟨gL.pn, fun q hq => (List.mem_append.mp hq).elim (gL.ip q) fun z => fpS _ (of_pinsAt z).1, gL.apart, gL.over, gL.split, gL.guard, gL.gd⟩
        have again : ∀ {ys7 : List V} {σ7 : L2.St} {H7 : Hp} {s7 : Shared}, GI X S (ip ++ pinsAt fp s5.heap) ys7 σ7 H7 s7 → GI X S ip ys7 σ7 H7 s7 ∧ tn (i + 1) s7.heap ∧ (∀ b ∈ fp, H7 b = none) := fun {ys7 σ7 H7 s7} h7 => by
          obtain ⟨acc7, c7, r7, I7⟩ := h7
          refine ⟨⟨acc7, c7, r7, L2.Inv.unpinned (pins := (S, lstObj acc7 c7) :: ip) (pl := pinsAt fp s5.heap) I7⟩, T.keep _ _ _ st5 fun b hb o e => (I7.pin (b, o) (List.mem_append_right _ (List.mem_cons_of_mem _ (List.mem_append_right _ (mem_pinsAt hb e))))).1, fun b hb => ?_⟩
          obtain ⟨o, e, d⟩ := T.obj _ _ st5 b hb
          exact (I7.pin (b, o) (List.mem_append_right _ (List.mem_cons_of_mem _ (List.mem_append_right _ (mem_pinsAt hb e))))).2.1
        refine hb.run A S (ip ++ pinsAt fp s5.heap) R n ys s₀ _ _ _ _ id id s6 σ6 H6 { D with nx := N, ct := N, bk := D.nx } gB hn ⟨fun n' ys' s₀' s3 f hn' hs' => ?_, fun n' s₀' x s3 hx => ee n' s₀' x s3 hx⟩ ⟨acc1, c1, r1, I6⟩ q6
        cases f with
        | next =>
          obtain ⟨σ3, H3, I3, n3⟩ := hs'
          obtain ⟨m', hm, w3⟩ := hN ys' σ3 H3 n3
          obtain ⟨a1, a2, a3⟩ := again I3
          exact seg_again rfl (ih m' hm (i + 1) n' ys' s₀' s3 σ3 H3 hn' w3 a1 a2 a3)
        | cont =>
          obtain ⟨σ3, H3, I3, n3⟩ := hs'
          obtain ⟨m', hm, w3⟩ := hN ys' σ3 H3 n3
          obtain ⟨a1, a2, a3⟩ := again I3
          exact seg_again rfl (ih m' hm (i + 1) n' ys' s₀' s3 σ3 H3 hn' w3 a1 a2 a3)
        | brk =>
          obtain ⟨σ3, H3, I3, n3⟩ := hs'
          exact seg_leaf (.ok .next) (k.ok n' ys' s₀' s3 .next hn' ⟨σ3, H3, (again I3).1, n3⟩)
        | ret v =>
          obtain ⟨x3, σ3, H3, I3, r3, n3⟩ := hs'
          exact seg_leaf (.ok (.ret v)) (k.ok n' ys' s₀' s3 (.ret v) hn' ⟨x3, σ3, H3, (again I3).1, r3, n3⟩)
  exact loop m0 0 n ys s₀ s2 σ H2 hn w0 ⟨acc, cc, r, I2⟩ st2 fun b hb => (f2 b hb).1
end
end SL

/-! the first item of a generator def: up to its first yield it does what a def does; `for x in f(..): break` -/
namespace SL
open PySem PySem.Spec PyProof.Rows L2 GenW
def gcxN (P : Program) (w : World) (K : PySem.W.Frag) (mg : Str → Option Value) (base : Heap) (N : List Str) (qual : Str) (scope : Scope) (f : Addr) (cd : Value) (A : Around) (outer : List Env) (s : Shared) (H : Hp) (E : XK) (pn : List (Addr × Obj)) : Cx :=
  { cxOf (L2N.CX P w) P w K mg base N qual scope f cd A outer s H E with
    pn := pn
    xe := fun e s' => wpAny (model P w) (A.deeper (envOfC qual scope s.heap.objs.size f cd)) (leaving (envOfC qual scope s.heap.objs.size f cd) e)
      (fun _ s'' => L2N.CX P w outer H s E e s'' ∧ ∀ p ∈ pn, s''.heap.get? p.1 = some p.2) (fun _ _ => False) s' }
theorem leaveN {X : Cx} {W : WX} {E : XK} {s' : Shared} (hs : X.stack = X.env :: X.outer) (hf : X.env.frame = some X.env.locals) (hex : X.ex = []) {E₁ : Value → Shared → Prop} (hW : ∀ cls d σ H, W cls d σ H → E cls d H) {u : Value} (x : L2N.XE X W u s') :
    wpAny (model X.prog X.w) X.A (leaving X.env u) (fun _ s'' => L2N.CX X.prog X.w X.outer X.H_0 X.s_0 E u s'' ∧ ∀ p ∈ X.pn, s''.heap.get? p.1 = some p.2) E₁ s' := by
  obtain ⟨a, B, sI, pins, σ, H, cls, d, rfl, I, nb, up, sky, na, os, ag, w⟩ := x
  have hfr : X.A.frames = some (X.env :: X.outer) := by rw [I.ok.frames, hs]
  have nst : ∀ b o, X.s_0.heap.get? b = some o → b ∉ X.fs → b ∉ frs X.stack := fun b o e hb hm => by
    rcases List.mem_cons.mp (I.stkSub b hm) with z | z
    · have h1 := Heap.lt_size e
      have h2 := I.ok.above
      rw [z] at h1
      exact absurd (Nat.lt_of_lt_of_le h1 h2) (Nat.lt_irrefl _)
    · exact hb z
  have hex' : ∀ b, b ∉ X.ex := fun b hb => by rw [hex] at hb; cases hb
  have hokB := I.inGround nb
  have pinB : ∀ p ∈ X.pn, B.get? p.1 = some p.2 := fun p hp => by
    obtain ⟨h1, _, h3, h4, _⟩ := I.pin p (List.mem_append_left _ hp)
    refine nb p.1 p.2 h1 fun hm => ?_
    rcases List.mem_cons.mp (I.stkSub p.1 hm) with z | z
    · exact h3 z
    · exact h4 z
  have fin : ∀ h', HandSPX.FlyingZ B X.outer a (L2N.Zn cls d) h' → s'.heap.UpToSlots h' → (L2N.CX X.prog X.w X.outer X.H_0 X.s_0 E (.ref a) { s' with heap := h' } ∧ ∀ p ∈ X.pn, ({ s' with heap := h' } : Shared).heap.get? p.1 = some p.2) := fun h' fl up' => by
    refine ⟨⟨a, B, H, cls, d, rfl, fl, hokB, ⟨fun b o e n hb => nb b o (I.base.keep b o e n hb (hex' b)) (nst b o e hb), fun b o e hb => ?_, fun b o e n => I.base.free b o e n (hex' b), fun b o e hb => ?_, I.base.tups, I.base.frzs, I.base.tbls⟩,
      na, os.trans I.os, ag, hW _ _ _ _ w⟩, fun p hp => fl.1 p.1 p.2 (pinB p hp)⟩
    · obtain ⟨_, o₀, e₀, hnf⟩ := I.ok.funs.mem hb
      rw [e] at e₀; cases e₀
      obtain ⟨sl, e1⟩ := I.base.slot b o e (I.ok.frf b hb) hb (hex' b)
      obtain ⟨sl2, e2⟩ := up b _ e1 hnf
      obtain ⟨sl3, e3⟩ := up' b _ e2 hnf
      exact ⟨sl3, e3⟩
    · obtain ⟨o', e1⟩ := I.base.there b o e (hex' b)
      exact ⟨o', nb b o' e1 (nst b o e hb)⟩
  rw [hs] at sky
  rcases sky with ⟨hB, hn, hl, oe, vs, he, hz, hd, h1⟩ | fl | hd
  · exact PXN.leaving_firstZ L2N.Zn.steady hfr hl hf he hB hn hd h1 hz fin
  · exact PXN.leaves_onZ L2N.Zn.steady hfr hf fl fin
  · exact HandSPX.leaves_heldZ hf hd fin
section
variable {P : Program} {w : World} {K : PySem.W.Frag} {mg : Str → Option Value} {base : Heap} {N : List Str} {qual : Str} {scope : Scope} {f : Addr} {cd : Value} {A : Around} {outer : List Env} {s : Shared} {H : Hp} {E : XK} {pn : List (Addr × Obj)}
theorem takes_gcN : L2N.Takes (gcxN P w K mg base N qual scope f cd A outer s H E pn) (fun cls d _ H' => E cls d H') := fun u s' x =>
  leaveN (W := fun cls d _ H' => E cls d H') (E := E) rfl rfl rfl (fun _ _ _ _ h => h) x
theorem owns_gcN : PassesOwn (model P w) (gcxN P w K mg base N qual scope f cd A outer s H E pn).A (gcxN P w K mg base N qual scope f cd A outer s H E pn).env (gcxN P w K mg base N qual scope f cd A outer s H E pn).xe :=
  passes_of (X := gcxN P w K mg base N qual scope f cd A outer s H E pn) (K := fun e s'' => L2N.CX P w outer H s E e s'' ∧ ∀ p ∈ pn, s''.heap.get? p.1 = some p.2) (E₁ := fun _ _ => False) rfl
theorem pinnedN {s1 : Shared} {H' : Hp} {pins : List (Addr × Obj)} {σ : L2.St}
    (I : Inv (gcxOf P w K mg base N qual scope f cd A outer s H E []) [] σ H' s1)
    (h : ∀ p ∈ pn ++ pins, s1.heap.get? p.1 = some p.2 ∧ H' p.1 = none ∧ p.1 ≠ (envOfC qual scope s.heap.objs.size f cd).locals ∧ p.1 ∉ frs outer ∧ ∀ v, p.2.data ≠ .cell v) :
    Inv (gcxN P w K mg base N qual scope f cd A outer s H E pn) pins σ H' s1 :=
  ⟨⟨I.ok.mod, I.ok.kind, I.ok.glob, I.ok.blt, I.ok.above, I.ok.inj, I.ok.has, I.ok.cab, I.ok.hd, I.ok.frames, I.ok.stk, I.ok.exf, I.ok.bs, I.ok.bsz, I.ok.noex, I.ok.exfs, I.ok.funs, I.ok.frf⟩, I.os, I.bare, I.base, I.loc, I.cell, I.free, I.freeC, h, I.hok, I.len⟩
end
/-- a generator's body up to its first yield -/
structure F1 (X : Cx) (st : List Stmt) (t : TS) : Prop where
  run : ∀ (A : Around) (R : GenEnd) (Y : Protocol) (s₀ : Shared) (c : Code) (fs : List Frame) (K : Flow → Sem PySem.Fin) (J : Value → Sem PySem.Fin) (gd : Bool → Bool) (lv : List Value → List Value) (s : Shared) (σ : L2.St) (H : Hp) (pins : List (Addr × Obj)) (D : Ends),
    A.over c fs = X.A → splitAtGen fs = none → fs.any Frame.guarded = false → gd false = false → (∀ n s₀ v s kap, (∃ x σ H, Inv X pins σ H s ∧ RelV x v ∧ D.rt x H) → Y n s₀ v s kap) →
    (∀ e s, X.xe e s → Seg (model X.prog X.w) A R Y 1 s₀ c (J e) fs s) → Inv X pins σ H s → t D σ H →
    Seg (model X.prog X.w) A R Y 1 s₀ c ((execs st X.env).wrap K J gd lv) fs s
def tF1 (t u : TS) : TS := fun D σ H => t { nx := fun σ' H' => u D σ' H', rt := fun _ _ => False } σ H
section
variable {X : Cx} {st : Stmt} {rest : List Stmt} {t u : TS} {e : Expr} {yp pos : Pos} {te : TE}
theorem f1_cons (a : PS X st t) (b : F1 X rest u) : F1 X (st :: rest) (tF1 t u) := by
  refine ⟨fun A R Y s₀ c fs K J gd lv s σ H pins D ov sp gu g0 hY hE I ht => ?_⟩
  refine seg_execs_cons (seg_wrap ?_)
  rw [ov]
  refine wpAny_mono (a.run pins s σ H _ I ht) (fun f s' hs => ?_) fun x s' hx => hE x s' hx
  cases f with
  | next =>
    obtain ⟨σ', H', I', q⟩ := hs
    exact b.run A R Y s₀ c fs K J gd lv s' σ' H' pins D ov sp gu g0 hY hE I' q
  | brk => obtain ⟨_, _, _, q⟩ := hs; exact False.elim q
  | cont => obtain ⟨_, _, _, q⟩ := hs; exact False.elim q
  | ret v => obtain ⟨_, _, _, _, _, q⟩ := hs; exact False.elim q
theorem f1_yield (he : PE X e te) (hco : X.env.scope.isCoroutine = false := by rfl) (hi : interactive X.env = false := by rfl) : F1 X (.Expr (.Yield (some e) yp) pos :: rest) (tRet te) := by
  refine ⟨fun A R Y s₀ c fs K J gd lv s σ H pins D ov sp gu g0 hY hE I ht => ?_⟩
  refine seg_execs_cons (seg_Expr_Yield (n := 0) sp g0 gu ?_ hco hi)
  rw [ov]
  exact wpAny_mono (he.run _ s σ H _ I ht) (fun v s' ⟨x, H1, I1, rv, q⟩ => fun kap _ => hY _ _ _ _ _ ⟨x, σ, H1, I1, rv, q⟩) fun x s' hx => hE x s' hx
end
/-! the def's promise -/
def FEnd (P : Program) (w : World) (outer : List Env) (H : Hp) (s : Shared) (a : Addr) (g : Nat) (E : XK) : GenEnd := fun n s₀ r s1 =>
  ((r = .ok (.ret .none) ∨ r = .ok .next) ∧ False) ∨ ∃ e, r = .error e ∧ L2N.CX P w outer H s E e s1 ∧ s1.heap.IsGen a g
def FItem (P : Program) (w : World) (outer : List Env) (H : Hp) (s : Shared) (Q : VK) : Protocol := fun n s₀ v s1 kap => CE outer P w H s Q v s1
def FMade (P : Program) (w : World) (k : Nat) (outer : List Env) (H : Hp) (s : Shared) (Q : VK) (E : XK) (u : Value) (s' : Shared) : Prop :=
  ∃ (a : Addr) (g : Nat) (c : Code), u = .ref a ∧ s'.heap.IsGen a g ∧ s'.gens[g]? = some (.fresh c) ∧ s'.os = s.os ∧ AllBare s'.gens ∧ s'.heap.NoLimit ∧ (∀ b o, s.heap.get? b = some o → s'.heap.get? b = some o) ∧
    ∀ (A : Around) (s2 : Shared), Room k A → A.frames = some outer → (∀ b o, s'.heap.get? b = some o → s2.heap.get? b = some o) → s2.os = s.os → AllBare s2.gens →
      Seg (model P w) A (FEnd P w outer H s a g E) (FItem P w outer H s Q) 1 s2 c ((model P w).den c) [] s2
structure FnF (P : Program) (w : World) (K : PySem.W.Frag) (mg : Str → Option Value) (base : Heap) (k : Nat) (f : Addr) (fd : FuncData) (ps : List Str) (sp : Sp) : Prop where
  len : ∀ vs H Q E, sp vs H Q E → vs.length = ps.length
  run : ∀ (A : Around) (outer : List Env) (s : Shared) (H : Hp) (args : Args) (us : List Value) (vs : List V) (Q : VK) (E : XK), Room k A → Env0 P w K mg base A outer s H → BindsTo s fd args (ps.zip us) → Vals vs us → sp vs H Q E →
    codeAny (model P w) A (.call (.ref f) args) (fun r s' => match r with | .ok (.ret u) => FMade P w k outer H s Q E u s' | _ => False) s
theorem fnF_of {P : Program} {w : World} {K : PySem.W.Frag} {mg : Str → Option Value} {base : Heap} {k : Nat} {f : Addr} {name qual : Str} {params : Arguments} {body : List Stmt} {scope : Scope} {dV kV doc pm cdv ct oc : Value} {an od : Option Addr}
    {osl : Array (Option Value)} {N ps : List Str} {sp : Sp} (lk : K.lookup f = some ⟨oc, od, .func (PySem.W.fnOf name qual params body scope dV kV doc pm an cdv ct), osl⟩) (hcd : PySem.W.codeIn K cdv qual = true) (S : GScope N ps scope)
    (len : ∀ vs H Q E, sp vs H Q E → vs.length = ps.length)
    (hbody : ∀ (A : Around) (outer : List Env) (s : Shared) (H : Hp) (vs : List V) (Q : VK) (E : XK) (pn : List (Addr × Obj)), Room k (A.deeper (envOfC qual scope s.heap.objs.size f cdv)) → sp vs H Q E →
      ∃ (t : TS) (D : Ends), F1 (gcxN P w K mg base N qual scope f cdv A outer s H E pn) body t ∧ D.rt = Q ∧ t D (start N vs) H) :
    FnF P w K mg base (k + 1) f (PySem.W.fnOf name qual params body scope dV kV doc pm an cdv ct) ps sp := by
  refine ⟨len, fun A outer s H args us vs Q E hr e0 hb r hsp => ?_⟩
  have hl := len _ _ _ _ hsp
  have KX : K.In s.heap := e0.mod.kin.keeps fun b o e => (e0.bs b o e).1
  have lim : s.heap.NoLimit := e0.mod.nolimit.keeps fun b o e => (e0.bs b o e).1
  have hkind : ∀ y ∈ ps.zip us, scope.names.lookup y.1 = some .local ∨ (scope.names.lookup y.1 = some .cell ∧ ((cellsFrom (s.heap.objs.size + 1) scope.names []).lookup y.1).isSome = true) := fun ⟨n, v⟩ hy => by
    rcases S.par n (List.of_mem_zip hy).1 with q | q
    · exact .inl q
    · exact .inr ⟨q, PySem.W.cellsFrom_some _ _ _ (.inl q)⟩
  refine codeAny_call_generator hr.depth (KX _ _ lk) rfl S.co S.gen rfl (PySem.W.codeRec_of KX hcd) (hb _ _ _ _ ?_)
  refine wpAny_newFunctionEnv_cells S.kind hkind fun env he s1 x => ?_
  subst he
  have lim1 : s1.heap.NoLimit := lim.keeps x.toInCall.keep
  refine ⟨lim1, ?_⟩
  obtain ⟨h1, tk, es1, hk1⟩ := x.done
  have os1 : s1.os = s.os := by rw [es1]
  have gen1 : s1.gens = s.gens := by rw [es1]
  have lt1 : s.heap.objs.size < s1.heap.objs.size := x.toInCall.ns.lt
  have sz1 : s.heap.objs.size ≤ s1.heap.objs.size := Nat.le_of_lt lt1
  have kp1 : ∀ b o, s.heap.get? b = some o → s1.heap.get? b = some o := x.toInCall.keep
  have main : ∀ (go : Obj) (nm qn : Value) (tk2 : Nat), go.cls = .type "generator" → go.data = .fields #[.int s1.gens.size 0, nm, qn] → go.slots = #[] → (∀ h : Heap, (h.push go).get? h.objs.size = some go) →
      FMade P w (k + 1) outer H s Q E (.ref s1.heap.objs.size) { s1 with gens := s1.gens.push (.fresh (.func body (envOfC qual scope s.heap.objs.size f cdv))), toks := tk2, heap := s1.heap.push go } := by
    intro go nm qn tk2 hgc hgd0 hgs hgp
    have hgen : ∀ h : Heap, h.get? s1.heap.objs.size = some go → h.IsGen s1.heap.objs.size s1.gens.size := fun h e => ⟨go, nm, qn, e, hgc, hgd0, hgs⟩
    have hpushed : (s1.heap.push go).get? s1.heap.objs.size = some go := hgp _
    refine ⟨s1.heap.objs.size, s1.gens.size, _, rfl, hgen _ hpushed, Array.getElem?_push_size .., os1, ?_, lim1.keeps fun b o e => Heap.get?_push_of_some _ e, fun b o e => Heap.get?_push_of_some _ (kp1 b o e), ?_⟩
    · exact AllBare.push (by rw [gen1]; exact e0.bare) rfl
    intro Aw s2 hrw hfr hk2 hos hba
    have e0w : Env0 P w K mg base Aw outer s H := ⟨hfr, e0.mod, e0.bs, e0.bsz, e0.funs, e0.frf, e0.hok, e0.bare⟩
    obtain ⟨t, D, ht, rfl, hq⟩ := hbody Aw outer s H vs Q E [(s1.heap.objs.size, go)] (hrw.deeper _) hsp
    have I1 : Inv (gcxOf P w K mg base N qual scope f cdv Aw outer s H E []) [] (start N vs) H s1 := inv_startG S hrw.hd e0w hl r x
    have kp2 : ∀ b o, s1.heap.get? b = some o → s2.heap.get? b = some o := fun b o e => hk2 b o (Heap.get?_push_of_some _ e)
    have I2 : Inv (gcxOf P w K mg base N qual scope f cdv Aw outer s H E []) [] (start N vs) H s2 :=
      I1.call' (ch := []) (hos.trans os1.symm) (Un.kept kp2) (I1.hok.kept kp2) hba fun b z => by simp at z
    have hea : s2.heap.get? s1.heap.objs.size = some go := hk2 s1.heap.objs.size go hpushed
    have hgd : ∀ v, go.data ≠ .cell v := fun v q => by rw [hgd0] at q; cases q
    have I3 : Inv (gcxN P w K mg base N qual scope f cdv Aw outer s H E [(s1.heap.objs.size, go)]) [] (start N vs) H s2 := pinnedN I2 fun p hp => by
      have hp' : p = (s1.heap.objs.size, go) := by simpa using hp
      rw [hp']
      exact ⟨hea, I1.hok.fresh (Nat.le_refl _), Nat.ne_of_gt lt1, I1.nofs (Nat.le_refl _), hgd⟩
    refine seg_func ?_
    refine ht.run Aw _ _ s2 _ [] _ _ id id s2 (start N vs) H [] D over_func rfl rfl rfl (fun n s₀ v s' kap hv => ?_) (fun e s' hx => ?_) I3 hq
    · obtain ⟨x, σ', H', J, rv, q⟩ := hv
      exact ⟨x, H', J.os, J.bare, J.base, J.hok, rv, q⟩
    · refine seg_wrap ?_
      rw [over_func]
      refine wpAny_mono (show wpAny (model P w) (Aw.deeper (envOfC qual scope s.heap.objs.size f cdv)) (leaving (envOfC qual scope s.heap.objs.size f cdv) e) (fun _ s'' => L2N.CX P w outer H s E e s'' ∧ ∀ p ∈ [(s1.heap.objs.size, go)], s''.heap.get? p.1 = some p.2) (fun _ _ => False) s' from hx) (fun _ s'' q => ?_) fun _ s'' q => q.elim
      exact seg_end (.error e) (.inr ⟨e, rfl, q.1, hgen _ (q.2 (s1.heap.objs.size, go) (List.mem_singleton.mpr rfl))⟩)
  exact main _ _ _ _ rfl rfl rfl fun h => Heap.get?_push_size _ rfl
/-! for y in f(e, ..): break -/
theorem notStopN {P : Program} {w : World} {K : PySem.W.Frag} {outer : List Env} {H : Hp} {s s' : Shared} {E : XK} {e : Value} (hE : NoStop K E) (kin : K.In s'.heap) (c : L2N.CX P w outer H s E e s') : NotStop (model P w) e s'.heap := by
  obtain ⟨a, B, H', cls, d, rfl, fl, _, _, _, _, _, hW⟩ := c
  obtain ⟨oe, vs, he, hz, hd⟩ := fl.there
  have L := PySem.W.looks_subIn (M := model P w) kin (hE cls d H' hW)
  intro A Q E' s2 hs hq
  simp only [isInstance]
  refine wpAny_bind (wpAny_typeOf_ref (o := oe) (by rw [hs]; exact he) ?_)
  rw [hz.1]
  exact L A Q E' s2 (fun b o z => by rw [hs]; exact z) hq
/-- what the callee may let out: of a class told by ok -/
def okE (K : PySem.W.Frag) (ok : Str → Bool) (E : XK) : XK := fun cls d H => (∃ n, ok n = true ∧ cls = PD.exV K n) ∧ E cls d H
def tFirst (K : PySem.W.Frag) (ok : Str → Bool) (sp : Sp) (W : WX) (t : TA) (i : Nat) : TS := fun D σ H => t σ H fun vs H1 => sp vs H1 (fun x H2 => D.nx (σ.set i (some x)) H2) (okE K ok fun cls d H' => W cls d σ H')
section
variable {X : Cx} {W : WX} {ok : Str → Bool} {k i : Nat} {f : Addr} {fd : FuncData} {ps : List Str} {sp : Sp} {x y : Str} {e : Expr} {es : List Expr} {t : TA} {p p1 pos pos' bp : Pos}
theorem ps_first (hp : PassesOwn (model X.prog X.w) X.A X.env X.xe) (tk : L2N.Takes X W) (F : FnF X.prog X.w X.K X.mg X.base k f fd ps sp) (hr : Room (k + 3) X.A) (hg : Gl X x) (hm : X.mg x = some (.ref f)) (hk : PySem.W.keepIn X.K (.ref f) = true) (hb : Binds X.K fd ps [])
    (hst : ∀ n, ok n = true → PySem.W.subIn X.K (PD.exV X.K n) (.type "StopIteration") = some false) (ha : PA X (e :: es) t) (hN : X.N.Nodup) (hi : X.N[i]? = some y) (hy : Loc X.env.scope y)
    (hf : X.fn y = true ∨ X.env.scope.names.lookup y = some .local := by first | exact .inl rfl | exact .inr rfl | assumption)
    (hdb : (x == ("__debug__" : Str)) = false := by decide) (he : starEach (e :: es) X.env = (false, eval e X.env) :: starEach es X.env := by rfl) (hpl : (backTo pos' (starEach es X.env)).any (·.1) = false := by rfl)
    (hs : ∀ v, foldedSetIterable (.Call (.Name x p) (e :: es) [] pos') X.env v = pure v := by intro _; rfl) :
    PS X (.For (.Name y p1) (.Call (.Name x p) (e :: es) [] pos') [.Break bp] [] pos) (tFirst X.K ok sp W t i) := by
  refine ⟨fun pins s σ H D I h => ?_⟩
  have call : wpAny (model X.prog X.w) X.A (eval (.Call (.Name x p) (e :: es) [] pos') X.env) (fun u s' => ∃ H1 sc, Inv X pins σ H1 sc ∧ FMade X.prog X.w k X.stack H1 sc (fun x H2 => D.nx (σ.set i (some x)) H2) (okE X.K ok fun cls d H' => W cls d σ H') u s') X.xe s := by
    refine wpAny_Call_Name_kw (ld_glob I hg hm ?_ hdb)
    refine PySem.W.callWith_K (h₀ := X.base) I.ok.mod.kin hk (thn (ha.run pos' pins s σ H _ I h) fun us s1 ⟨vs, H1, I1, r, q⟩ => ⟨I1.kIn, ?_⟩) he hpl
    have hl : us.length = ps.length := by rw [← r.length]; exact F.len _ _ _ _ q
    have b := hb s1 us I1.kIn (by rw [List.append_nil]; exact hl)
    rw [List.append_nil] at b
    refine wpAny_call (codeAny_mono (F.run X.A X.stack s1 H1 ⟨us, []⟩ us vs _ _ (hr.mono (by omega)) I1.env0 b r q) fun r s' hq => ?_)
    cases r with
    | error e => exact False.elim hq
    | ok fl =>
      cases fl with
      | ret u => exact ⟨H1, s1, I1, hq⟩
      | next => exact False.elim hq
      | brk => exact False.elim hq
      | cont => exact False.elim hq
  refine wpAny_For (thn call fun v s1 h1 => ?_) hs
  obtain ⟨H1, sc, I1, a, g, c, rfl, hgen, hgs, hos, hbare, hlim, hkp, wake⟩ := h1
  refine wpAny_pyIter_gen hgen ?_
  refine codeAny_forLoop_any (fun n s' => s' = s1) ?_ 0 rfl
  rintro n s' rfl
  refine wpAny_passesOwn hp ?_
  refine next_genG (n := 1) (F := fun _ _ _ => False) (Er := fun e s2 => L2N.CX X.prog X.w X.stack H1 sc (okE X.K ok fun cls d H' => W cls d σ H') e s2 ∧ s2.heap.IsGen a g) (Y := FItem X.prog X.w X.stack H1 sc fun x H2 => D.nx (σ.set i (some x)) H2) hr.hd hlim (by have := hr.dp; omega) hgen hgs ?_ (fun v s2 gs' hb2 hv => ?_) (fun s2 hF => False.elim hF) fun e s2 hE => ?_
  · refine ⟨rfl, wake _ _ ⟨hr.hd, ?_, ?_⟩ I1.ok.frames (fun b o z => z) hos (allBare_setGen hbare rfl)⟩
    · have := hr.dp
      show X.A.depth + 3 * k + 5 < _
      omega
    · have := hr.un
      show X.A.units + 1 + 16 * k + 200 < _
      omega
  · obtain ⟨xv, H', os, bare, un, hok, r, q⟩ := (show CE X.stack X.prog X.w H1 sc (fun x H2 => D.nx (σ.set i (some x)) H2) v s2 from hv)
    obtain ⟨xv, H', J, rv, q⟩ := I1.after (Q := fun x H2 => D.nx (σ.set i (some x)) H2) (u := v) (s' := s2.setGen g gs') ⟨xv, H', os, allBare_setGen bare hb2, un, hok, r, q⟩
    refine wpAny_pure ?_
    refine wpAny_passesOwn hp (thn ((pg_name (pos := p1) hN hi hy hf).run pins _ σ H' xv v D.nx J rv q) fun _ s6 ⟨σ6, H6, I6, q6⟩ => ?_)
    refine wpAny_execs_cons (wpAny_Break ?_)
    exact ⟨σ6, H6, I6, q6⟩
  · obtain ⟨hc, hg1⟩ := hE
    have kin : X.K.In s2.heap := by
      obtain ⟨a, B, H', cls, d, _, fl, _, ub, _⟩ := id hc
      refine I1.ok.mod.kin.keeps fun b o eb => fl.1 b o (ub.keep b o (I1.bs b o eb).1 (I1.bs b o eb).2 fun hm => ?_)
      rcases List.mem_cons.mp (I1.stkSub b hm) with z | z
      · have h1 := Heap.lt_size eb
        have h2 := Nat.le_trans I1.ok.bsz I1.ok.above
        rw [z] at h1
        exact absurd (Nat.lt_of_lt_of_le h1 h2) (Nat.lt_irrefl _)
      · exact I1.ok.nofr eb z
    refine ⟨hg1, notStopN (fun cls d H z => ?_) kin hc, tk e _ (L2N.XE.of_call (E := okE X.K ok fun cls d H' => W cls d σ H') I1 (fun _ _ _ z => z.2) ?_)⟩
    · obtain ⟨⟨n, hn, ec⟩, _⟩ := z
      rw [ec]
      exact hst n hn
    · obtain ⟨a, B, H', cls, d, z1, fl, z2, ub, z3, z4, z5, z6⟩ := hc
      exact ⟨a, B, H', cls, d, z1, fl, z2, ub, z3, z4, allBare_setGen z5 rfl, z6⟩
end
end SL

/-! a generator's first item as a def's answer; a call of one of two defs out of a list -/
namespace SL
open PySem PySem.Spec PyProof.Rows L2
/-- [n1, n2][..](e, ..) -/
def tCallAt (K : PySem.W.Frag) (n1 n2 : Str) (sp1 sp2 : Sp) (E : L2.St → XK) (tf : TE) (t : TA) : TE := fun σ H Q => tf σ H fun y H1 =>
  (y = .ref (PD.adE K n1) ∧ t σ H1 fun vs H2 => sp1 vs H2 Q (E σ)) ∨ (y = .ref (PD.adE K n2) ∧ t σ H1 fun vs H2 => sp2 vs H2 Q (E σ))
theorem pe_callAt {X : Cx} {CX : CXT} {k1 k2 : Nat} {f1 f2 : Addr} {d1 d2 : FuncData} {ps1 ps2 : List Str} {sp1 sp2 : Sp} {n1 n2 : Str} {E : L2.St → XK} {fe e : Expr} {es : List Expr} {tf : TE} {t : TA} {pos : Pos}
    (F1 : FnOk X.prog X.w X.K X.mg X.base CX k1 f1 d1 ps1 sp1) (F2 : FnOk X.prog X.w X.K X.mg X.base CX k2 f2 d2 ps2 sp2) (q1 : PD.adE X.K n1 = f1) (q2 : PD.adE X.K n2 = f2) (hr1 : Room k1 X.A) (hr2 : Room k2 X.A)
    (hk1 : PySem.W.keepIn X.K (.ref f1) = true) (hk2 : PySem.W.keepIn X.K (.ref f2) = true) (hb1 : Binds X.K d1 ps1 []) (hb2 : Binds X.K d2 ps2 []) (hx : ∀ σ, PassesAt CX X σ (E σ)) (hf : PE X fe tf) (ha : PA X (e :: es) t)
    (ht : eval (.Call fe (e :: es) [] pos) X.env = (do callWith pos (← eval fe X.env) [] (backTo pos (starEach (e :: es) X.env)) (backToKw pos (keywordEach [] X.env))) := by rfl)
    (he : starEach (e :: es) X.env = (false, eval e X.env) :: starEach es X.env := by rfl) (hpl : (backTo pos (starEach es X.env)).any (·.1) = false := by rfl) : PE X (.Call fe (e :: es) [] pos) (tCallAt X.K n1 n2 sp1 sp2 E tf t) := by
  refine ⟨fun pins s σ H Q I h => ?_⟩
  subst q1; subst q2
  refine Call_ (thn (hf.run pins s σ H _ I h) fun u s1 ⟨y, H1, I1, ry, q⟩ => ?_) ht
  rcases q with ⟨ey, q⟩ | ⟨ey, q⟩
  · subst ey
    obtain rfl : u = Value.ref _ := ry
    refine PySem.W.callWith_K (h₀ := X.base) I1.ok.mod.kin hk1 (thn (ha.run pos pins s1 σ H1 _ I1 q) fun us s2 ⟨vs, H2, I2, r, q⟩ => ⟨I2.kIn, ?_⟩) he hpl
    exact run_fnS F1 hr1 hb1 (hx σ) I2 r q
  · subst ey
    obtain rfl : u = Value.ref _ := ry
    refine PySem.W.callWith_K (h₀ := X.base) I1.ok.mod.kin hk2 (thn (ha.run pos pins s1 σ H1 _ I1 q) fun us s2 ⟨vs, H2, I2, r, q⟩ => ⟨I2.kIn, ?_⟩) he hpl
    exact run_fnS F2 hr2 hb2 (hx σ) I2 r q
end SL
namespace PD
open PySem PySem.Spec PyProof.Rows L2 Evl SL
section
variable {g : Gx} {W : XW} {mr mr' : Md} {c : Cf} {N M L L' k k1 k2 k3 n : Nat} {ρ : Env} {σ : L2.St} {H H' : Hp} {md : Md} {ta tf : TE} {tr : TA} {pr : PXs} {pf : PX} {t u : TS} {p q : PS'} {G G1 G2 : GD} {i : Nat} {ok : Str → Bool} {n1 n2 : Str}
/-- a statement before the yield -/
def kF1 (p q : PS') : PS' := fun κ ρ => p { nx := q κ, rt := fun _ => False, bk := fun _ => False, ct := fun _ => False, xx := κ.xx } ρ
theorem ss_f1 (h1 : SS g W mr k1 t p) (h2 : SS g W mr k2 u q) : SS g W mr (k1 + k2) (tF1 t u) (kF1 p q) := fun c hc N σ H ρ r hk κ hp D hD =>
  h1 c hc N σ H ρ r (by omega) _ hp _ ⟨fun ρ' σ' H' M hM hq r' => h2 c hc M σ' H' ρ' r' (by omega) κ hq D (hD.sub (by omega)), fun ρ' σ' H' M hM hq r' => hq.elim, fun ρ' σ' H' M hM hq r' => hq.elim, fun v H' d M hM hq ro => hq.elim,
    fun ρ' σ' H' M e cls dd hM hx hr r' => hD.xx ρ' σ' H' M e cls dd (by omega) hx hr r'⟩
/-- for x in f(..): break -/
def kFirst (i n : Nat) (ok : Str → Bool) (G : GD) (pr : PXs) : PS' := fun κ ρ => pr ρ (fun ds => ds.length = n ∧ G ds (fun d => κ.nx (ρ.set i (some (.d d)))) (fun e => ok e.cls = true ∧ κ.xx ρ e)) (κ.xx ρ)
theorem ss_first (ha : SA g W .e k1 tr pr) : SS g W mr (k1 + k) (tFirst g.K ok (spD g n false .f k G) W tr i) (kFirst i n ok G pr) := fun c hc N σ H ρ r hk κ hp D hD =>
  ha c hc N σ H ρ r (by omega) _ _ hp (hD.xf (by omega)) _ fun vs H1 ds M1 hM1 ⟨hl, hG⟩ r1 e1 hv =>
    call_core (A := Bs c ρ σ) r1 hc (fun a => sa_bs) (fun a => r1.bsAt) none (fun a z => by cases z) hv hl rfl (by omega) hG
      (fun v H' d M' hM hd r' e' hF hr => hD.nx _ _ H' M' (by omega) hd (r'.setD (RV.fe (M' := M') (ra_ef (mr := .f) r1 hF (.inr rfl) hr))))
      (fun e cls dd H' M' hM z hr r' => by subst hc; exact ⟨⟨e.cls, z.1, hr.1⟩, hD.xx ρ σ H' M' e cls dd (by omega) z.2 hr r'⟩)
/-- a call of one of two defs -/
def pCallAt (n : Nat) (n1 : Str) (G1 : GD) (n2 : Str) (G2 : GD) (pf : PX) (pr : PXs) : PX := fun ρ po xx => pf ρ (fun d => (d = .cls n1 ∧ pCall n G1 pr ρ po xx) ∨ (d = .cls n2 ∧ pCall n G2 pr ρ po xx)) xx
theorem sx_callAt (hm : mr = .e ∨ mr = .f) (hf : SX g W .e k1 tf pf) (ha : SA g W .e k2 tr pr) : SX g W mr (k1 + (k2 + k)) (tCallAt g.K n1 n2 (spD g n false mr k G1) (spD g n false mr k G2) (WE W) tf tr) (pCallAt n n1 G1 n2 G2 pf pr) := fun c hc N σ H ρ r hk po xx hp hx Q q =>
  hf c hc N σ H ρ r (by omega) _ xx hp (hx.sub (by omega)) _ fun v H1 d M1 hM1 hd r1 e1 hv => by
    have hx' : ∀ {H : Hp} {M : Nat}, M ≤ N + k1 → Xf W c M (k2 + k) ρ σ xx := fun {H M} hM e cls dd H' M' hM' z hr r' => hx e cls dd H' M' (by omega) z hr r'
    rcases hd with ⟨ed, hd⟩ | ⟨ed, hd⟩
    · subst ed
      subst hc
      cases hv
      exact .inl ⟨rfl, sx_callE hm ha c rfl M1 σ H1 ρ r1 (by omega) po xx hd (hx' (H := H1) hM1) Q fun v' H' d' M' hM' hd' r' e' hv' => q v' H' d' M' (by omega) hd' r' (e1.trans e') hv'⟩
    · subst ed
      subst hc
      cases hv
      exact .inr ⟨rfl, sx_callE hm ha c rfl M1 σ H1 ρ r1 (by omega) po xx hd (hx' (H := H1) hM1) Q fun v' H' d' M' hM' hd' r' e' hv' => q v' H' d' M' (by omega) hd' r' (e1.trans e') hv'⟩
end
/-- none of these classes ends an iterator -/
def stpB (K : PySem.W.Frag) (ns : List Str) : Bool := ns.all fun n => decide (PySem.W.subIn K (exV K n) (.type "StopIteration") = some false)
theorem stp_of {K : PySem.W.Frag} {ns : List Str} (h : stpB K ns = true) : ∀ n, ns.contains n = true → PySem.W.subIn K (exV K n) (.type "StopIteration") = some false := fun n hn => by
  have := List.all_eq_true.mp h n (List.contains_iff_mem.mp hn)
  exact of_decide_eq_true this
section
variable {P : Program} {w : World} {K : PySem.W.Frag} {mg : Str → Option Value} {base : Heap}
/-- a generator def by its body up to the first yield -/
theorem gokF {x qual : Str} {st : Stmt} {f : Addr} {fd : FuncData} {N ps : List Str} {k : Nat} {sp : Sp} (F : L2.Fun K x qual st f fd) (S : GScope N ps (L2.defScope st)) (len : ∀ vs H Q E, sp vs H Q E → vs.length = ps.length)
    (hbody : ∀ (cdv : Value) (A : Around) (outer : List PySem.Env) (s : Shared) (H : Hp) (vs : List V) (Q : VK) (E : XK) (pn : List (Addr × Obj)), Room k (A.deeper (envOfC qual (L2.defScope st) s.heap.objs.size f cdv)) → sp vs H Q E →
      ∃ t : TS, F1 (gcxN P w K mg base N qual (L2.defScope st) f cdv A outer s H E pn) (L2.defBody st) t ∧ t (fin Q) (start N vs) H) : FnF P w K mg base (k + 1) f fd ps sp := by
  obtain ⟨oc, od, kV, doc, pm, an, cdv, ct, osl, rfl, lk, hcd⟩ := F.ex
  exact fnF_of lk hcd S len fun A outer s H vs Q E pn hr hsp => let ⟨t, h1, h2⟩ := hbody cdv A outer s H vs Q E pn hr hsp; ⟨t, fin Q, h1, rfl, h2⟩
end
end PD

set_option exponentiation.threshold 600
/-! law k40: kinds of errors; no row, no move, no moves -/
namespace PD
open PySem PySem.Spec PyProof.Rows L2 Evl SL
abbrev nsE : List Str := ["SliderError", "InvalidRowError", "InvalidMoveError", "InvalidMovesError", "InvalidSliderError", "InvalidNumberError", "InvalidSharesError", "InvalidLogError", "InvalidRoundError", "InvalidLocksError", "InvalidFormatError", "NotShortestError", "LockedError", "TooMuchError", "StepError", "FullError", "EmptyHistoryError", "StartedError", "NotStartedError", "NoMoveError", "NoOriginError"]
section
variable {po : D → Prop} {xx : Exn → Prop} {κ : PK} {ρ : Env}
abbrev N_kind46 : List Str := ["error", "odd", "kinds"]
def t_kind46 (K : PySem.W.Frag) : TS :=
  (tSeq (tAsg (tCB (rIsXT K (kitN nsE)) (tCons (tVar 0) (tCons (tTup (tCons (tC (.ref (adE K "InvalidSharesError"))) (tCons (tC (.ref (adE K "InvalidLogError"))) (tCons (tC (.ref (adE K "InvalidRoundError"))) (tCons (tC (.ref (adE K "InvalidLocksError"))) tNil))))) tNil))) (gName 1))
    (tSeq (tAsg (tOrV (tVar 1) (tCB (rIsXT K (kitN nsE)) (tCons (tVar 0) (tCons (tTup (tCons (tC (.ref (adE K "InvalidFormatError"))) (tCons (tC (.ref (adE K "NotShortestError"))) (tCons (tC (.ref (adE K "LockedError"))) (tCons (tC (.ref (adE K "TooMuchError"))) tNil))))) tNil)))) (gName 1))
    (tSeq (tAsg (tOrV (tVar 1) (tCB (rIsXT K (kitN nsE)) (tCons (tVar 0) (tCons (tTup (tCons (tC (.ref (adE K "StepError"))) (tCons (tC (.ref (adE K "EmptyHistoryError"))) (tCons (tC (.ref (adE K "StartedError"))) (tCons (tC (.ref (adE K "NotStartedError"))) tNil))))) tNil)))) (gName 1))
    (tSeq (tAsg (tOrV (tVar 1) (tCB (rIsXT K (kitN nsE)) (tCons (tVar 0) (tCons (tTup (tCons (tC (.ref (adE K "NoMoveError"))) (tCons (tC (.ref (adE K "NoOriginError"))) tNil))) tNil)))) (gName 1))
    (tSeq (tAsg (tLst (tCons (tCB (rIsX K (kitN nsE)) (tCons (tVar 0) (tCons (tC (.ref (adE K "InvalidRowError"))) tNil))) (tCons (tCB (rIsX K (kitN nsE)) (tCons (tVar 0) (tCons (tC (.ref (adE K "InvalidMoveError"))) tNil))) tNil))) (gName 2))
    (tSeq (tAsg (tOp (rCatQ K) (tVar 2) (tLst (tCons (tCB (rIsX K (kitN nsE)) (tCons (tVar 0) (tCons (tC (.ref (adE K "InvalidMovesError"))) tNil))) (tCons (tCB (rIsX K (kitN nsE)) (tCons (tVar 0) (tCons (tC (.ref (adE K "InvalidSliderError"))) tNil))) tNil)))) (gName 2))
    (tSeq (tAsg (tOp (rCatQ K) (tVar 2) (tLst (tCons (tCB (rIsX K (kitN nsE)) (tCons (tVar 0) (tCons (tC (.ref (adE K "InvalidNumberError"))) tNil))) (tCons (tCB (rIsX K (kitN nsE)) (tCons (tVar 0) (tCons (tC (.ref (adE K "FullError"))) tNil))) tNil)))) (gName 2))
    (tSeq (tIfS (tOr (tB (tVar 1)) (tOr (tNot (tB (tCB (rIsXV K (fun n => List.contains nsE n) "ValueError") (tCons (tVar 0) (tCons (tC (.ty "ValueError")) tNil))))) (tTest (tOp rNe (tBM K "list" (rCntF K) (tVar 2) (tCons (tC (.bl true)) tNil)) (tC (.int 1)))))) (tRet (tC (.str "other"))) tNext)
    (tRet (tOp (rIxL K) (tLst (tCons (tC (.str "row")) (tCons (tC (.str "move")) (tCons (tC (.str "moves")) (tCons (tC (.str "slider")) (tCons (tC (.str "number")) (tCons (tC (.str "full")) tNil))))))) (tBM K "list" (rIndex K) (tVar 2) (tCons (tC (.bl true)) tNil))))))))))))
def p_kind46 : PS' :=
  (kSeq (kAsgD 1 (pCB (pIsXT nsE) (pCons (pV 0) (pCons (pTup (pCons (pC (.cls "InvalidSharesError")) (pCons (pC (.cls "InvalidLogError")) (pCons (pC (.cls "InvalidRoundError")) (pCons (pC (.cls "InvalidLocksError")) pNil))))) pNil))))
    (kSeq (kAsgD 1 (pOrV (pV 1) (pCB (pIsXT nsE) (pCons (pV 0) (pCons (pTup (pCons (pC (.cls "InvalidFormatError")) (pCons (pC (.cls "NotShortestError")) (pCons (pC (.cls "LockedError")) (pCons (pC (.cls "TooMuchError")) pNil))))) pNil)))))
    (kSeq (kAsgD 1 (pOrV (pV 1) (pCB (pIsXT nsE) (pCons (pV 0) (pCons (pTup (pCons (pC (.cls "StepError")) (pCons (pC (.cls "EmptyHistoryError")) (pCons (pC (.cls "StartedError")) (pCons (pC (.cls "NotStartedError")) pNil))))) pNil)))))
    (kSeq (kAsgD 1 (pOrV (pV 1) (pCB (pIsXT nsE) (pCons (pV 0) (pCons (pTup (pCons (pC (.cls "NoMoveError")) (pCons (pC (.cls "NoOriginError")) pNil))) pNil)))))
    (kSeq (kAsgD 2 (pLst (pCons (pCB (pIsX nsE) (pCons (pV 0) (pCons (pC (.cls "InvalidRowError")) pNil))) (pCons (pCB (pIsX nsE) (pCons (pV 0) (pCons (pC (.cls "InvalidMoveError")) pNil))) pNil))))
    (kSeq (kAsgD 2 (pOp pCat (pV 2) (pLst (pCons (pCB (pIsX nsE) (pCons (pV 0) (pCons (pC (.cls "InvalidMovesError")) pNil))) (pCons (pCB (pIsX nsE) (pCons (pV 0) (pCons (pC (.cls "InvalidSliderError")) pNil))) pNil)))))
    (kSeq (kAsgD 2 (pOp pCat (pV 2) (pLst (pCons (pCB (pIsX nsE) (pCons (pV 0) (pCons (pC (.cls "InvalidNumberError")) pNil))) (pCons (pCB (pIsX nsE) (pCons (pV 0) (pCons (pC (.cls "FullError")) pNil))) pNil)))))
    (kSeq (kIf (qOr (qTest (pV 1)) (qOr (qNot (qTest (pCB (pIsXV nsE) (pCons (pV 0) (pCons (pC (.ty "ValueError")) pNil))))) (qTest (pOp (pEq true) (pCntB (pV 2) (pC (.bl true))) (pC (.int 1)))))) (kRet (pC (.str "other"))) kNext)
    (kRet (pOp pIxL (pLst (pCons (pC (.str "row")) (pCons (pC (.str "move")) (pCons (pC (.str "moves")) (pCons (pC (.str "slider")) (pCons (pC (.str "number")) (pCons (pC (.str "full")) pNil))))))) (pIdxB (pV 2) (pC (.bl true)))))))))))))
def G_kind46 : GD := Gof0 p_kind46 false 2
def sp_kind46 (K : PySem.W.Frag) : Sp := spD (gx K) 1 false .e 0 G_kind46
theorem ss_kind46 {K : PySem.W.Frag} : SS (gx K) W0 .e 0 (t_kind46 K) p_kind46 := by
  unfold t_kind46 p_kind46
  exact SS.mono ((ss_seq (ss_asgD ((sx_cb (sa_ct (sx_v).et (sa_ct (sx_tup (sa_ce (sx_cls).fe (sa_ce (sx_cls).fe (sa_ce (sx_cls).fe (sa_ce (sx_cls).fe sa_nil))))).et sa_nil)) oa_isXT)).fe)
    (ss_seq (ss_asgD ((sx_orV (sx_v).et (sx_cb (sa_ct (sx_v).et (sa_ct (sx_tup (sa_ce (sx_cls).fe (sa_ce (sx_cls).fe (sa_ce (sx_cls).fe (sa_ce (sx_cls).fe sa_nil))))).et sa_nil)) oa_isXT))).fe)
    (ss_seq (ss_asgD ((sx_orV (sx_v).et (sx_cb (sa_ct (sx_v).et (sa_ct (sx_tup (sa_ce (sx_cls).fe (sa_ce (sx_cls).fe (sa_ce (sx_cls).fe (sa_ce (sx_cls).fe sa_nil))))).et sa_nil)) oa_isXT))).fe)
    (ss_seq (ss_asgD ((sx_orV (sx_v).et (sx_cb (sa_ct (sx_v).et (sa_ct (sx_tup (sa_ce (sx_cls).fe (sa_ce (sx_cls).fe sa_nil))).et sa_nil)) oa_isXT))).fe)
    (ss_seq (ss_asgD ((sx_lst (sa_ce ((sx_cb (sa_ct (sx_v).et (sa_ct (sx_cls).ft sa_nil)) oa_isX)).fe (sa_ce ((sx_cb (sa_ct (sx_v).et (sa_ct (sx_cls).ft sa_nil)) oa_isX)).fe sa_nil)))).fe)
    (ss_seq (ss_asgD ((sx_cat (sx_v).eb ((sx_lst (sa_ce ((sx_cb (sa_ct (sx_v).et (sa_ct (sx_cls).ft sa_nil)) oa_isX)).fe (sa_ce ((sx_cb (sa_ct (sx_v).et (sa_ct (sx_cls).ft sa_nil)) oa_isX)).fe sa_nil)))).fb)).fe)
    (ss_seq (ss_asgD ((sx_cat (sx_v).eb ((sx_lst (sa_ce ((sx_cb (sa_ct (sx_v).et (sa_ct (sx_cls).ft sa_nil)) oa_isX)).fe (sa_ce ((sx_cb (sa_ct (sx_v).et (sa_ct (sx_cls).ft sa_nil)) oa_isX)).fe sa_nil)))).fb)).fe)
    (ss_seq (ss_if (sb_or (sb_B sx_v) (sb_or (sb_not (sb_B (sx_cb (sa_ct (sx_v).et (sa_ct (sx_ty).ft sa_nil)) oa_isXV))) (sb_test (sx_op ((sx_cntB (sx_v).et (sx_bl).ft)).ft (sx_int).ft os_ne)))) (ss_retE (sx_str).fe) ss_next)
    (ss_retE (sx_ixL ((sx_lst (sa_ce (sx_str).fe (sa_ce (sx_str).fe (sa_ce (sx_str).fe (sa_ce (sx_str).fe (sa_ce (sx_str).fe (sa_ce (sx_str).fe sa_nil)))))))).fb ((sx_idxB (sx_v).et (sx_bl).ft)).ft))))))))))) (by decide +kernel)
theorem ln_kind46 {K : PySem.W.Frag} {vs : List V} {H : Hp} {Q : VK} {E : XK} (h : sp_kind46 K vs H Q E) : vs.length = (["error"] : List Str).length := spD_len h
theorem rd_kind46 {K : PySem.W.Frag} {vs : List V} {H : Hp} {Q : VK} {E : XK} (h : sp_kind46 K vs H Q E) : t_kind46 K (fin Q) (L2.start N_kind46 vs) H := rd_def0 ss_kind46 (.inl rfl) (by decide +kernel) h
theorem g_kind_row (h : po (.str "row")) : G_kind46 [.exc "InvalidRowError" none] po xx := by
  refine ⟨by show 4 ≤ 100000; decide, _, false, rfl, by simp, by decide +kernel, ?_⟩
  refine ⟨by show 4 ≤ 100000; decide, _, false, rfl, by simp, by decide +kernel, ?_⟩
  refine ⟨by show 4 ≤ 100000; decide, _, false, rfl, by simp, by decide +kernel, ?_⟩
  refine ⟨by show 2 ≤ 100000; decide, _, false, rfl, by simp, by decide +kernel, ?_⟩
  refine ⟨true, by decide +kernel, false, by decide +kernel, by show 2 ≤ 100000; decide, ?_⟩
  refine ⟨false, by decide +kernel, false, by decide +kernel, by show 2 ≤ 100000; decide, by show 4 ≤ 100000; decide, ?_⟩
  refine ⟨false, by decide +kernel, false, by decide +kernel, by show 2 ≤ 100000; decide, by show 6 ≤ 100000; decide, ?_⟩
  refine ⟨rfl, by decide +kernel, _, [true, false, false, false, false, false], rfl, rfl, true, rfl, rfl, ?_⟩
  have e : ng true (decide (V.int ((List.count true [true, false, false, false, false, false] : Nat) : Int) = V.int 1)) = false := by decide +kernel
  rw [e]
  exact ⟨by show 6 ≤ 100000; decide, _, [true, false, false, false, false, false], rfl, rfl, true, 0, rfl, rfl, by decide, _, at_nat (i := 0) rfl, h⟩
theorem g_kind_moves (h : po (.str "moves")) : G_kind46 [.exc "InvalidMovesError" none] po xx := by
  refine ⟨by show 4 ≤ 100000; decide, _, false, rfl, by simp, by decide +kernel, ?_⟩
  refine ⟨by show 4 ≤ 100000; decide, _, false, rfl, by simp, by decide +kernel, ?_⟩
  refine ⟨by show 4 ≤ 100000; decide, _, false, rfl, by simp, by decide +kernel, ?_⟩
  refine ⟨by show 2 ≤ 100000; decide, _, false, rfl, by simp, by decide +kernel, ?_⟩
  refine ⟨false, by decide +kernel, false, by decide +kernel, by show 2 ≤ 100000; decide, ?_⟩
  refine ⟨true, by decide +kernel, false, by decide +kernel, by show 2 ≤ 100000; decide, by show 4 ≤ 100000; decide, ?_⟩
  refine ⟨false, by decide +kernel, false, by decide +kernel, by show 2 ≤ 100000; decide, by show 6 ≤ 100000; decide, ?_⟩
  refine ⟨rfl, by decide +kernel, _, [false, false, true, false, false, false], rfl, rfl, true, rfl, rfl, ?_⟩
  have e : ng true (decide (V.int ((List.count true [false, false, true, false, false, false] : Nat) : Int) = V.int 1)) = false := by decide +kernel
  rw [e]
  exact ⟨by show 6 ≤ 100000; decide, _, [false, false, true, false, false, false], rfl, rfl, true, 2, rfl, rfl, by decide, _, at_nat (i := 2) rfl, h⟩
theorem g_kind_move (h : po (.str "move")) : G_kind46 [.exc "InvalidMoveError" none] po xx := by
  refine ⟨by show 4 ≤ 100000; decide, _, false, rfl, by simp, by decide +kernel, ?_⟩
  refine ⟨by show 4 ≤ 100000; decide, _, false, rfl, by simp, by decide +kernel, ?_⟩
  refine ⟨by show 4 ≤ 100000; decide, _, false, rfl, by simp, by decide +kernel, ?_⟩
  refine ⟨by show 2 ≤ 100000; decide, _, false, rfl, by simp, by decide +kernel, ?_⟩
  refine ⟨false, by decide +kernel, true, by decide +kernel, by show 2 ≤ 100000; decide, ?_⟩
  refine ⟨false, by decide +kernel, false, by decide +kernel, by show 2 ≤ 100000; decide, by show 4 ≤ 100000; decide, ?_⟩
  refine ⟨false, by decide +kernel, false, by decide +kernel, by show 2 ≤ 100000; decide, by show 6 ≤ 100000; decide, ?_⟩
  refine ⟨rfl, by decide +kernel, _, [false, true, false, false, false, false], rfl, rfl, true, rfl, rfl, ?_⟩
  have e : ng true (decide (V.int ((List.count true [false, true, false, false, false, false] : Nat) : Int) = V.int 1)) = false := by decide +kernel
  rw [e]
  exact ⟨by show 6 ≤ 100000; decide, _, [false, true, false, false, false, false], rfl, rfl, true, 1, rfl, rfl, by decide, _, at_nat (i := 1) rfl, h⟩
abbrev N_noRow : List Str := ["source", "weights_here", "at", "odd", "some", "weight"]
def t_noRow (K : PySem.W.Frag) : TS :=
  (tSeq (tAsg (tCallS (sp_draw K) (WE W0) (tCons (tVar 0) (tCons (tCB (Evl.rLenS K) (tCons (tVar 1) tNil)) tNil))) (gName 2))
    (tSeq (tAsg (tOp (rIxL K) (tLst (tCons (tC (.int 0)) (tCons (tUn rNegI (tC (.int 1))) (tCons (tUn rNegI (tC (.int 2))) (tCons (tC .non) (tCons (tC (.bl true)) (tCons (tC (.str "1")) (tCons (tLst (tCons (tC (.int 1)) tNil)) (tCons (tTup (tCons (tC (.int 1)) tNil)) (tCons tDNewK (tCons (tOp rSubI (tC (.int 0)) (tOp rPowI (tC (.int 10)) (tC (.int 30)))) tNil))))))))))) (tCallS (sp_draw K) (WE W0) (tCons (tVar 0) (tCons (tC (.int 10)) tNil)))) (gName 3))
    (tSeq (tAsg (tLst (tCons (tOp (rCatQ K) (tOp (rCatQ K) (tSl (rSlL K) (tVar 1) tNoPart (tPart (tVar 2))) (tLst (tCons (tVar 3) tNil))) (tSl (rSlL K) (tVar 1) (tPart (tOp rAddI (tVar 2) (tC (.int 1)))) tNoPart)) tNil)) (gName 4))
    (tSeq (tDrop (tBM K "list" rAppend (tVar 4) (tCons (tLc (iList K (tVar 1)) (gName 5) tYes (tOp rMulI (tC (.int 2)) (tVar 5)) [5]) tNil)))
    (tSeq (tAsg (tOp (rCatQ K) (tVar 4) (tLst (tCons (tCB (rTupS K) (tCons (tVar 1) tNil)) (tCons (tSl (rSlL K) (tVar 1) tNoPart (tPart (tC (.int 1)))) (tCons (tLst tNil) (tCons (tOp rRep (tLst (tCons (tC (.int 1)) tNil)) (tC (.int 9))) (tCons (tOp rRep (tLst (tCons (tC (.int 1)) tNil)) (tC (.int 400))) (tCons (tC .non) (tCons (tC (.int 0)) (tCons (tC (.str "")) tNil)))))))))) (gName 4))
    (tSeq (tAsg (tOp (rCatQ K) (tVar 4) (tLst (tCons tDNewK (tCons (tLst (tCons (tVar 1) tNil)) tNil)))) (gName 4))
    (tRet (tOp (rIxL K) (tVar 4) (tOp (rIxL K) (tLst (tCons (tCallS (sp_draw K) (WE W0) (tCons (tVar 0) (tCons (tC (.int 12)) tNil))) (tCons (tC (.int 0)) (tCons (tC (.int 1)) tNil)))) (tCallS (sp_draw K) (WE W0) (tCons (tVar 0) (tCons (tC (.int 3)) tNil))))))))))))
def p_noRow : PS' :=
  (kSeq (kAsgD 2 (pCallS 0 1 G_draw (pCons (pCB pLen (pCons (pV 1) pNil)) pNil)))
    (kSeq (kAsgD 3 (pOp pIxL (pLst (pCons (pC (.int 0)) (pCons (pUn pNeg (pC (.int 1))) (pCons (pUn pNeg (pC (.int 2))) (pCons (pC .non) (pCons (pC (.bl true)) (pCons (pC (.str "1")) (pCons (pLst (pCons (pC (.int 1)) pNil)) (pCons (pTup (pCons (pC (.int 1)) pNil)) (pCons pDict (pCons (pOp pSub (pC (.int 0)) (pOp pPow (pC (.int 10)) (pC (.int 30)))) pNil))))))))))) (pCallS 0 1 G_draw (pCons (pC (.int 10)) pNil))))
    (kSeq (kAsgF 4 (pLst (pCons (pOp pCat (pOp pCat (pSl fSlL (pV 1) oNo (oSome (pV 2))) (pLst (pCons (pV 3) pNil))) (pSl fSlL (pV 1) (oSome (pOp pAdd (pV 2) (pC (.int 1)))) oNo)) pNil)))
    (kSeq (kApp 4 (pLc (pwL (pV 1)) (gvN 5) qYes (pOp pMul (pC (.int 2)) (pV 5)) [5]))
    (kSeq (kAsgF 4 (pOp pCat (pVb 4) (pLst (pCons (pTupOf (pV 1)) (pCons (pSl fSlL (pV 1) oNo (oSome (pC (.int 1)))) (pCons (pLst pNil) (pCons (pOp pRep (pLst (pCons (pC (.int 1)) pNil)) (pC (.int 9))) (pCons (pOp pRep (pLst (pCons (pC (.int 1)) pNil)) (pC (.int 400))) (pCons (pC .non) (pCons (pC (.int 0)) (pCons (pC (.str "")) pNil)))))))))))
    (kSeq (kAsgF 4 (pOp pCat (pVb 4) (pLst (pCons pDict (pCons (pLst (pCons (pV 1) pNil)) pNil)))))
    (kRet (pOp pIxL (pVb 4) (pOp pIxL (pLst (pCons (pCallS 0 1 G_draw (pCons (pC (.int 12)) pNil)) (pCons (pC (.int 0)) (pCons (pC (.int 1)) pNil)))) (pCallS 0 1 G_draw (pCons (pC (.int 3)) pNil)))))))))))
def G_noRow : GD := Gof0 p_noRow true 4
def sp_noRow (K : PySem.W.Frag) : Sp := spD (gx K) 1 true .e 4 G_noRow
theorem ss_noRow {K : PySem.W.Frag} : SS (gx K) W0 .e 4 (t_noRow K) p_noRow := by
  unfold t_noRow p_noRow
  exact SS.mono ((ss_seq (ss_asgD ((sx_callSE (i := 0) (.inr rfl) (sa_ce ((sx_cb (sa_ct (sx_v).et sa_nil) oa_len)).fe sa_nil))).fe)
    (ss_seq (ss_asgD (sx_ixL ((sx_lst (sa_ce (sx_int).fe (sa_ce ((sx_un (sx_int).ft ou_neg)).fe (sa_ce ((sx_un (sx_int).ft ou_neg)).fe (sa_ce (sx_non).fe (sa_ce (sx_bl).fe (sa_ce (sx_str).fe (sa_ce ((sx_lst (sa_ce (sx_int).fe sa_nil))).fe (sa_ce (sx_tup (sa_ce (sx_int).fe sa_nil)) (sa_ce sx_dict (sa_ce ((sx_op (sx_int).ft ((sx_op (sx_int).ft (sx_int).ft os_pow)).ft os_sub)).fe sa_nil)))))))))))).fb ((sx_callSE (i := 0) (.inr rfl) (sa_ce (sx_int).fe sa_nil))).ft))
    (ss_seq (ss_asgF (sx_lst (sa_ce ((sx_cat ((sx_cat ((sx_slL (sx_v).eb so_none (so_some (sx_v).et))).fb ((sx_lst (sa_ce sx_v sa_nil))).fb)).fb ((sx_slL (sx_v).eb (so_some ((sx_op (sx_v).et (sx_int).ft os_add)).ft) so_none)).fb)).fe sa_nil)))
    (ss_seq (ss_app (i := 4) ((sx_lc (vs := [5]) (sw_list (md := .b) (.inr rfl) (sx_v).eb) sg_name (by decide) sb_yes ((sx_op (sx_int).ft (sx_v).et os_mul)).fe)).fe)
    (ss_seq (ss_asgF (sx_cat sx_vb ((sx_lst (sa_ce (sx_tupOf (sx_v).eb) (sa_ce ((sx_slL (sx_v).eb so_none (so_some (sx_int).ft))).fe (sa_ce ((sx_lst sa_nil)).fe (sa_ce ((sx_rep ((sx_lst (sa_ce (sx_int).fe sa_nil))).fb (sx_int).ft)).fe (sa_ce ((sx_rep ((sx_lst (sa_ce (sx_int).fe sa_nil))).fb (sx_int).ft)).fe (sa_ce (sx_non).fe (sa_ce (sx_int).fe (sa_ce (sx_str).fe sa_nil)))))))))).fb))
    (ss_seq (ss_asgF (sx_cat sx_vb ((sx_lst (sa_ce sx_dict (sa_ce ((sx_lst (sa_ce sx_v sa_nil))).fe sa_nil)))).fb))
    (ss_retE (sx_ixL sx_vb ((sx_ixL ((sx_lst (sa_ce ((sx_callSE (i := 0) (.inr rfl) (sa_ce (sx_int).fe sa_nil))).fe (sa_ce (sx_int).fe (sa_ce (sx_int).fe sa_nil))))).fb ((sx_callSE (i := 0) (.inr rfl) (sa_ce (sx_int).fe sa_nil))).ft)).et))))))))) (by decide +kernel)
theorem ln_noRow {K : PySem.W.Frag} {vs : List V} {H : Hp} {Q : VK} {E : XK} (h : sp_noRow K vs H Q E) : vs.length = (["source", "weights_here"] : List Str).length := spD_len h
theorem rd_noRow {K : PySem.W.Frag} {vs : List V} {H : Hp} {Q : VK} {E : XK} (h : sp_noRow K vs H Q E) : t_noRow K (fin Q) (L2.start N_noRow vs) H := rd_def0 ss_noRow (.inl rfl) (by decide +kernel) h
theorem g_noRow {ns : List Int} (hR : IsRow ns) (hz : Sz 120 ns) (h : ∀ d, NoRs d → po d) : G_noRow [dI ns] po xx := by
  have h2 := hR.lo
  have h8 := hR.hi
  have c30 := c10 30 (by decide) (by decide)
  refine ⟨trivial, _, len_dN ns, rfl, g_draw (by omega) (by omega) fun at' a0 a1 => ?_⟩
  refine ⟨by show 1 ≤ 100000; decide, by show 1 ≤ 100000; decide, c30, by show 10 ≤ 100000; decide, trivial, rfl, g_draw (by decide) (by decide) fun o o0 o1 => ?_⟩
  obtain ⟨odd, ho, ⟨q1, q2, q3⟩, qs⟩ := pickN (R := fun d => (d.tv = true ∧ wB d = false ∧ ∀ i, d = .int i → i.natAbs < 2 ^ 121) ∧ Shs 4600 1 d) (ds := [.int 0, .int (-1), .int (-2), .non, .bl true, .str "1", .lst [.int 1], .tup [.int 1], .emp, .int (0 - 10 ^ (Int.toNat 30))]) o0 o1 (fun d hd => by
    simp only [List.mem_cons, List.mem_nil_iff, or_false] at hd
    rcases hd with rfl | rfl | rfl | rfl | rfl | rfl | rfl | rfl | rfl | rfl
    · exact ⟨⟨rfl, by decide, fun i e => by cases e; decide⟩, p0.2.mono (by decide) (by decide)⟩
    · exact ⟨⟨rfl, by decide, fun i e => by cases e; decide⟩, (pt_int (by decide)).2.mono (by decide) (by decide)⟩
    · exact ⟨⟨rfl, by decide, fun i e => by cases e; decide⟩, (pt_int (by decide)).2.mono (by decide) (by decide)⟩
    · exact ⟨⟨rfl, rfl, fun i e => by cases e⟩, pt_non.2.mono (by decide) (by decide)⟩
    · exact ⟨⟨rfl, rfl, fun i e => by cases e⟩, (pt_bl _).2.mono (by decide) (by decide)⟩
    · exact ⟨⟨rfl, rfl, fun i e => by cases e⟩, (pt_str (by decide +kernel)).2.mono (by decide) (by decide)⟩
    · exact ⟨⟨rfl, rfl, fun i e => by cases e⟩, (shs_lst (n := 100) (dp := 0) (ds := [.int 1]) fun d hd => by rw [List.mem_singleton.mp hd]; exact shs_i (by decide)).mono (by show 1 * 102 + 3 ≤ 4600; decide) (by decide)⟩
    · exact ⟨⟨rfl, rfl, fun i e => by cases e⟩, (shs_tup (n := 100) (dp := 0) (ds := [.int 1]) fun d hd => by rw [List.mem_singleton.mp hd]; exact shs_i (by decide)).mono (by show 1 * 102 + 3 ≤ 4600; decide) (by decide)⟩
    · exact ⟨⟨rfl, rfl, fun i e => by cases e⟩, pt_emp.2.mono (by decide) (by decide)⟩
    · exact ⟨⟨rfl, by decide, fun i e => by cases e; decide⟩, (pt_int (by decide)).2.mono (by decide) (by decide)⟩)
  refine ⟨odd, ho, ?_⟩
  have cl : ∀ a b : Option Int, (cutD (ns.map D.int) a b).length ≤ 8 := fun a b => Nat.le_trans (cut_le _ _ _) (by rw [List.length_map]; exact h8)
  refine ⟨by show 1 ≤ 100000; decide, ?_, ?_, by show 1 ≤ 100000; decide, ?_⟩
  · have := cl none (some at')
    show (cutD (ns.map D.int) none (some at')).length + 1 ≤ 100000
    omega
  · have e1 := cl none (some at')
    have e2 := cl (some (at' + 1)) none
    show (cutD (ns.map D.int) none (some at') ++ [odd]).length + (cutD (ns.map D.int) (some (at' + 1)) none).length ≤ 100000
    rw [List.length_append]
    show _ + 1 + _ ≤ _
    omega
  obtain ⟨d0, hd0⟩ : ∃ d0, D.lst (cutD (ns.map D.int) none (some at') ++ [odd] ++ cutD (ns.map D.int) (some (at' + 1)) none) = d0 := ⟨_, rfl⟩
  have n0 : NoRs d0 := by rw [← hd0]; exact nrs_odd q1 q2 q3 qs hz h8
  show kSeq _ _ _ [_, _, _, _, some (.o [D.lst (cutD (ns.map D.int) none (some at') ++ [odd] ++ cutD (ns.map D.int) (some (at' + 1)) none)]), _]
  rw [hd0]
  refine lc_map (ds := ns.map D.int) (fun d => match d with | .int i => .int (2 * i) | d => d) rfl (fun q h => h) (by rw [List.length_map]; omega) (fun d hd => ?_) ?_
  · obtain ⟨i, hi, rfl⟩ := List.mem_map.mp hd
    exact ⟨_, rfl, fun q hq => ⟨mul_sm (a := 2) (b := 120) (by decide) (hz i hi) (by decide), hq⟩⟩
  · have e : dI (ns.map fun x => 2 * x) = .lst ((ns.map D.int).map fun d => match d with | .int i => .int (2 * i) | d => d) := by
      unfold dI
      rw [List.map_map, List.map_map]; rfl
    rw [← e]
    refine ⟨by show 1 < 100000; decide, ?_⟩
    refine ⟨_, rfl, by show 0 ≤ 100000; decide, by show 1 ≤ 100000; decide, ⟨by decide, by decide, by decide⟩, by show 1 ≤ 100000; decide, ⟨by decide, by decide, by decide⟩, by show 8 ≤ 100000; decide, by show 10 ≤ 100000; decide, ?_⟩
    refine ⟨by show 1 ≤ 100000; decide, by show 2 ≤ 100000; decide, by show 12 ≤ 100000; decide, ?_⟩
    refine ⟨trivial, rfl, g_draw (by decide) (by decide) fun x0 p0 p1 => ⟨by show 3 ≤ 100000; decide, trivial, rfl, g_draw (by decide) (by decide) fun x1 r0 r1 => ?_⟩⟩
    obtain ⟨w, hw, i, rfl, i0, i1⟩ := pickN (R := inIN 0 11) (ds := [.int x0, .int 0, .int 1]) r0 r1 (fun d hd => by
      simp only [List.mem_cons, List.mem_nil_iff, or_false] at hd
      rcases hd with rfl | rfl | rfl
      · exact ⟨_, rfl, by omega, by omega⟩
      · exact ⟨_, rfl, by decide, by decide⟩
      · exact ⟨_, rfl, by decide, by decide⟩)
    refine ⟨_, hw, ?_⟩
    obtain ⟨r, hr, nr⟩ := pickN (R := NoRs) (ds := [d0, dI (ns.map fun x => 2 * x), .tup (ns.map D.int), .lst (cutD (ns.map D.int) none (some 1)), .lst [], .lst (repD (Int.toNat 9) [.int 1]), .lst (repD (Int.toNat 400) [.int 1]), .non, .int 0, .str "", .emp, .lst [dI ns]]) i0 (by show i < 12; omega) (fun d hd => by
      simp only [List.mem_cons, List.mem_nil_iff, or_false] at hd
      rcases hd with rfl | rfl | rfl | rfl | rfl | rfl | rfl | rfl | rfl | rfl | rfl | rfl
      · exact n0
      · exact nrs_two hz hR.one h8
      · exact nrs_flat rfl (fun ds e => by cases e) (fun l e => by cases e) ((shs_tup (n := 4400) (dp := 0) fun d hd => by
          obtain ⟨i, hi, rfl⟩ := List.mem_map.mp hd
          exact shs_int (hz i hi) (by decide)).mono (by rw [List.length_map]; omega) (by decide))
      · have e1 : cutD (ns.map D.int) none (some 1) = (ns.take 1).map D.int := by rw [show (1 : Int) = ((1 : Nat) : Int) from rfl, cut_toD, List.map_take]
        rw [e1]
        exact nrs_ints (fun x hx => Nat.lt_trans (hz x (List.mem_of_mem_take hx)) (by decide)) (by rw [List.length_take, Nat.min_eq_left (by omega)]; rfl) (by rw [List.length_take]; omega)
      · exact nrs_ints (ns := []) (fun x hx => by cases hx) rfl (by decide)
      · rw [repN1]
        exact nrs_ints (fun x hx => by rw [List.eq_of_mem_replicate hx]; decide) (by rw [List.length_replicate]; rfl) (by rw [List.length_replicate]; decide)
      · rw [repN1]
        exact nrs_ints (fun x hx => by rw [List.eq_of_mem_replicate hx]; decide) (by rw [List.length_replicate]; rfl) (by rw [List.length_replicate]; decide)
      · exact nrs_flat rfl (fun ds e => by cases e) (fun l e => by cases e) (pt_non.2.mono (by decide) (by decide))
      · exact nrs_flat rfl (fun ds e => by cases e) (fun l e => by cases e) ((pt_int (i := 0) (by decide)).2.mono (by decide) (by decide))
      · exact nrs_flat rfl (fun ds e => by cases e) (fun l e => by cases e) ((pt_str (by decide +kernel)).2.mono (by decide) (by decide))
      · exact nrs_flat rfl (fun ds e => by cases e) (fun l e => by cases e) (pt_emp.2.mono (by decide) (by decide))
      · refine ⟨⟨⟨rfl, fun l e => (by cases e), fun ds e x hx => ?_, fun vs e => ?_⟩, isRowD_lst (.inr rfl)⟩, (shs_lst (n := 9 * 4402 + 3) (dp := 1) (ds := [dI ns]) fun d hd => by rw [List.mem_singleton.mp hd]; exact (shs_ints (l := 9) (fun x hx => Nat.lt_trans (hz x hx) (by decide)) (by omega))).mono (by show 1 * (9 * 4402 + 3 + 2) + 3 ≤ 2000000; decide) (by decide)⟩
        · injection e with e
          subst e
          rw [List.mem_singleton.mp hx]; rfl
        · unfold dI at e
          injection e with e
          cases vs with
          | nil => cases e
          | cons x r => cases e)
    exact ⟨r, hr, h r nr⟩
abbrev N_noMove : List Str := ["source", "width", "odd"]
def t_noMove (K : PySem.W.Frag) : TS :=
  (tSeq (tAsg (tLst (tCons (tTup (tCons (tVar 1) (tCons (tC (.int 1)) (tCons (tC (.int 2)) tNil)))) (tCons (tTup (tCons (tUn rNegI (tC (.int 1))) (tCons (tC (.int 1)) (tCons (tC (.int 2)) tNil)))) (tCons (tTup (tCons (tUn rNegI (tC (.int 2))) (tCons (tC (.int 1)) (tCons (tC (.int 2)) tNil)))) (tCons (tTup (tCons (tC (.int 0)) (tCons (tC (.int 0)) (tCons (tC (.int 1)) tNil)))) (tCons (tTup (tCons (tC (.int 0)) (tCons (tC (.int 1)) (tCons (tC (.int 1)) tNil)))) (tCons (tTup (tCons (tC (.int 0)) (tCons (tC (.int 2)) (tCons (tC (.int 1)) tNil)))) (tCons (tTup (tCons (tC (.int 0)) (tCons (tC (.int 2)) (tCons (tC (.int 4)) tNil)))) (tCons (tTup (tCons (tC (.int 0)) (tCons (tUn rNegI (tC (.int 1))) (tCons (tC (.int 2)) tNil)))) (tCons (tTup (tCons (tC (.int 0)) (tCons (tC (.int 1)) (tCons (tUn rNegI (tC (.int 2))) tNil)))) tNil)))))))))) (gName 2))
    (tSeq (tAsg (tOp (rCatQ K) (tVar 2) (tLst (tCons (tTup (tCons (tC (.int 0)) (tCons (tC (.int 1)) tNil))) (tCons (tTup (tCons (tC (.int 0)) (tCons (tC (.int 1)) (tCons (tC (.int 2)) (tCons (tC (.int 3)) tNil))))) (tCons (tLst (tCons (tC (.int 0)) (tCons (tC (.int 1)) (tCons (tC (.int 2)) tNil)))) (tCons (tTup (tCons (tC (.bl true)) (tCons (tC (.int 1)) (tCons (tC (.int 2)) tNil)))) (tCons (tTup (tCons (tC (.int 0)) (tCons (tC (.bl true)) (tCons (tC (.int 2)) tNil)))) (tCons (tTup (tCons (tC (.int 0)) (tCons (tC (.int 1)) (tCons (tC (.bl true)) tNil)))) (tCons (tTup (tCons (tC .non) (tCons (tC (.int 1)) (tCons (tC (.int 2)) tNil)))) (tCons (tTup (tCons (tC (.str "0")) (tCons (tC (.int 1)) (tCons (tC (.int 2)) tNil)))) tNil)))))))))) (gName 2))
    (tSeq (tAsg (tOp (rCatQ K) (tVar 2) (tLst (tCons (tTup (tCons (tLst (tCons (tC (.int 0)) tNil)) (tCons (tC (.int 1)) (tCons (tC (.int 2)) tNil)))) (tCons (tTup (tCons (tC (.int 0)) (tCons tDNewK (tCons (tC (.int 2)) tNil)))) (tCons (tTup (tCons (tC (.int 0)) (tCons (tC (.int 1)) (tCons (tC .non) tNil)))) (tCons (tC .non) (tCons (tC (.int 0)) (tCons (tC (.str "")) (tCons (tTup tNil) (tCons (tTup (tCons (tC (.int 8)) (tCons (tC (.int 1)) (tCons (tC (.int 2)) tNil)))) (tCons (tTup (tCons (tC (.int 0)) (tCons (tOp rPowI (tC (.int 10)) (tC (.int 30))) (tCons (tOp rPowI (tC (.int 10)) (tC (.int 30))) tNil)))) tNil))))))))))) (gName 2))
    (tRet (tOp (rIxL K) (tVar 2) (tCallS (sp_draw K) (WE W0) (tCons (tVar 0) (tCons (tC (.int 26)) tNil))))))))
def p_noMove : PS' :=
  (kSeq (kAsgD 2 (pLst (pCons (pTup (pCons (pV 1) (pCons (pC (.int 1)) (pCons (pC (.int 2)) pNil)))) (pCons (pTup (pCons (pUn pNeg (pC (.int 1))) (pCons (pC (.int 1)) (pCons (pC (.int 2)) pNil)))) (pCons (pTup (pCons (pUn pNeg (pC (.int 2))) (pCons (pC (.int 1)) (pCons (pC (.int 2)) pNil)))) (pCons (pTup (pCons (pC (.int 0)) (pCons (pC (.int 0)) (pCons (pC (.int 1)) pNil)))) (pCons (pTup (pCons (pC (.int 0)) (pCons (pC (.int 1)) (pCons (pC (.int 1)) pNil)))) (pCons (pTup (pCons (pC (.int 0)) (pCons (pC (.int 2)) (pCons (pC (.int 1)) pNil)))) (pCons (pTup (pCons (pC (.int 0)) (pCons (pC (.int 2)) (pCons (pC (.int 4)) pNil)))) (pCons (pTup (pCons (pC (.int 0)) (pCons (pUn pNeg (pC (.int 1))) (pCons (pC (.int 2)) pNil)))) (pCons (pTup (pCons (pC (.int 0)) (pCons (pC (.int 1)) (pCons (pUn pNeg (pC (.int 2))) pNil)))) pNil)))))))))))
    (kSeq (kAsgD 2 (pOp pCat (pV 2) (pLst (pCons (pTup (pCons (pC (.int 0)) (pCons (pC (.int 1)) pNil))) (pCons (pTup (pCons (pC (.int 0)) (pCons (pC (.int 1)) (pCons (pC (.int 2)) (pCons (pC (.int 3)) pNil))))) (pCons (pLst (pCons (pC (.int 0)) (pCons (pC (.int 1)) (pCons (pC (.int 2)) pNil)))) (pCons (pTup (pCons (pC (.bl true)) (pCons (pC (.int 1)) (pCons (pC (.int 2)) pNil)))) (pCons (pTup (pCons (pC (.int 0)) (pCons (pC (.bl true)) (pCons (pC (.int 2)) pNil)))) (pCons (pTup (pCons (pC (.int 0)) (pCons (pC (.int 1)) (pCons (pC (.bl true)) pNil)))) (pCons (pTup (pCons (pC .non) (pCons (pC (.int 1)) (pCons (pC (.int 2)) pNil)))) (pCons (pTup (pCons (pC (.str "0")) (pCons (pC (.int 1)) (pCons (pC (.int 2)) pNil)))) pNil)))))))))))
    (kSeq (kAsgD 2 (pOp pCat (pV 2) (pLst (pCons (pTup (pCons (pLst (pCons (pC (.int 0)) pNil)) (pCons (pC (.int 1)) (pCons (pC (.int 2)) pNil)))) (pCons (pTup (pCons (pC (.int 0)) (pCons pDict (pCons (pC (.int 2)) pNil)))) (pCons (pTup (pCons (pC (.int 0)) (pCons (pC (.int 1)) (pCons (pC .non) pNil)))) (pCons (pC .non) (pCons (pC (.int 0)) (pCons (pC (.str "")) (pCons (pTup pNil) (pCons (pTup (pCons (pC (.int 8)) (pCons (pC (.int 1)) (pCons (pC (.int 2)) pNil)))) (pCons (pTup (pCons (pC (.int 0)) (pCons (pOp pPow (pC (.int 10)) (pC (.int 30))) (pCons (pOp pPow (pC (.int 10)) (pC (.int 30))) pNil)))) pNil))))))))))))
    (kRet (pOp pIxL (pV 2) (pCallS 0 1 G_draw (pCons (pC (.int 26)) pNil)))))))
def G_noMove : GD := Gof0 p_noMove true 1
def sp_noMove (K : PySem.W.Frag) : Sp := spD (gx K) 1 true .e 1 G_noMove
theorem ss_noMove {K : PySem.W.Frag} : SS (gx K) W0 .e 1 (t_noMove K) p_noMove := by
  unfold t_noMove p_noMove
  exact SS.mono ((ss_seq (ss_asgD ((sx_lst (sa_ce (sx_tup (sa_ce sx_v (sa_ce (sx_int).fe (sa_ce (sx_int).fe sa_nil)))) (sa_ce (sx_tup (sa_ce ((sx_un (sx_int).ft ou_neg)).fe (sa_ce (sx_int).fe (sa_ce (sx_int).fe sa_nil)))) (sa_ce (sx_tup (sa_ce ((sx_un (sx_int).ft ou_neg)).fe (sa_ce (sx_int).fe (sa_ce (sx_int).fe sa_nil)))) (sa_ce (sx_tup (sa_ce (sx_int).fe (sa_ce (sx_int).fe (sa_ce (sx_int).fe sa_nil)))) (sa_ce (sx_tup (sa_ce (sx_int).fe (sa_ce (sx_int).fe (sa_ce (sx_int).fe sa_nil)))) (sa_ce (sx_tup (sa_ce (sx_int).fe (sa_ce (sx_int).fe (sa_ce (sx_int).fe sa_nil)))) (sa_ce (sx_tup (sa_ce (sx_int).fe (sa_ce (sx_int).fe (sa_ce (sx_int).fe sa_nil)))) (sa_ce (sx_tup (sa_ce (sx_int).fe (sa_ce ((sx_un (sx_int).ft ou_neg)).fe (sa_ce (sx_int).fe sa_nil)))) (sa_ce (sx_tup (sa_ce (sx_int).fe (sa_ce (sx_int).fe (sa_ce ((sx_un (sx_int).ft ou_neg)).fe sa_nil)))) sa_nil))))))))))).fe)
    (ss_seq (ss_asgD ((sx_cat (sx_v).eb ((sx_lst (sa_ce (sx_tup (sa_ce (sx_int).fe (sa_ce (sx_int).fe sa_nil))) (sa_ce (sx_tup (sa_ce (sx_int).fe (sa_ce (sx_int).fe (sa_ce (sx_int).fe (sa_ce (sx_int).fe sa_nil))))) (sa_ce ((sx_lst (sa_ce (sx_int).fe (sa_ce (sx_int).fe (sa_ce (sx_int).fe sa_nil))))).fe (sa_ce (sx_tup (sa_ce (sx_bl).fe (sa_ce (sx_int).fe (sa_ce (sx_int).fe sa_nil)))) (sa_ce (sx_tup (sa_ce (sx_int).fe (sa_ce (sx_bl).fe (sa_ce (sx_int).fe sa_nil)))) (sa_ce (sx_tup (sa_ce (sx_int).fe (sa_ce (sx_int).fe (sa_ce (sx_bl).fe sa_nil)))) (sa_ce (sx_tup (sa_ce (sx_non).fe (sa_ce (sx_int).fe (sa_ce (sx_int).fe sa_nil)))) (sa_ce (sx_tup (sa_ce (sx_str).fe (sa_ce (sx_int).fe (sa_ce (sx_int).fe sa_nil)))) sa_nil)))))))))).fb)).fe)
    (ss_seq (ss_asgD ((sx_cat (sx_v).eb ((sx_lst (sa_ce (sx_tup (sa_ce ((sx_lst (sa_ce (sx_int).fe sa_nil))).fe (sa_ce (sx_int).fe (sa_ce (sx_int).fe sa_nil)))) (sa_ce (sx_tup (sa_ce (sx_int).fe (sa_ce sx_dict (sa_ce (sx_int).fe sa_nil)))) (sa_ce (sx_tup (sa_ce (sx_int).fe (sa_ce (sx_int).fe (sa_ce (sx_non).fe sa_nil)))) (sa_ce (sx_non).fe (sa_ce (sx_int).fe (sa_ce (sx_str).fe (sa_ce (sx_tup sa_nil) (sa_ce (sx_tup (sa_ce (sx_int).fe (sa_ce (sx_int).fe (sa_ce (sx_int).fe sa_nil)))) (sa_ce (sx_tup (sa_ce (sx_int).fe (sa_ce ((sx_op (sx_int).ft (sx_int).ft os_pow)).fe (sa_ce ((sx_op (sx_int).ft (sx_int).ft os_pow)).fe sa_nil)))) sa_nil))))))))))).fb)).fe)
    (ss_retE (sx_ixL (sx_v).eb ((sx_callSE (i := 0) (.inr rfl) (sa_ce (sx_int).fe sa_nil))).ft)))))) (by decide +kernel)
theorem ln_noMove {K : PySem.W.Frag} {vs : List V} {H : Hp} {Q : VK} {E : XK} (h : sp_noMove K vs H Q E) : vs.length = (["source", "width"] : List Str).length := spD_len h
theorem rd_noMove {K : PySem.W.Frag} {vs : List V} {H : Hp} {Q : VK} {E : XK} (h : sp_noMove K vs H Q E) : t_noMove K (fin Q) (L2.start N_noMove vs) H := rd_def0 ss_noMove (.inl rfl) (by decide +kernel) h
abbrev N_noMoves : List Str := ["source", "width", "deeds", "at", "odd", "some"]
def t_noMoves (K : PySem.W.Frag) : TS :=
  (tSeq (tPar 3 4 (tCons (tCallS (sp_draw K) (WE W0) (tCons (tVar 0) (tCons (tOp rAddI (tCB (Evl.rLenS K) (tCons (tVar 2) tNil)) (tC (.int 1))) tNil))) (tCons (tCallS (sp_noMove K) (WE W0) (tCons (tVar 0) (tCons (tVar 1) tNil))) tNil)))
    (tSeq (tAsg (tLst (tCons (tOp (rCatQ K) (tOp (rCatQ K) (tSl (rSlL K) (tVar 2) tNoPart (tPart (tVar 3))) (tLst (tCons (tVar 4) tNil))) (tSl (rSlL K) (tVar 2) (tPart (tVar 3)) tNoPart)) (tCons (tCB (rTupS K) (tCons (tVar 2) tNil)) (tCons (tC .non) (tCons (tC (.int 0)) (tCons (tC (.str "")) (tCons tDNewK (tCons (tLst (tCons (tVar 2) tNil)) (tCons (tOp rRep (tLst (tCons (tTup (tCons (tC (.int 0)) (tCons (tC (.int 1)) (tCons (tC (.int 2)) tNil)))) tNil)) (tC (.int 41))) (tCons (tOp rRep (tLst (tCons (tVar 4) tNil)) (tC (.int 400))) tNil)))))))))) (gName 5))
    (tRet (tOp (rIxL K) (tVar 5) (tOp (rIxL K) (tLst (tCons (tCallS (sp_draw K) (WE W0) (tCons (tVar 0) (tCons (tC (.int 9)) tNil))) (tCons (tC (.int 0)) tNil))) (tCallS (sp_draw K) (WE W0) (tCons (tVar 0) (tCons (tC (.int 2)) tNil))))))))
def p_noMoves : PS' :=
  (kSeq (kPar 3 4 (pCallS 0 1 G_draw (pCons (pOp pAdd (pCB pLen (pCons (pV 2) pNil)) (pC (.int 1))) pNil)) (pCallS 0 1 G_noMove (pCons (pV 1) pNil)) (stW .e) (stW .e))
    (kSeq (kAsgD 5 (pLst (pCons (pOp pCat (pOp pCat (pSl fSlL (pV 2) oNo (oSome (pV 3))) (pLst (pCons (pV 4) pNil))) (pSl fSlL (pV 2) (oSome (pV 3)) oNo)) (pCons (pTupOf (pV 2)) (pCons (pC .non) (pCons (pC (.int 0)) (pCons (pC (.str "")) (pCons pDict (pCons (pLst (pCons (pV 2) pNil)) (pCons (pOp pRep (pLst (pCons (pTup (pCons (pC (.int 0)) (pCons (pC (.int 1)) (pCons (pC (.int 2)) pNil)))) pNil)) (pC (.int 41))) (pCons (pOp pRep (pLst (pCons (pV 4) pNil)) (pC (.int 400))) pNil)))))))))))
    (kRet (pOp pIxL (pV 5) (pOp pIxL (pLst (pCons (pCallS 0 1 G_draw (pCons (pC (.int 9)) pNil)) (pCons (pC (.int 0)) pNil))) (pCallS 0 1 G_draw (pCons (pC (.int 2)) pNil)))))))
def G_noMoves : GD := Gof0 p_noMoves true 3
def sp_noMoves (K : PySem.W.Frag) : Sp := spD (gx K) 2 true .e 4 G_noMoves
theorem ss_noMoves {K : PySem.W.Frag} : SS (gx K) W0 .e 4 (t_noMoves K) p_noMoves := by
  unfold t_noMoves p_noMoves
  exact SS.mono ((ss_seq (ss_par (by decide) (.inl rfl) (.inl rfl) ((sx_callSE (i := 0) (.inr rfl) (sa_ce ((sx_op ((sx_cb (sa_ct (sx_v).et sa_nil) oa_len)).ft (sx_int).ft os_add)).fe sa_nil))).fe (sx_callSE (i := 0) (.inl rfl) (sa_ce sx_v sa_nil)))
    (ss_seq (ss_asgD ((sx_lst (sa_ce ((sx_cat ((sx_cat ((sx_slL (sx_v).eb so_none (so_some (sx_v).et))).fb ((sx_lst (sa_ce sx_v sa_nil))).fb)).fb ((sx_slL (sx_v).eb (so_some (sx_v).et) so_none)).fb)).fe (sa_ce (sx_tupOf (sx_v).eb) (sa_ce (sx_non).fe (sa_ce (sx_int).fe (sa_ce (sx_str).fe (sa_ce sx_dict (sa_ce ((sx_lst (sa_ce sx_v sa_nil))).fe (sa_ce ((sx_rep ((sx_lst (sa_ce (sx_tup (sa_ce (sx_int).fe (sa_ce (sx_int).fe (sa_ce (sx_int).fe sa_nil)))) sa_nil))).fb (sx_int).ft)).fe (sa_ce ((sx_rep ((sx_lst (sa_ce sx_v sa_nil))).fb (sx_int).ft)).fe sa_nil))))))))))).fe)
    (ss_retE (sx_ixL (sx_v).eb ((sx_ixL ((sx_lst (sa_ce ((sx_callSE (i := 0) (.inr rfl) (sa_ce (sx_int).fe sa_nil))).fe (sa_ce (sx_int).fe sa_nil)))).fb ((sx_callSE (i := 0) (.inr rfl) (sa_ce (sx_int).fe sa_nil))).ft)).et))))) (by decide +kernel)
theorem ln_noMoves {K : PySem.W.Frag} {vs : List V} {H : Hp} {Q : VK} {E : XK} (h : sp_noMoves K vs H Q E) : vs.length = (["source", "width", "deeds"] : List Str).length := spD_len h
theorem rd_noMoves {K : PySem.W.Frag} {vs : List V} {H : Hp} {Q : VK} {E : XK} (h : sp_noMoves K vs H Q E) : t_noMoves K (fin Q) (L2.start N_noMoves vs) H := rd_def0 ss_noMoves (.inl rfl) (by decide +kernel) h
def odds (n : Int) : List D := [.tup [.int n, .int 1, .int 2], .tup [.int (-1), .int 1, .int 2], .tup [.int (-2), .int 1, .int 2], .tup [.int 0, .int 0, .int 1], .tup [.int 0, .int 1, .int 1], .tup [.int 0, .int 2, .int 1], .tup [.int 0, .int 2, .int 4], .tup [.int 0, .int (-1), .int 2], .tup [.int 0, .int 1, .int (-2)],
  .tup [.int 0, .int 1], .tup [.int 0, .int 1, .int 2, .int 3], .lst [.int 0, .int 1, .int 2], .tup [.bl true, .int 1, .int 2], .tup [.int 0, .bl true, .int 2], .tup [.int 0, .int 1, .bl true], .tup [.non, .int 1, .int 2], .tup [.str "0", .int 1, .int 2],
  .tup [.lst [.int 0], .int 1, .int 2], .tup [.int 0, .emp, .int 2], .tup [.int 0, .int 1, .non], .non, .int 0, .str "", .tup [], .tup [.int 8, .int 1, .int 2], .tup [.int 0, .int (10 ^ (Int.toNat 30)), .int (10 ^ (Int.toNat 30))]]
theorem odds_no {n : Nat} (n8 : n ≤ 8) : ∀ d ∈ odds n, NoM n d := fun d hd => by
  unfold odds at hd
  simp only [List.mem_cons, List.mem_nil_iff, or_false] at hd
  rcases hd with rfl | rfl | rfl | rfl | rfl | rfl | rfl | rfl | rfl | rfl | rfl | rfl | rfl | rfl | rfl | rfl | rfl | rfl | rfl | rfl | rfl | rfl | rfl | rfl | rfl | rfl
  · exact nom_3 (by omega) (by decide) (by decide) (by rw [decide_eq_false (show ¬ ((n : Int) < (n : Int)) by omega), Bool.and_false])
  · exact nom_3 (by decide) (by decide) (by decide) (by rw [show mvB (-1) 1 2 = false by decide]; rfl)
  · exact nom_3 (by decide) (by decide) (by decide) (by rw [show mvB (-2) 1 2 = false by decide]; rfl)
  · exact nom_3 (by decide) (by decide) (by decide) (by rw [show mvB 0 0 1 = false by decide]; rfl)
  · exact nom_3 (by decide) (by decide) (by decide) (by rw [show mvB 0 1 1 = false by decide]; rfl)
  · exact nom_3 (by decide) (by decide) (by decide) (by rw [show mvB 0 2 1 = false by decide]; rfl)
  · exact nom_3 (by decide) (by decide) (by decide) (by rw [show mvB 0 2 4 = false by decide]; rfl)
  · exact nom_3 (by decide) (by decide) (by decide) (by rw [show mvB 0 (-1) 2 = false by decide]; rfl)
  · exact nom_3 (by decide) (by decide) (by decide) (by rw [show mvB 0 1 (-2) = false by decide]; rfl)
  · exact nom_len (by show 2 ≤ 4; decide) (by show 2 ≠ 3; decide) (all2 p0 p1)
  · exact nom_len (by show 4 ≤ 4; decide) (by show 4 ≠ 3; decide) (all4 p0 p1 p2 (pt_int (by decide)))
  · exact nom_l012
  · exact nom_x (pt_bl _) p1 p2 (.inl rfl)
  · exact nom_x p0 (pt_bl _) p2 (.inr (.inl rfl))
  · exact nom_x p0 p1 (pt_bl _) (.inr (.inr rfl))
  · exact nom_x pt_non p1 p2 (.inl rfl)
  · exact nom_x (pt_str (by decide +kernel)) p1 p2 (.inl rfl)
  · exact nom_x pt_l0 p1 p2 (.inl rfl)
  · exact nom_x p0 pt_emp p2 (.inr (.inl rfl))
  · exact nom_x p0 p1 pt_non (.inr (.inr rfl))
  · exact nom_flat pt_non fun ds e => by cases e
  · exact nom_flat p0 fun ds e => by cases e
  · exact nom_flat (pt_str (by decide +kernel)) fun ds e => by cases e
  · exact nom_len (by show 0 ≤ 4; decide) (by show 0 ≠ 3; decide) fun x hx => by cases hx
  · exact nom_3 (by decide) (by decide) (by decide) (by rw [show mvB 8 1 2 = false by decide]; rfl)
  · exact nom_3 (by decide) (by decide) (by decide) (by rw [show mvB 0 (10 ^ (Int.toNat 30)) (10 ^ (Int.toNat 30)) = false by decide]; rfl)
theorem g_noMove {n : Nat} (n8 : n ≤ 8) (h : ∀ d, NoM n d → po d) : G_noMove [.int (n : Int)] po xx := by
  have c30 := c10 30 (by decide) (by decide)
  have t3 : (3 : Nat) ≤ 100000 := by decide
  refine ⟨t3, t3, t3, t3, t3, t3, t3, t3, t3, by show 9 ≤ 100000; decide, ?_⟩
  refine ⟨by show 2 ≤ 100000; decide, by show 4 ≤ 100000; decide, t3, t3, t3, t3, t3, t3, by show 8 ≤ 100000; decide, by show 17 ≤ 100000; decide, ?_⟩
  refine ⟨by show 1 ≤ 100000; decide, t3, t3, t3, by show 0 ≤ 100000; decide, t3, c30, c30, t3, by show 9 ≤ 100000; decide, by show 26 ≤ 100000; decide, ?_⟩
  refine ⟨trivial, rfl, g_draw (by decide) (by decide) fun o o0 o1 => ?_⟩
  obtain ⟨d, hd, nd⟩ := pickN (R := NoM (n : Int)) (ds := odds n) o0 (by show o < 26; omega) (odds_no n8)
  exact ⟨d, hd, h d nd⟩
theorem g_noMoves {n n' j : Nat} {ms : List Mv} (n8 : n ≤ 8) (n8' : n' ≤ 8) (hj : j ≤ 110) (hl : ms.length ≤ 12) (hO : ∀ m ∈ ms, OkM n' j m) (h : ∀ d, NoMs n d → po d) : G_noMoves [.int (n : Int), dMs ms] po xx := by
  have t3 : (3 : Nat) ≤ 100000 := by decide
  have im : ∀ x ∈ ms.map dMv, It 14000 x := fun x hx => by
    obtain ⟨m, hm, rfl⟩ := List.mem_map.mp hx
    exact it_mv (hO m hm) n8' hj
  refine ⟨trivial, _, len_dM ms, rfl, g_draw (by omega) (by omega) fun at' a0 a1 => ⟨trivial, rfl, g_noMove n8 fun odd no => ?_⟩⟩
  have cl : ∀ a b : Option Int, (cutD (ms.map dMv) a b).length ≤ 12 := fun a b => Nat.le_trans (cut_le _ _ _) (by rw [List.length_map]; exact hl)
  refine ⟨by show 1 ≤ 100000; decide, ?_, ?_, _, rfl, by show 1 ≤ 100000; decide, t3, by show 1 ≤ 100000; decide, ⟨by decide, by decide, by decide⟩, by show 1 ≤ 100000; decide, ⟨by decide, by decide, by show 1 * 400 ≤ 100000; decide⟩, by show 9 ≤ 100000; decide, ?_⟩
  · have := cl none (some at')
    show (cutD (ms.map dMv) none (some at')).length + 1 ≤ 100000
    omega
  · have e1 := cl none (some at')
    have e2 := cl (some at') none
    show (cutD (ms.map dMv) none (some at') ++ [odd]).length + (cutD (ms.map dMv) (some at') none).length ≤ 100000
    rw [List.length_append]
    show _ + 1 + _ ≤ _
    omega
  refine ⟨trivial, rfl, g_draw (by decide) (by decide) fun x0 p0 p1 => ⟨by show 2 ≤ 100000; decide, trivial, rfl, g_draw (by decide) (by decide) fun x1 r0 r1 => ?_⟩⟩
  obtain ⟨w, hw, i, rfl, i0, i1⟩ := pickN (R := inIN 0 8) (ds := [.int x0, .int 0]) r0 r1 (fun d hd => by
    simp only [List.mem_cons, List.mem_nil_iff, or_false] at hd
    rcases hd with rfl | rfl
    · exact ⟨_, rfl, by omega, by omega⟩
    · exact ⟨_, rfl, by decide, by decide⟩)
  refine ⟨_, hw, ?_⟩
  obtain ⟨r, hr, nr⟩ := pickN (R := NoMs (n : Int)) (ds := [.lst (cutD (ms.map dMv) none (some at') ++ [odd] ++ cutD (ms.map dMv) (some at') none), .tup (ms.map dMv), .non, .int 0, .str "", .emp, .lst [dMs ms], .lst (repD (Int.toNat 41) [.tup [.int 0, .int 1, .int 2]]), .lst (repD (Int.toNat 400) [odd])]) i0 (by show i < 9; omega) (fun d hd => by
    simp only [List.mem_cons, List.mem_nil_iff, or_false] at hd
    rcases hd with rfl | rfl | rfl | rfl | rfl | rfl | rfl | rfl | rfl
    · refine noms_lst (N := 14000) (fun x hx => ?_) ?_ (.inr ⟨odd, by simp, no.no⟩)
      · rcases List.mem_append.mp hx with z | z
        · rcases List.mem_append.mp z with z | z
          · exact im x (cut_mem z)
          · rw [List.mem_singleton.mp z]; exact no.it (by decide)
        · exact im x (cut_mem z)
      · have e1 := cl none (some at')
        have e2 := cl (some at') none
        rw [List.length_append, List.length_append]
        show (_ + 1 + _) * 14002 + 3 ≤ _
        omega
    · refine noms_flat rfl ((shs_tup fun x hx => (im x hx).sh).mono ?_ (Nat.le_refl _)) (fun ds e => by cases e) (fun l e => by cases e)
      rw [List.length_map]
      omega
    · exact noms_flat rfl (pt_non.2.mono (by decide) (by decide)) (fun ds e => by cases e) (fun l e => by cases e)
    · exact noms_flat rfl ((pt_int (i := 0) (by decide)).2.mono (by decide) (by decide)) (fun ds e => by cases e) (fun l e => by cases e)
    · exact noms_flat rfl ((pt_str (x := "") (by decide +kernel)).2.mono (by decide) (by decide)) (fun ds e => by cases e) (fun l e => by cases e)
    · exact noms_flat rfl (pt_emp.2.mono (by decide) (by decide)) (fun ds e => by cases e) (fun l e => by cases e)
    · refine noms_lst (N := 168030) (fun x hx => ?_) (by show 1 * 168032 + 3 ≤ 1000000; decide) (.inr ⟨dMs ms, by simp, rfl⟩)
      rw [List.mem_singleton.mp hx]
      refine ⟨⟨rfl, fun ds e => by unfold dMs at e; cases e⟩, (shs_lst (n := 14000) (dp := 1) fun y hy => ?_).mono ?_ (by decide), fun m e => by unfold dMs dMv at e; cases e⟩
      · obtain ⟨m, hm, rfl⟩ := List.mem_map.mp hy
        exact shs_dMv (hO m hm) (by omega) (by omega)
      · rw [List.length_map]; omega
    · rw [rep_one]
      refine noms_lst (N := 460) (fun x hx => ?_) (by rw [List.length_replicate]; decide) (.inl (by rw [List.length_replicate]; decide))
      rw [List.eq_of_mem_replicate hx]
      exact (nom_3 (n := 0) (by decide) (by decide) (by decide) (by decide)).it (Nat.le_refl _)
    · rw [rep_one]
      refine noms_lst (N := 460) (fun x hx => ?_) (by rw [List.length_replicate]; decide) (.inl (by rw [List.length_replicate]; decide))
      rw [List.eq_of_mem_replicate hx]
      exact no.it (Nat.le_refl _))
  exact ⟨r, hr, h r nr⟩
end
end PD

set_option exponentiation.threshold 600
/-! law k40: what the program answers; the errors told -/
namespace PD
open PySem PySem.Spec PyProof.Rows L2 Evl SL
section
variable {po : D → Prop} {xx : Exn → Prop} {κ : PK} {ρ : Env}
abbrev N_check_move : List Str := ["move", "sliders"]
def t_check_move (K : PySem.W.Frag) (W : XW) : TS :=
  (tIfS (tOr (tNot (tB (tCallS (sp_is_move K) (WE W) (tCons (tVar 0) tNil)))) (tTest (tOp rGeI (tOp (rIxT K) (tVar 0) (tC (.int 0))) (tVar 1)))) (tRaise K W "InvalidMoveError") tNext)
def p_check_move : PS' :=
  (kIf (qOr (qNot (qTest (pCall 1 G_is_move (pCons (pV 0) pNil)))) (qTest (pOp pGe (pOp pIxT (pV 0) (pC (.int 0))) (pV 1)))) (kRaise "InvalidMoveError") kNext)
def G_check_move : GD := Gof p_check_move false 0
def sp_check_move (K : PySem.W.Frag) : Sp := spD (gx K) 2 false .f 0 G_check_move
theorem ss_check_move {K : PySem.W.Frag} {W : XW} : SS (gx K) W .f 0 (t_check_move K W) p_check_move := by
  unfold t_check_move p_check_move
  exact SS.mono ((ss_if (sb_or (sb_not (sb_B (sx_callE (.inr rfl) (sa_ce sx_v sa_nil)))) (sb_test (sx_op ((sx_ixT sx_v (sx_int).ft)).et (sx_v).et os_ge))) ss_raise ss_next)) (by decide +kernel)
theorem ln_check_move {K : PySem.W.Frag} {vs : List V} {H : Hp} {Q : VK} {E : XK} (h : sp_check_move K vs H Q E) : vs.length = (["move", "sliders"] : List Str).length := spD_len h
theorem rd_check_move {K : PySem.W.Frag} {vs : List V} {H : Hp} {Q : VK} {E : XK} (h : sp_check_move K vs H Q E) : t_check_move K (fun cls dd _ H => E cls dd H) (fin Q) (L2.start N_check_move vs) H := rd_def ss_check_move (.inr rfl) (by decide +kernel) h
theorem g_chkMv {n j : Nat} {d : D} (m : Mq d) (hz : ∀ mv : Mv, d = dMv mv → mv.2.2.natAbs < 2 ^ j) (h0 : ∀ mv : Mv, d = dMv mv → OkM n j mv → okMvD (n : Int) d = true → po .non) (h1 : okMvD (n : Int) d = false → xx ⟨"InvalidMoveError", none⟩) : G_check_move [d, .int (n : Int)] po xx := by
  refine ⟨rfl, g_is_moveD m ?_⟩
  cases e : isMvD d with
  | false =>
    have : okMvD (n : Int) d = false := by unfold okMvD; rw [e]; rfl
    exact h1 this
  | true =>
    obtain ⟨mv, rfl, q1, q2, q3, q4⟩ := isMv_mv e
    refine ⟨_, at_nat (i := 0) rfl, ?_⟩
    refine ite_b (fun c => ?_) fun c => ?_
    · have c' := of_decide_eq_true c
      refine h1 ?_
      show (isMvD (dMv mv) && decide ((mv.1 : Int) < (n : Int))) = false
      rw [decide_eq_false (by omega), Bool.and_false]
    · have c' := of_decide_eq_false c
      refine h0 mv rfl ⟨by omega, q2, q3, q4, hz mv rfl⟩ ?_
      show (isMvD (dMv mv) && decide ((mv.1 : Int) < (n : Int))) = true
      rw [decide_eq_true (by omega), e]; rfl
abbrev N_moved : List Str := ["row", "move"]
def t_moved (K : PySem.W.Frag) (W : XW) : TS :=
  (tSeq (tDrop (tCallS (sp_check_row K) (WE W) (tCons (tVar 0) tNil)))
    (tSeq (tDrop (tCallS (sp_check_move K) (WE W) (tCons (tVar 1) (tCons (tCB (Evl.rLenS K) (tCons (tVar 0) tNil)) tNil))))
    (tRet (tCallS (sp_row_behind K) (WE W) (tCons (tVar 0) (tCons (tLst (tCons (tVar 1) tNil)) tNil))))))
def p_moved : PS' :=
  (kSeq (kDrop (pCall 1 G_check_row (pCons (pV 0) pNil)))
    (kSeq (kDrop (pCall 2 G_check_move (pCons (pV 1) (pCons (pCB pLen (pCons (pV 0) pNil)) pNil))))
    (kRet (pCall 2 G_row_behind (pCons (pV 0) (pCons (pLst (pCons (pV 1) pNil)) pNil))))))
def G_moved : GD := Gof p_moved false 0
def sp_moved (K : PySem.W.Frag) : Sp := spD (gx K) 2 false .f 0 G_moved
theorem ss_moved {K : PySem.W.Frag} {W : XW} : SS (gx K) W .f 0 (t_moved K W) p_moved := by
  unfold t_moved p_moved
  exact SS.mono ((ss_seq (ss_drop (sx_callE (.inr rfl) (sa_ce sx_v sa_nil)))
    (ss_seq (ss_drop (sx_callE (.inr rfl) (sa_ce sx_v (sa_ce ((sx_cb (sa_ct (sx_v).et sa_nil) oa_len)).fe sa_nil))))
    (ss_retF (sx_callE (.inr rfl) (sa_ce sx_v (sa_ce ((sx_lst (sa_ce sx_v sa_nil))).fe sa_nil))))))) (by decide +kernel)
theorem ln_moved {K : PySem.W.Frag} {vs : List V} {H : Hp} {Q : VK} {E : XK} (h : sp_moved K vs H Q E) : vs.length = (["row", "move"] : List Str).length := spD_len h
theorem rd_moved {K : PySem.W.Frag} {vs : List V} {H : Hp} {Q : VK} {E : XK} (h : sp_moved K vs H Q E) : t_moved K (fun cls dd _ H => E cls dd H) (fin Q) (L2.start N_moved vs) H := rd_def ss_moved (.inr rfl) (by decide +kernel) h
theorem g_movedE {d e : D} (ra : Ro 121 d) (m : Mq e) (hzm : ∀ mv : Mv, e = dMv mv → mv.2.2.natAbs < 2 ^ 110) (E1 : isRowD d = false → xx ⟨"InvalidRowError", none⟩) (E2 : ∀ ns : List Int, d = dI ns → IsRow ns → okMvD (ns.length : Int) e = false → xx ⟨"InvalidMoveError", none⟩)
    (h : ∀ ns : List Int, d = dI ns → IsRow ns → okMvD (ns.length : Int) e = true → ∀ x, po x) : G_moved [d, e] po xx := by
  refine ⟨rfl, g_chkR ra (fun ns e1 hr hz => ?_) E1⟩
  subst e1
  refine ⟨ns.length, len_dN ns, rfl, g_chkMv (j := 110) m hzm (fun mv e2 o q => ?_) fun q => E2 ns rfl hr q⟩
  subst e2
  refine ⟨by show 1 ≤ 100000; decide, rfl, ?_⟩
  exact g_row_behind (ms := [mv]) (j := 110) hr rfl (fun x hx => by rw [List.mem_singleton.mp hx]; exact o) hz (by show 1 ≤ 90000; decide) (by show 121 + 1 * (110 + 5) ≤ 9000; decide) (h ns rfl hr q _)
theorem g_row_afterE {d e : D} (ra : Ro 121 d) (me : Mo 110 e) (E1 : isRowD d = false → xx ⟨"InvalidRowError", none⟩) (E2 : ∀ ns : List Int, d = dI ns → IsRow ns → okMsD (ns.length : Int) e = false → xx ⟨"InvalidMovesError", none⟩)
    (h : ∀ ns : List Int, d = dI ns → IsRow ns → okMsD (ns.length : Int) e = true → ∀ x, po x) : G_row_after [d, e] po xx := by
  refine ⟨rfl, g_chkR ra (fun ns e1 hr hz => ?_) E1⟩
  subst e1
  refine ⟨ns.length, len_dN ns, rfl, g_chkM me (fun ms e2 h40 hO => ?_) fun q => E2 ns rfl hr q⟩
  subst e2
  refine ⟨rfl, g_row_behind (j := 110) hr rfl hO hz (by omega) (by have := Nat.mul_le_mul_right 115 h40; omega) (h ns rfl hr (okMs_of h40 hr.hi hO) _)⟩
abbrev N_walk_rows : List Str := ["row", "moves", "present", "steps", "move"]
def t_walk_rows (K : PySem.W.Frag) (W : XW) : TS :=
  (tF1 (tDrop (tCallS (sp_check_row K) (WE W) (tCons (tVar 0) tNil)))
    (tF1 (tDrop (tCallS (sp_check_moves K) (WE W) (tCons (tVar 1) (tCons (tCB (Evl.rLenS K) (tCons (tVar 0) tNil)) tNil))))
    (tF1 (tAsg (tCB (Evl.rListS K) (tCons (tVar 0) tNil)) (gName 2))
    (tF1 (tAsg (tCB (Evl.rListS K) (tCons (tVar 1) tNil)) (gName 3))
    (tRet (tCB (Evl.rListS K) (tCons (tVar 2) tNil)))))))
def p_walk_rows : PS' :=
  (kF1 (kDrop (pCall 1 G_check_row (pCons (pV 0) pNil)))
    (kF1 (kDrop (pCall 2 G_check_moves (pCons (pV 1) (pCons (pCB pLen (pCons (pV 0) pNil)) pNil))))
    (kF1 (kAsgD 2 (pListOf (pV 0)))
    (kF1 (kAsgD 3 (pListOf (pV 1)))
    (kRet (pListOf (pV 2)))))))
def G_walk_rows : GD := Gof p_walk_rows false 3
def sp_walk_rows (K : PySem.W.Frag) : Sp := spD (gx K) 2 false .f 0 G_walk_rows
theorem ss_walk_rows {K : PySem.W.Frag} {W : XW} : SS (gx K) W .f 0 (t_walk_rows K W) p_walk_rows := by
  unfold t_walk_rows p_walk_rows
  exact SS.mono ((ss_f1 (ss_drop (sx_callE (.inr rfl) (sa_ce sx_v sa_nil)))
    (ss_f1 (ss_drop (sx_callE (.inr rfl) (sa_ce sx_v (sa_ce ((sx_cb (sa_ct (sx_v).et sa_nil) oa_len)).fe sa_nil))))
    (ss_f1 (ss_asgD ((sx_listOf (sx_v).eb)).fe)
    (ss_f1 (ss_asgD ((sx_listOf (sx_v).eb)).fe)
    (ss_retF (sx_listOf (sx_v).eb))))))) (by decide +kernel)
theorem ln_walk_rows {K : PySem.W.Frag} {vs : List V} {H : Hp} {Q : VK} {E : XK} (h : sp_walk_rows K vs H Q E) : vs.length = (["row", "moves"] : List Str).length := spD_len h
theorem rd_walk_rows {K : PySem.W.Frag} {vs : List V} {H : Hp} {Q : VK} {E : XK} (h : sp_walk_rows K vs H Q E) : t_walk_rows K (fun cls dd _ H => E cls dd H) (fin Q) (L2.start N_walk_rows vs) H := rd_def ss_walk_rows (.inr rfl) (by decide +kernel) h
theorem g_walk_rowsE {d e : D} (ra : Ro 121 d) (me : Mo 110 e) (E1 : isRowD d = false → xx ⟨"InvalidRowError", none⟩) (E2 : ∀ ns : List Int, d = dI ns → IsRow ns → okMsD (ns.length : Int) e = false → xx ⟨"InvalidMovesError", none⟩)
    (h : ∀ ns : List Int, d = dI ns → IsRow ns → okMsD (ns.length : Int) e = true → ∀ x, po x) : G_walk_rows [d, e] po xx := by
  refine ⟨rfl, g_chkR ra (fun ns e1 hr hz => ?_) E1⟩
  subst e1
  refine ⟨ns.length, len_dN ns, rfl, g_chkM me (fun ms e2 h40 hO => ?_) fun q => E2 ns rfl hr q⟩
  subst e2
  exact ⟨_, rfl, _, rfl, _, rfl, h ns rfl hr (okMs_of h40 hr.hi hO) _⟩
abbrev N_merged : List Str := ["moves", "last", "at", "move"]
def t_merged (K : PySem.W.Frag) (W : XW) : TS :=
  (tSeq (tDrop (tCallS (sp_check_moves K) (WE W) (tCons (tVar 0) (tCons (tC (.int 8)) tNil))))
    (tSeq (tAsg (tOp rSubI (tCB (Evl.rLenS K) (tCons (tVar 0) tNil)) (tC (.int 1))) (gName 1))
    (tRet (tLc (iEnum K (tCons (tVar 0) tNil)) (gTup K 2 (gCons (gName 2) (gCons (gName 3) gNil))) (tOr (tTest (tOp rEq (tVar 2) (tVar 1))) (tTest (tOp rNe (tOp (rIxT K) (tOp (rIxL K) (tVar 0) (tOp rAddI (tVar 2) (tC (.int 1)))) (tC (.int 0))) (tOp (rIxT K) (tVar 3) (tC (.int 0)))))) (tVar 3) [2, 3]))))
def p_merged : PS' :=
  (kSeq (kDrop (pCall 2 G_check_moves (pCons (pV 0) (pCons (pC (.int 8)) pNil))))
    (kSeq (kAsgD 1 (pOp pSub (pCB pLen (pCons (pV 0) pNil)) (pC (.int 1))))
    (kRet (pLc (pwEnum (pCons (pV 0) pNil)) (gvT 2 (gvCons 2 (gvCons 3 gvNil))) (qOr (qTest (pOp (pEq false) (pV 2) (pV 1))) (qTest (pOp (pEq true) (pOp pIxT (pOp pIxL (pV 0) (pOp pAdd (pV 2) (pC (.int 1)))) (pC (.int 0))) (pOp pIxT (pV 3) (pC (.int 0)))))) (pV 3) [2, 3]))))
def G_merged : GD := Gof p_merged false 3
def sp_merged (K : PySem.W.Frag) : Sp := spD (gx K) 1 false .f 0 G_merged
theorem ss_merged {K : PySem.W.Frag} {W : XW} : SS (gx K) W .f 0 (t_merged K W) p_merged := by
  unfold t_merged p_merged
  exact SS.mono ((ss_seq (ss_drop (sx_callE (.inr rfl) (sa_ce sx_v (sa_ce (sx_int).fe sa_nil))))
    (ss_seq (ss_asgD ((sx_op ((sx_cb (sa_ct (sx_v).et sa_nil) oa_len)).ft (sx_int).ft os_sub)).fe)
    (ss_retF (sx_lc (vs := [2, 3]) (sw_enum (.inr rfl) (sa_cb (sx_v).eb sa_nil)) (sg_tup (sgs_cons (sgs_cons sgs_nil))) (by decide) (sb_or (sb_test (sx_op (sx_v).et (sx_v).et os_eq)) (sb_test (sx_op ((sx_ixT (sx_ixL (sx_v).eb ((sx_op (sx_v).et (sx_int).ft os_add)).ft) (sx_int).ft)).et ((sx_ixT sx_v (sx_int).ft)).et os_ne))) sx_v))))) (by decide +kernel)
theorem ln_merged {K : PySem.W.Frag} {vs : List V} {H : Hp} {Q : VK} {E : XK} (h : sp_merged K vs H Q E) : vs.length = (["moves"] : List Str).length := spD_len h
theorem rd_merged {K : PySem.W.Frag} {vs : List V} {H : Hp} {Q : VK} {E : XK} (h : sp_merged K vs H Q E) : t_merged K (fun cls dd _ H => E cls dd H) (fin Q) (L2.start N_merged vs) H := rd_def ss_merged (.inr rfl) (by decide +kernel) h
theorem g_mergedE {e : D} (me : Mo 110 e) (E2 : okMsD 8 e = false → xx ⟨"InvalidMovesError", none⟩) (h : okMsD 8 e = true → ∀ x, po x) : G_merged [e] po xx := by
  refine ⟨rfl, g_chkM (n := 8) me (fun ms e2 h40 hO => ?_) fun q => E2 q⟩
  subst e2
  have hp := h (okMs_of (n := 8) h40 (by decide) hO)
  refine ⟨_, len_dM ms, ?_⟩
  refine lc_ind (ds := enumD 0 (ms.map dMv)) rfl (fun q h => h) (by rw [enumD_len, List.length_map]; omega) (fun _ _ => True) trivial ?_ fun acc _ => hp _
  rintro i d acc hi _ _
  have hlt := (List.getElem?_eq_some_iff.mp hi).1
  rw [enumD_len, List.length_map] at hlt
  have hg : (ms.map dMv)[i]? = some (dMv ms[i]) := by rw [List.getElem?_map, List.getElem?_eq_getElem hlt]; rfl
  have hd := enumD_get _ 0 i _ hg
  rw [hi] at hd
  cases hd
  refine pEq_int fun b hb => ite_b (fun e => ?_) fun e => ?_
  · exact trivial
  · have lt2 : i + 1 < ms.length := by
      have : ¬ (((0 + i : Nat) : Int) = (ms.length : Int) - 1) := fun z => by rw [hb.mpr z] at e; cases e
      omega
    have hg2 : (ms.map dMv)[i + 1]? = some (dMv ms[i + 1]) := by rw [List.getElem?_map, List.getElem?_eq_getElem lt2]; rfl
    refine ⟨_, (show atI (ms.map dMv) (((0 + i : Nat) : Int) + 1) = some (dMv ms[i + 1]) from by rw [show ((0 + i : Nat) : Int) + 1 = ((i + 1 : Nat) : Int) by omega]; exact at_nat hg2), _, at_nat (i := 0) rfl, _, at_nat (i := 0) rfl, ?_⟩
    refine pEq_int fun b2 hb2 => ?_
    cases b2 <;> exact trivial
abbrev N_error40 : List Str := ["door", "one", "two", "caught", "found", "error"]
def t_error40 (K : PySem.W.Frag) : TS :=
  (tSeq (tAsg (tC .non) (gName 3))
    (tSeq (tTry K W0 (fun n => kitN nsE n "SliderError") 5 (fun W1 => (tIfS (tTest (tOp rLtI (tVar 0) (tC (.int 2)))) (tDrop (tCallAt K "moved" "row_after" (sp_moved K) (sp_row_after K) (WE W1) (tOp (rIxL K) (tLst (tCons (tC (.ref (adE K "moved"))) (tCons (tC (.ref (adE K "row_after"))) tNil))) (tVar 0)) (tCons (tVar 1) (tCons (tVar 2) tNil)))) (tIfS (tTest (tOp rEq (tVar 0) (tC (.int 2)))) (tFirst K (fun n => nsE.contains n) (sp_walk_rows K) W1 (tCons (tVar 1) (tCons (tVar 2) tNil)) 4) (tDrop (tCallS (sp_merged K) (WE W1) (tCons (tVar 2) tNil)))))) (fun a1 => (tAsg (tVar 5) (gName 3))))
    (tRet (tIf (tTest (tOp rIsNon (tVar 3) (tC .non))) (tC (.str "none")) (tCallS (sp_kind46 K) (WE W0) (tCons (tVar 3) tNil))))))
def p_error40 : PS' :=
  (kSeq (kAsgD 3 (pC .non))
    (kSeq (kTry 5 (fun n => kitN nsE n "SliderError") (kIf (qTest (pOp pLt (pV 0) (pC (.int 2)))) (kDrop (pCallAt 2 "moved" G_moved "row_after" G_row_after (pOp pIxL (pLst (pCons (pC (.cls "moved")) (pCons (pC (.cls "row_after")) pNil))) (pV 0)) (pCons (pV 1) (pCons (pV 2) pNil)))) (kIf (qTest (pOp (pEq false) (pV 0) (pC (.int 2)))) (kFirst 4 2 (fun n => nsE.contains n) G_walk_rows (pCons (pV 1) (pCons (pV 2) pNil))) (kDrop (pCall 1 G_merged (pCons (pV 2) pNil))))) (kAsgD 3 (pV 5)))
    (kRet (pIf (qTest (pOp (pIsN false) (pV 3) (pC .non))) (pC (.str "none")) (pCall 1 G_kind46 (pCons (pV 3) pNil))))))
def G_error40 : GD := Gof0 p_error40 false 3
def sp_error40 (K : PySem.W.Frag) : Sp := spD (gx K) 3 false .e 0 G_error40
theorem ss_error40 {K : PySem.W.Frag} : SS (gx K) W0 .e 0 (t_error40 K) p_error40 := by
  unfold t_error40 p_error40
  exact SS.mono ((ss_seq (ss_asgD (sx_non).fe)
    (ss_seq (ss_try (i := 5) (fun W1 => (ss_if (sb_test (sx_op (sx_v).et (sx_int).ft os_lt)) (ss_drop (sx_callAt (.inr rfl) (sx_ixL (sx_lst (sa_ce (sx_cls).fe (sa_ce (sx_cls).fe sa_nil))).fb (sx_v).et) (sa_ce sx_v (sa_ce sx_v sa_nil)))) (ss_if (sb_test (sx_op (sx_v).et (sx_int).ft os_eq)) (ss_first (i := 4) (sa_ce sx_v (sa_ce sx_v sa_nil))) (ss_drop (sx_callE (.inr rfl) (sa_ce sx_v sa_nil)))))) (fun a1 => ((ss_asgD sx_v)).h))
    (ss_retE (sx_if (sb_test (sx_op (sx_v).et (sx_non).ft os_isN)) (sx_str).fe (sx_callE (.inl rfl) (sa_ce sx_v sa_nil))))))) (by decide +kernel)
theorem ln_error40 {K : PySem.W.Frag} {vs : List V} {H : Hp} {Q : VK} {E : XK} (h : sp_error40 K vs H Q E) : vs.length = (["door", "one", "two"] : List Str).length := spD_len h
theorem rd_error40 {K : PySem.W.Frag} {vs : List V} {H : Hp} {Q : VK} {E : XK} (h : sp_error40 K vs H Q E) : t_error40 K (fin Q) (L2.start N_error40 vs) H := rd_def0 ss_error40 (.inl rfl) (by decide +kernel) h
/-- what a call may end with -/
structure Ends40 (po : D → Prop) (po' : D → Prop) (xx' : Exn → Prop) : Prop where
  nx : po (.str "none") → ∀ x, po' x
  row : po (.str "row") → xx' ⟨"InvalidRowError", none⟩
  mv : po (.str "move") → xx' ⟨"InvalidMoveError", none⟩
  mvs : po (.str "moves") → xx' ⟨"InvalidMovesError", none⟩
theorem g_error40_0 {d e : D} (h : ∀ po' xx', Ends40 po po' xx' → G_moved [d, e] po' xx') : G_error40 [.int 0, d, e] po xx := by
  refine ⟨by show 2 ≤ 100000; decide, _, at_nat (i := 0) rfl, .inl ⟨rfl, rfl, h _ _ ⟨fun hs x => ⟨rfl, hs⟩, fun hs => ⟨true, by decide +kernel, fun _ => ⟨rfl, rfl, g_kind_row hs⟩, fun z => by cases z⟩, fun hs => ⟨true, by decide +kernel, fun _ => ⟨rfl, rfl, g_kind_move hs⟩, fun z => by cases z⟩, fun hs => ⟨true, by decide +kernel, fun _ => ⟨rfl, rfl, g_kind_moves hs⟩, fun z => by cases z⟩⟩⟩⟩
theorem g_error40_1 {d e : D} (h : ∀ po' xx', Ends40 po po' xx' → G_row_after [d, e] po' xx') : G_error40 [.int 1, d, e] po xx := by
  refine ⟨by show 2 ≤ 100000; decide, _, at_nat (i := 1) rfl, .inr ⟨rfl, rfl, h _ _ ⟨fun hs x => ⟨rfl, hs⟩, fun hs => ⟨true, by decide +kernel, fun _ => ⟨rfl, rfl, g_kind_row hs⟩, fun z => by cases z⟩, fun hs => ⟨true, by decide +kernel, fun _ => ⟨rfl, rfl, g_kind_move hs⟩, fun z => by cases z⟩, fun hs => ⟨true, by decide +kernel, fun _ => ⟨rfl, rfl, g_kind_moves hs⟩, fun z => by cases z⟩⟩⟩⟩
theorem g_error40_2 {d e : D} (h : ∀ po' xx', Ends40 po po' xx' → G_walk_rows [d, e] po' xx') : G_error40 [.int 2, d, e] po xx := by
  refine ⟨rfl, rfl, h _ _ ⟨fun hs x => ⟨rfl, hs⟩, fun hs => ⟨by decide +kernel, true, by decide +kernel, fun _ => ⟨rfl, rfl, g_kind_row hs⟩, fun z => by cases z⟩, fun hs => ⟨by decide +kernel, true, by decide +kernel, fun _ => ⟨rfl, rfl, g_kind_move hs⟩, fun z => by cases z⟩, fun hs => ⟨by decide +kernel, true, by decide +kernel, fun _ => ⟨rfl, rfl, g_kind_moves hs⟩, fun z => by cases z⟩⟩⟩
theorem g_error40_3 {d e : D} (h : ∀ po' xx', Ends40 po po' xx' → G_merged [e] po' xx') : G_error40 [.int 3, d, e] po xx := by
  refine ⟨rfl, rfl, h _ _ ⟨fun hs x => ⟨rfl, hs⟩, fun hs => ⟨true, by decide +kernel, fun _ => ⟨rfl, rfl, g_kind_row hs⟩, fun z => by cases z⟩, fun hs => ⟨true, by decide +kernel, fun _ => ⟨rfl, rfl, g_kind_move hs⟩, fun z => by cases z⟩, fun hs => ⟨true, by decide +kernel, fun _ => ⟨rfl, rfl, g_kind_moves hs⟩, fun z => by cases z⟩⟩⟩
end
end PD

/-! reckoning back: the mathematics -/
namespace SL
open PySem PySem.Spec PyProof.Rows L2
/-- the weights ahead of a move, the unknown one told -/
def ahd (w : List Int) (u : Nat) (m : Mv) : List Int := ((w.map fun x => x * m.2.1).set u (w.getD m.1 0 * (m.2.2 - m.2.1) - (w.sum - w.getD m.1 0) * m.2.1)).set m.1 0
/-- earlier moves, the latest first -/
def goBack : List Mv → List Int → Nat → Sum (List Int) Nat
  | [], w, _ => .inl w
  | m :: r, w, u => if m.1 = u then goBack r w u else if (ahd w u m).getD u 0 ≤ 0 then .inr r.length else goBack r (red (ahd w u m)) m.1
theorem goBack_cons (m : Mv) (r : List Mv) (w : List Int) (u : Nat) : goBack (m :: r) w u = if m.1 = u then goBack r w u else if (ahd w u m).getD u 0 ≤ 0 then .inr r.length else goBack r (red (ahd w u m)) m.1 := rfl
def reck (ns : List Int) (ms : List Mv) : Sum (List Int) Nat := match ms.reverse with
  | [] => .inl ns
  | m :: r => if shT ns m.1 = m.2.1 ∧ shB ns m.1 = m.2.2 then goBack r (red (ns.set m.1 0)) m.1 else .inr r.length
/-- weights, one of them not known -/
structure Holey (n u : Nat) (w : List Int) : Prop where
  len : w.length = n
  hu : u < n
  zero : w.getD u 0 = 0
  pos : ∀ i, i < n → i ≠ u → 1 ≤ w.getD i 0
theorem getD_set {l : List Int} {i j : Nat} {x : Int} (h : j < l.length) : (l.set i x).getD j 0 = if i = j then x else l.getD j 0 := by
  rw [List.getD_eq_getElem?_getD, List.getElem?_set]
  by_cases e : i = j
  · subst e; rw [if_pos rfl, if_pos h, if_pos rfl]; rfl
  · rw [if_neg e, if_neg e, List.getD_eq_getElem?_getD]
theorem getD_map {f : Int → Int} {l : List Int} {j : Nat} (h : j < l.length) : (l.map f).getD j 0 = f (l.getD j 0) := by
  rw [List.getD_eq_getElem?_getD, List.getElem?_map, List.getElem?_eq_getElem h, List.getD_eq_getElem?_getD, List.getElem?_eq_getElem h]
  rfl
theorem Holey.other {n u : Nat} {w : List Int} (h : Holey n u w) (h2 : 2 ≤ n) : ∃ i, i < n ∧ i ≠ u := by
  by_cases e : u = 0
  · exact ⟨1, by omega, by omega⟩
  · exact ⟨0, by omega, fun z => e z.symm⟩
theorem Holey.gcd {n u : Nat} {w : List Int} (h : Holey n u w) (h2 : 2 ≤ n) : 0 < gcdL w := by
  obtain ⟨i, hi, ne⟩ := h.other h2
  have hp := h.pos i hi ne
  exact gcdL_pos (List.mem_of_getElem? (getD_some (by rw [h.len]; exact hi))) (by omega)
theorem Holey.gcd_lt {n u k : Nat} {w : List Int} (h : Holey n u w) (h2 : 2 ≤ n) (hz : Sz k w) : (gcdL w).natAbs < 2 ^ k := by
  obtain ⟨i, hi, ne⟩ := h.other h2
  have hp := h.pos i hi ne
  have hm := List.mem_of_getElem? (getD_some (ns := w) (s := i) (by rw [h.len]; exact hi))
  have a := gcdL_le hm (by omega)
  have b := hz _ hm
  have c := gcdL_nn w
  omega
theorem red_getD {w : List Int} {i : Nat} (hi : i < w.length) : (red w).getD i 0 = w.getD i 0 / gcdL w := by unfold red; rw [getD_map hi]
theorem Holey.red {n u : Nat} {w : List Int} (h : Holey n u w) (h2 : 2 ≤ n) : Holey n u (SL.red w) := by
  have g := h.gcd h2
  refine ⟨by rw [red_len]; exact h.len, h.hu, ?_, fun i hi ne => ?_⟩
  · rw [red_getD (by rw [h.len]; exact h.hu), h.zero, Int.zero_ediv]
  · have hi' : i < w.length := by rw [h.len]; exact hi
    rw [red_getD hi', Int.le_ediv_iff_mul_le g, Int.one_mul]
    exact gcdL_le (List.mem_of_getElem? (getD_some hi')) (by have := h.pos i hi ne; omega)
theorem holey_of {ns : List Int} {n u : Nat} (hR : IsRow ns) (hn : ns.length = n) (hu : u < n) : Holey n u (ns.set u 0) := by
  refine ⟨by rw [List.length_set]; exact hn, hu, ?_, fun i hi ne => ?_⟩
  · rw [getD_set (by omega), if_pos rfl]
  · rw [getD_set (by omega), if_neg (fun z => ne z.symm)]
    exact hR.pos _ (List.mem_of_getElem? (getD_some (by omega)))
theorem ahd_len (w : List Int) (u : Nat) (m : Mv) : (ahd w u m).length = w.length := by unfold ahd; rw [List.length_set, List.length_set, List.length_map]
theorem ahd_at {w : List Int} {u : Nat} {m : Mv} {i : Nat} (hi : i < w.length) (hs : m.1 ≠ u) : (ahd w u m).getD i 0 = if m.1 = i then 0 else if u = i then w.getD m.1 0 * (m.2.2 - m.2.1) - (w.sum - w.getD m.1 0) * m.2.1 else w.getD i 0 * m.2.1 := by
  unfold ahd
  rw [getD_set (by rw [List.length_set, List.length_map]; exact hi)]
  by_cases e : m.1 = i
  · rw [if_pos e, if_pos e]
  · rw [if_neg e, if_neg e, getD_set (by rw [List.length_map]; exact hi)]
    by_cases e2 : u = i
    · rw [if_pos e2, if_pos e2]
    · rw [if_neg e2, if_neg e2, getD_map hi]
theorem Holey.ahead {n u j : Nat} {w : List Int} {m : Mv} (h : Holey n u w) (o : OkM n j m) (hs : m.1 ≠ u) (hp : 0 < (ahd w u m).getD u 0) : Holey n m.1 (ahd w u m) := by
  refine ⟨by rw [ahd_len]; exact h.len, o.s, ?_, fun i hi ne => ?_⟩
  · rw [ahd_at (by rw [h.len]; exact o.s) hs, if_pos rfl]
  · by_cases e : u = i
    · subst e; omega
    · rw [ahd_at (by rw [h.len]; exact hi) hs, if_neg (fun z => ne z.symm), if_neg e]
      have := h.pos i hi (fun z => e z.symm)
      have := o.t
      have h3 : (1 : Int) * 1 ≤ w.getD i 0 * m.2.1 := Int.mul_le_mul (by assumption) (by assumption) (by omega) (by omega)
      omega
theorem sz_at {k : Nat} {w : List Int} (h : ∀ i, i < w.length → (w.getD i 0).natAbs < 2 ^ k) : Sz k w := fun x hx => by
  obtain ⟨i, hi, e⟩ := List.getElem_of_mem hx
  have := h i hi
  rw [List.getD_eq_getElem?_getD, List.getElem?_eq_getElem hi] at this
  rw [← e]; exact this
theorem ahd_sz {n u j k : Nat} {w : List Int} {m : Mv} (hl : w.length = n) (h8 : n ≤ 8) (o : OkM n j m) (hs : m.1 ≠ u) (hz : Sz k w) : Sz (k + j + 6) (ahd w u m) := by
  refine sz_at fun i hi => ?_
  rw [ahd_len] at hi
  have hg : ∀ a, a < w.length → (w.getD a 0).natAbs < 2 ^ k := fun a ha => hz _ (List.mem_of_getElem? (getD_some ha))
  have ot := o.t
  have otb := o.tb
  have oz := o.z
  have tz : m.2.1.natAbs < 2 ^ j := by omega
  have bz : (m.2.2 - m.2.1).natAbs < 2 ^ j := by omega
  rw [ahd_at hi hs]
  split
  · exact Nat.pow_pos (by decide)
  split
  · have hs' : m.1 < w.length := by rw [hl]; exact o.s
    have a1 := wide_lt (hg _ hs') bz
    have a2 : (w.sum - w.getD m.1 0).natAbs < 2 ^ (k + 5) := sub_lt_pow (sum_lt8 hz (by omega)) (Nat.lt_of_lt_of_le (hg _ hs') (two_pow_le (by omega)))
    have a3 := wide_lt a2 tz
    have a4 := sub_lt_pow (a := k + j + 5) (Nat.lt_of_lt_of_le a1 (two_pow_le (by omega))) (Nat.lt_of_lt_of_le a3 (two_pow_le (by omega)))
    exact a4
  · exact Nat.lt_of_lt_of_le (wide_lt (hg i hi) tz) (two_pow_le (by omega))
/-! a row behind moves is reckoned back to the row ahead of them -/
theorem red_set_prop {a b : List Int} {n s : Nat} {p q : Int} (la : a.length = n) (lb : b.length = n) (hp : 0 < p) (hq : 0 < q) (h : ∀ i, i < n → i ≠ s → p * a.getD i 0 = q * b.getD i 0) : red (a.set s 0) = red (b.set s 0) := by
  refine red_prop hp hq (ext_getD (n := n) (by rw [List.length_map, List.length_set]; exact la) (by rw [List.length_map, List.length_set]; exact lb) fun i hi => ?_)
  rw [getD_map (by rw [List.length_set]; omega), getD_map (by rw [List.length_set]; omega), getD_set (by omega), getD_set (by omega)]
  by_cases e : s = i
  · rw [if_pos e, if_pos e]; simp
  · rw [if_neg e, if_neg e]; exact h i hi (fun z => e z.symm)
theorem mv_off_prop {r : List Int} {n j : Nat} {m : Mv} (hR : IsRow r) (hn : r.length = n) (o : OkM n j m) {i : Nat} (hi : i < n) (ne : i ≠ m.1) : gcdL (wAfter r m.1 m.2.1 m.2.2) * (mvM r m).getD i 0 = (m.2.2 - m.2.1) * r.getD i 0 := by
  obtain ⟨y, h1, h2⟩ := mv_get (ns := r) (s := m.1) (t := m.2.1) (b := m.2.2) ne (getD_some (by omega))
  have : (mvM r m).getD i 0 = y := by
    unfold mvM
    rw [List.getD_eq_getElem?_getD, h1]; rfl
  rw [this, Int.mul_comm, h2, Int.mul_comm]
theorem red_hole {r : List Int} {n j : Nat} {m : Mv} (hR : IsRow r) (hn : r.length = n) (o : OkM n j m) : red ((mvM r m).set m.1 0) = red (r.set m.1 0) := by
  have hs : m.1 < r.length := by rw [hn]; exact o.s
  have g : 0 < gcdL (wAfter r m.1 m.2.1 m.2.2) := gcdL_pos' (wAfter_pos hR.pos hR.lo hs o.t o.tb) (by rw [wAfter_len]; have := hR.lo; omega)
  exact red_set_prop (n := n) (by rw [mvM_len]; exact hn) hn g (by have := o.tb; omega) fun i hi ne => mv_off_prop hR hn o hi ne
theorem back_step {R w : List Int} {n u j : Nat} {m : Mv} (hR : IsRow R) (hn : R.length = n) (o : OkM n j m) (hu : u < n) (hs : m.1 ≠ u) (hsh : R.getD m.1 0 * m.2.2 = m.2.1 * R.sum) (hw : w = red (R.set u 0)) :
    0 < (ahd w u m).getD u 0 ∧ red (ahd w u m) = red (R.set m.1 0) := by
  have hh := holey_of hR hn hu
  have h2 : 2 ≤ n := by rw [← hn]; exact hR.lo
  have g := hh.gcd h2
  have lw : w.length = n := by rw [hw, red_len, List.length_set]; exact hn
  have hs' : m.1 < n := o.s
  -- the weights, times their divisor
  have wi : ∀ i, i < n → gcdL (R.set u 0) * w.getD i 0 = if u = i then 0 else R.getD i 0 := fun i hi => by
    have := congrArg (fun l => List.getD l i 0) (red_back (ns := R.set u 0))
    rw [getD_map (by rw [red_len, List.length_set]; omega), getD_set (by omega), ← hw] at this
    exact this
  have ws : gcdL (R.set u 0) * w.sum = R.sum - R.getD u 0 := by
    have h1 : gcdL (R.set u 0) * w.sum = (R.set u 0).sum := by
      rw [← red_back (ns := R.set u 0), sum_smul, red_back, hw]
    rw [h1, sum_set' (getD_some (by omega))]
    omega
  have key : gcdL (R.set u 0) * (ahd w u m).getD u 0 = m.2.1 * R.getD u 0 := by
    rw [ahd_at (by omega) hs, if_neg hs, if_pos rfl]
    have e1 := wi m.1 hs'
    rw [if_neg (fun z => hs z.symm)] at e1
    generalize gcdL (R.set u 0) = G at *
    generalize w.getD m.1 0 = a at *
    generalize w.sum = S at *
    generalize R.getD m.1 0 = ra at *
    generalize R.getD u 0 = ru at *
    generalize R.sum = RS at *
    generalize m.2.1 = t at *
    generalize m.2.2 = b at *
    have z : G * (a * (b - t) - (S - a) * t) = (G * a) * b - (G * S) * t := by grind
    rw [z, e1, ws, hsh]
    grind
  have pu : 1 ≤ R.getD u 0 := hR.pos _ (List.mem_of_getElem? (getD_some (by omega)))
  have ot := o.t
  refine ⟨?_, ?_⟩
  · have : 0 < gcdL (R.set u 0) * (ahd w u m).getD u 0 := by rw [key]; exact Int.mul_pos (by omega) (by omega)
    exact Int.pos_of_mul_pos_right this (by omega) |> fun z => z
  · refine red_prop g (show 0 < m.2.1 by omega) (ext_getD (n := n) (by rw [List.length_map, ahd_len]; exact lw) (by rw [List.length_map, List.length_set]; exact hn) fun i hi => ?_)
    rw [getD_map (by rw [ahd_len]; omega), getD_map (by rw [List.length_set]; omega), getD_set (by omega)]
    by_cases e : m.1 = i
    · rw [if_pos e, ahd_at (by omega) hs, if_pos e]; simp
    · rw [if_neg e]
      by_cases e2 : u = i
      · subst e2; exact key
      · rw [ahd_at (by omega) hs, if_neg e, if_neg e2]
        have := wi i hi
        rw [if_neg e2] at this
        rw [← Int.mul_assoc, this, Int.mul_comm]
theorem share_behind {r : List Int} {n j : Nat} {m : Mv} (hR : IsRow r) (hn : r.length = n) (o : OkM n j m) : (mvM r m).getD m.1 0 * m.2.2 = m.2.1 * (mvM r m).sum := mv_share hR (by rw [hn]; exact o.s) o.t o.tb
theorem goBack_mvs {n j : Nat} : ∀ {ms : List Mv} {ns : List Int} {u : Nat}, IsRow ns → ns.length = n → (∀ m ∈ ms, OkM n j m) → u < n → goBack ms.reverse (red ((mvs ns ms).set u 0)) u = .inl (red (ns.set ((ms.head?.map (·.1)).getD u) 0))
  | ms, ns, u, hR, hn, ho, hu => by
    rcases List.eq_nil_or_concat ms with rfl | ⟨L, m, rfl⟩
    · rfl
    · rw [List.concat_eq_append] at ho ⊢
      have hoL : ∀ x ∈ L, OkM n j x := fun x hx => ho x (List.mem_append_left _ hx)
      have om := ho m (List.mem_append_right _ (List.mem_singleton.mpr rfl))
      have hRL : IsRow (mvs ns L) := mvs_row hR hn hoL
      have hnL : (mvs ns L).length = n := by rw [mvs_len]; exact hn
      have e : mvs ns (L ++ [m]) = mvM (mvs ns L) m := mvs_app ns L [m]
      have hR1 : IsRow (mvM (mvs ns L) m) := by rw [← e]; exact mvs_row hR hn ho
      have hn1 : (mvM (mvs ns L) m).length = n := by rw [mvM_len]; exact hnL
      rw [List.reverse_append, e]
      have hd : ((L ++ [m]).head?.map (·.1)).getD u = (L.head?.map (·.1)).getD m.1 := by
        cases L <;> rfl
      rw [hd]
      show goBack (m :: L.reverse) _ u = _
      unfold goBack
      have ih := goBack_mvs (ms := L) (ns := ns) (u := m.1) hR hn hoL om.s
      by_cases c : m.1 = u
      · rw [if_pos c, ← c, red_hole hRL hnL om]
        exact ih
      · rw [if_neg c]
        obtain ⟨p, q⟩ := back_step hR1 hn1 om hu c (share_behind hRL hnL om) rfl
        rw [if_neg (by omega), q, red_hole hRL hnL om]
        exact ih
termination_by ms => ms.length
decreasing_by
  simp_all
def backW (ns : List Int) (ms : List Mv) : List Int := match ms with
  | [] => ns
  | m :: _ => red (ns.set m.1 0)
theorem reck_mvs {n j : Nat} {ms : List Mv} {ns : List Int} (hR : IsRow ns) (hn : ns.length = n) (ho : ∀ m ∈ ms, OkM n j m) : reck (mvs ns ms) ms = .inl (backW ns ms) := by
  rcases List.eq_nil_or_concat ms with rfl | ⟨L, m, rfl⟩
  · rfl
  · rw [List.concat_eq_append] at ho ⊢
    have hoL : ∀ x ∈ L, OkM n j x := fun x hx => ho x (List.mem_append_left _ hx)
    have om := ho m (List.mem_append_right _ (List.mem_singleton.mpr rfl))
    have hRL : IsRow (mvs ns L) := mvs_row hR hn hoL
    have hnL : (mvs ns L).length = n := by rw [mvs_len]; exact hn
    have e : mvs ns (L ++ [m]) = mvM (mvs ns L) m := mvs_app ns L [m]
    obtain ⟨t1, t2⟩ := mvs_last hR hn ho
    unfold reck
    rw [List.reverse_append]
    show (if shT (mvs ns (L ++ [m])) m.1 = m.2.1 ∧ shB (mvs ns (L ++ [m])) m.1 = m.2.2 then goBack L.reverse _ _ else _) = _
    rw [if_pos ⟨t1, t2⟩, e, red_hole hRL hnL om, goBack_mvs hR hn hoL om.s]
    congr 1
    cases L <;> rfl
theorem goBack_len : ∀ {ms : List Mv} {w v : List Int} {u : Nat}, goBack ms w u = .inl v → v.length = w.length
  | [], w, v, u, h => by
    have : Sum.inl (β := Nat) w = .inl v := h
    injection this with this
    rw [this]
  | m :: r, w, v, u, h => by
    rw [goBack_cons] at h
    split at h
    · exact goBack_len h
    · split at h
      · cases h
      · rw [goBack_len h, red_len, ahd_len]
theorem reck_len {ns v : List Int} {ms : List Mv} (h : reck ns ms = .inl v) : v.length = ns.length := by
  unfold reck at h
  split at h
  · injection h with h; rw [h]
  · split at h
    · rw [goBack_len h, red_len, List.length_set]
    · cases h
end SL

/-! the program's origins -/
namespace PD
open PySem PySem.Spec PyProof.Rows L2 Evl SL
section
variable {po : D → Prop} {xx : Exn → Prop} {κ : PK} {ρ : Env}
theorem ms_at {ms : List Mv} {i : Nat} {m : Mv} (h : ms[i]? = some m) : atI (ms.map dMv) (i : Int) = some (dMv m) := at_nat (by rw [List.getElem?_map, h]; rfl)
abbrev N_weights_ahead : List Str := ["weights", "unknown", "move", "slider", "top", "bottom", "others", "ahead", "weight"]
def t_weights_ahead (K : PySem.W.Frag) : TS :=
  (tSeq (tAsg (tVar 2) (gTup K 3 (gCons (gName 3) (gCons (gName 4) (gCons (gName 5) gNil)))))
    (tSeq (tAsg (tOp rSubI (tCB (rSum K) (tCons (tVar 0) tNil)) (tOp (rIxL K) (tVar 0) (tVar 3))) (gName 6))
    (tSeq (tAsg (tLc (iList K (tVar 0)) (gName 8) tYes (tOp rMulI (tVar 8) (tVar 4)) [8]) (gName 7))
    (tSeq (tAsg (tOp rSubI (tOp rMulI (tOp (rIxL K) (tVar 0) (tVar 3)) (tOp rSubI (tVar 5) (tVar 4))) (tOp rMulI (tVar 6) (tVar 4))) (gSub (tVar 7) (tVar 1) rSetL))
    (tSeq (tAsg (tC (.int 0)) (gSub (tVar 7) (tVar 3) rSetL))
    (tRet (tVar 7)))))))
def p_weights_ahead : PS' :=
  (kSeq (kAsgG (gvT 3 (gvCons 3 (gvCons 4 (gvCons 5 gvNil)))) (pV 2))
    (kSeq (kAsgD 6 (pOp pSub (pCB pSum (pCons (pV 0) pNil)) (pOp pIxL (pV 0) (pV 3))))
    (kSeq (kAsgF 7 (pLc (pwL (pV 0)) (gvN 8) qYes (pOp pMul (pV 8) (pV 4)) [8]))
    (kSeq (kSet 7 (pV 1) (pOp pSub (pOp pMul (pOp pIxL (pV 0) (pV 3)) (pOp pSub (pV 5) (pV 4))) (pOp pMul (pV 6) (pV 4))))
    (kSeq (kSet 7 (pV 3) (pC (.int 0)))
    (kRetO 7))))))
def G_weights_ahead : GD := Gof0 p_weights_ahead false 6
def sp_weights_ahead (K : PySem.W.Frag) : Sp := spD (gx K) 3 false .f 0 G_weights_ahead
theorem ss_weights_ahead {K : PySem.W.Frag} : SS (gx K) W0 .f 0 (t_weights_ahead K) p_weights_ahead := by
  unfold t_weights_ahead p_weights_ahead
  exact SS.mono ((ss_seq (ss_asgG sx_v (sg_tup (sgs_cons (sgs_cons (sgs_cons sgs_nil)))))
    (ss_seq (ss_asgD ((sx_op ((sx_cb (sa_ct (sx_v).et sa_nil) oa_sum)).ft ((sx_ixL (sx_v).eb (sx_v).et)).et os_sub)).fe)
    (ss_seq (ss_asgF (sx_lc (vs := [8]) (sw_list (md := .b) (.inr rfl) (sx_v).eb) sg_name (by decide) sb_yes ((sx_op (sx_v).et (sx_v).et os_mul)).fe))
    (ss_seq (ss_set ((sx_op ((sx_op ((sx_ixL (sx_v).eb (sx_v).et)).et ((sx_op (sx_v).et (sx_v).et os_sub)).ft os_mul)).ft ((sx_op (sx_v).et (sx_v).et os_mul)).ft os_sub)).fe (sx_v).et)
    (ss_seq (ss_set (sx_int).fe (sx_v).et)
    (ss_retO (i := 7)))))))) (by decide +kernel)
theorem ln_weights_ahead {K : PySem.W.Frag} {vs : List V} {H : Hp} {Q : VK} {E : XK} (h : sp_weights_ahead K vs H Q E) : vs.length = (["weights", "unknown", "move"] : List Str).length := spD_len h
theorem rd_weights_ahead {K : PySem.W.Frag} {vs : List V} {H : Hp} {Q : VK} {E : XK} (h : sp_weights_ahead K vs H Q E) : t_weights_ahead K (fin Q) (L2.start N_weights_ahead vs) H := rd_def0 ss_weights_ahead (.inr rfl) (by decide +kernel) h
theorem g_weights_ahead {w : List Int} {u n j k : Nat} {m : Mv} (hl : w.length = n) (h8 : n ≤ 8) (o : OkM n j m) (hu : u < n) (hz : Sz k w) (hk : k + j + 6 ≤ 800000) (h : po (dI (ahd w u m))) : G_weights_ahead [dI w, .int (u : Int), dMv m] po xx := by
  have hs : m.1 < w.length := by rw [hl]; exact o.s
  have ot := o.t
  have otb := o.tb
  have oz := o.z
  have tz : m.2.1.natAbs < 2 ^ j := by omega
  have hg := hz _ (List.mem_of_getElem? (getD_some hs))
  refine ⟨w, rfl, _, ints_at hs, ?_⟩
  refine lc_map (ds := w.map D.int) (fun d => match d with | .int x => .int (x * m.2.1) | d => d) rfl (fun q h => h) (by rw [List.length_map]; omega) (fun x hx => ?_) ?_
  · obtain ⟨i, hi, rfl⟩ := List.mem_map.mp hx
    exact ⟨_, rfl, fun q hq => ⟨wide_ok (hz i hi) tz (by omega), hq⟩⟩
  · have h1 : (w.sum - w.getD m.1 0).natAbs < 2 ^ (k + 5) := sub_lt_pow (sum_lt8 hz (by omega)) (Nat.lt_of_lt_of_le hg (two_pow_le (by omega)))
    refine ⟨_, ints_at hs, wide_ok hg (show (m.2.2 - m.2.1).natAbs < 2 ^ j by omega) (by omega), wide_ok h1 tz (by omega), u, ix_nat (by rw [List.length_map, List.length_map]; omega), m.1, ix_nat (by rw [List.length_set, List.length_map, List.length_map]; exact hs), ?_⟩
    have e : dI (ahd w u m) = .lst ((((w.map D.int).map (fun d => match d with | .int x => .int (x * m.2.1) | d => d)).set u (.int (w.getD m.1 0 * (m.2.2 - m.2.1) - (w.sum - w.getD m.1 0) * m.2.1))).set m.1 (.int 0)) := by
      unfold dI ahd
      rw [List.map_set, List.map_set, List.map_map, List.map_map]
      rfl
    show po (.lst _)
    rw [← e]
    exact h
def resD : Sum (List Int) Nat → D
  | .inl w => .tup [dI w, .non]
  | .inr i => .tup [.non, .int (i : Int)]
theorem len_dI (ns : List Int) : (dI ns).len? = some ns.length := by show some (ns.map D.int).length = _; rw [List.length_map]
theorem len_dMs (ms : List Mv) : (dMs ms).len? = some ms.length := by show some (ms.map dMv).length = _; rw [List.length_map]
theorem take_rev {ms : List Mv} {i : Nat} {m : Mv} (h : ms[i]? = some m) : (ms.take (i + 1)).reverse = m :: (ms.take i).reverse := by
  rw [List.take_add_one, h, List.reverse_append]; rfl
theorem rev_at {n i : Nat} {d : D} (h : (rngRevD n)[i]? = some d) : i < n ∧ d = .int ((n - 1 - i : Nat) : Int) := by
  unfold rngRevD at h
  obtain ⟨j, hj, rfl⟩ := map_at h
  have hl := (List.getElem?_eq_some_iff.mp hj).1
  rw [List.length_range] at hl
  rw [List.getElem?_range hl] at hj
  cases hj
  exact ⟨hl, by congr 1; omega⟩
theorem rev_len {n : Nat} : (rngRevD n).length = n := by simp [rngRevD]
/-- a list with one number put to 0, or told otherwise, by enumerate -/
theorem enum_map (f : Nat → D → D) : ∀ (ds : List D) (n : Nat), (enumD n ds).map (fun d => match d with | .tup [.int i, x] => f i.toNat x | d => d) = (ds.zipIdx n).map fun p => f p.2 p.1
  | [], n => rfl
  | d :: ds, n => by
    show _ :: _ = _ :: _
    rw [enum_map f ds (n + 1)]
    simp
def enF (f : Nat → D → D) : D → D := fun d => match d with | .tup [.int i, x] => f i.toNat x | d => d
theorem enum_mapF (f : Nat → D → D) (ds : List D) (n : Nat) : (enumD n ds).map (enF f) = (ds.zipIdx n).map fun p => f p.2 p.1 := enum_map f ds n
theorem set_zip (x : Int) : ∀ (ns : List Int) (u n : Nat), (ns.zipIdx n).map (fun p => if p.2 = n + u then x else p.1) = ns.set u x
  | [], u, n => by simp
  | a :: r, 0, n => by
    simp only [List.zipIdx_cons, List.map_cons, Nat.add_zero, if_true, List.set_cons_zero]
    congr 1
    have : ∀ (r : List Int) (k : Nat), n < k → (r.zipIdx k).map (fun p => if p.2 = n then x else p.1) = r := fun r => by
      induction r with
      | nil => intro k _; rfl
      | cons b r ih =>
        intro k hk
        simp only [List.zipIdx_cons, List.map_cons]
        rw [if_neg (by omega), ih (k + 1) (by omega)]
    exact this r (n + 1) (by omega)
  | a :: r, u + 1, n => by
    simp only [List.zipIdx_cons, List.map_cons, List.set_cons_succ]
    rw [if_neg (by omega)]
    congr 1
    have := set_zip x r u (n + 1)
    rw [show n + 1 + u = n + (u + 1) by omega] at this
    exact this
theorem enum_mem : ∀ {ns : List Int} {n : Nat} {d : D}, d ∈ enumD n (ns.map D.int) → ∃ (i : Nat) (x : Int), d = .tup [.int (i : Int), .int x]
  | a :: r, n, d, h => by
    rcases List.mem_cons.mp h with e | h
    · exact ⟨n, a, e⟩
    · exact enum_mem h
theorem eqI {a b : Int} {neg : Bool} : ng neg (decide (V.int a = V.int b)) = ng neg (decide (a = b)) := by rw [dec_int, Bool.beq_eq_decide_eq]
abbrev N_reckoned_back : List Str := ["row", "moves", "last", "unknown", "top", "bottom", "weights", "index", "slider", "ahead", "at", "weight"]
def t_reckoned_back (K : PySem.W.Frag) : TS :=
  (tSeq (tIfS (tTest (tOp rEq (tCB (Evl.rLenS K) (tCons (tVar 1) tNil)) (tC (.int 0)))) (tRet (tTup (tCons (tCB (Evl.rListS K) (tCons (tVar 0) tNil)) (tCons (tC .non) tNil)))) tNext)
    (tSeq (tAsg (tOp rSubI (tCB (Evl.rLenS K) (tCons (tVar 1) tNil)) (tC (.int 1))) (gName 2))
    (tSeq (tAsg (tOp (rIxL K) (tVar 1) (tVar 2)) (gTup K 3 (gCons (gName 3) (gCons (gName 4) (gCons (gName 5) gNil)))))
    (tSeq (tIfS (tTest (tOp (rNeD K) (tCallS (sp_lowest_terms K) (WE W0) (tCons (tOp (rIxL K) (tVar 0) (tVar 3)) (tCons (tCB (rSum K) (tCons (tVar 0) tNil)) tNil))) (tTup (tCons (tVar 4) (tCons (tVar 5) tNil))))) (tRet (tTup (tCons (tC .non) (tCons (tVar 2) tNil)))) tNext)
    (tSeq (tAsg (tCallS (sp_reduced K) (WE W0) (tCons (tLc (iEnum K (tCons (tVar 0) tNil)) (gTup K 2 (gCons (gName 10) (gCons (gName 11) gNil))) tYes (tIf (tTest (tOp rEq (tVar 10) (tVar 3))) (tC (.int 0)) (tVar 11)) [10, 11]) tNil)) (gName 6))
    (tSeq (tFor (iRevR (tRg1 (tVar 2))) (gName 7) (tSeq (tAsg (tOp (rIxT K) (tOp (rIxL K) (tVar 1) (tVar 7)) (tC (.int 0))) (gName 8))
    (tIfS (tTest (tOp rNe (tVar 8) (tVar 3))) (tSeq (tAsg (tCallS (sp_weights_ahead K) (WE W0) (tCons (tVar 6) (tCons (tVar 3) (tCons (tOp (rIxL K) (tVar 1) (tVar 7)) tNil)))) (gName 9))
    (tSeq (tIfS (tTest (tOp rLeI (tOp (rIxL K) (tVar 9) (tVar 3)) (tC (.int 0)))) (tRet (tTup (tCons (tC .non) (tCons (tVar 7) tNil)))) tNext)
    (tSeq (tAsg (tCallS (sp_reduced K) (WE W0) (tCons (tVar 9) tNil)) (gName 6))
    (tAsg (tVar 8) (gName 3))))) tNext)))
    (tRet (tTup (tCons (tVar 6) (tCons (tC .non) tNil))))))))))
def p_reckoned_back : PS' :=
  (kSeq (kIf (qTest (pOp (pEq false) (pCB pLen (pCons (pV 1) pNil)) (pC (.int 0)))) (kRet (pTup (pCons (pListOf (pV 0)) (pCons (pC .non) pNil)))) kNext)
    (kSeq (kAsgD 2 (pOp pSub (pCB pLen (pCons (pV 1) pNil)) (pC (.int 1))))
    (kSeq (kAsgG (gvT 3 (gvCons 3 (gvCons 4 (gvCons 5 gvNil)))) (pOp pIxL (pV 1) (pV 2)))
    (kSeq (kIf (qTest (pOp (pEqD true) (pCall 2 G_lowest_terms (pCons (pOp pIxL (pV 0) (pV 3)) (pCons (pCB pSum (pCons (pV 0) pNil)) pNil))) (pTup (pCons (pV 4) (pCons (pV 5) pNil))))) (kRet (pTup (pCons (pC .non) (pCons (pV 2) pNil)))) kNext)
    (kSeq (kAsgD 6 (pCall 1 G_reduced (pCons (pLc (pwEnum (pCons (pV 0) pNil)) (gvT 2 (gvCons 10 (gvCons 11 gvNil))) qYes (pIf (qTest (pOp (pEq false) (pV 10) (pV 3))) (pC (.int 0)) (pV 11)) [10, 11]) pNil)))
    (kSeq (kFor (pwRev (pV 2)) (gvN 7) (kSeq (kAsgD 8 (pOp pIxT (pOp pIxL (pV 1) (pV 7)) (pC (.int 0))))
    (kIf (qTest (pOp (pEq true) (pV 8) (pV 3))) (kSeq (kAsgD 9 (pCall 3 G_weights_ahead (pCons (pV 6) (pCons (pV 3) (pCons (pOp pIxL (pV 1) (pV 7)) pNil)))))
    (kSeq (kIf (qTest (pOp pLe (pOp pIxL (pV 9) (pV 3)) (pC (.int 0)))) (kRet (pTup (pCons (pC .non) (pCons (pV 7) pNil)))) kNext)
    (kSeq (kAsgD 6 (pCall 1 G_reduced (pCons (pV 9) pNil)))
    (kAsgD 3 (pV 8))))) kNext)))
    (kRet (pTup (pCons (pV 6) (pCons (pC .non) pNil))))))))))
def G_reckoned_back : GD := Gof0 p_reckoned_back false 10
def sp_reckoned_back (K : PySem.W.Frag) : Sp := spD (gx K) 2 false .e 0 G_reckoned_back
theorem ss_reckoned_back {K : PySem.W.Frag} : SS (gx K) W0 .e 0 (t_reckoned_back K) p_reckoned_back := by
  unfold t_reckoned_back p_reckoned_back
  exact SS.mono ((ss_seq (ss_if (sb_test (sx_op ((sx_cb (sa_ct (sx_v).et sa_nil) oa_len)).ft (sx_int).ft os_eq)) (ss_retE (sx_tup (sa_ce ((sx_listOf (sx_v).eb)).fe (sa_ce (sx_non).fe sa_nil)))) ss_next)
    (ss_seq (ss_asgD ((sx_op ((sx_cb (sa_ct (sx_v).et sa_nil) oa_len)).ft (sx_int).ft os_sub)).fe)
    (ss_seq (ss_asgG (sx_ixL (sx_v).eb (sx_v).et) (sg_tup (sgs_cons (sgs_cons (sgs_cons sgs_nil)))))
    (ss_seq (ss_if (sb_test (sx_op ((sx_callE (.inl rfl) (sa_ce (sx_ixL (sx_v).eb (sx_v).et) (sa_ce ((sx_cb (sa_ct (sx_v).et sa_nil) oa_sum)).fe sa_nil)))).et ((sx_tup (sa_ce sx_v (sa_ce sx_v sa_nil)))).et os_neD)) (ss_retE (sx_tup (sa_ce (sx_non).fe (sa_ce sx_v sa_nil)))) ss_next)
    (ss_seq (ss_asgD ((sx_callE (.inr rfl) (sa_ce ((sx_lc (vs := [10, 11]) (sw_enum (.inr rfl) (sa_cb (sx_v).eb sa_nil)) (sg_tup (sgs_cons (sgs_cons sgs_nil))) (by decide) sb_yes (sx_if (sb_test (sx_op (sx_v).et (sx_v).et os_eq)) (sx_int).fe sx_v))).fe sa_nil))).fe)
    (ss_seq (ss_for (sw_rev (sx_v).et) sg_name (ss_seq (ss_asgD (sx_ixT (sx_ixL (sx_v).eb (sx_v).et) (sx_int).ft))
    (ss_if (sb_test (sx_op (sx_v).et (sx_v).et os_ne)) (ss_seq (ss_asgD ((sx_callE (.inr rfl) (sa_ce sx_v (sa_ce sx_v (sa_ce (sx_ixL (sx_v).eb (sx_v).et) sa_nil))))).fe)
    (ss_seq (ss_if (sb_test (sx_op ((sx_ixL (sx_v).eb (sx_v).et)).et (sx_int).ft os_le)) (ss_retE (sx_tup (sa_ce (sx_non).fe (sa_ce sx_v sa_nil)))) ss_next)
    (ss_seq (ss_asgD ((sx_callE (.inr rfl) (sa_ce sx_v sa_nil))).fe)
    (ss_asgD sx_v)))) ss_next)))
    (ss_retE (sx_tup (sa_ce sx_v (sa_ce (sx_non).fe sa_nil))))))))))) (by decide +kernel)
theorem ln_reckoned_back {K : PySem.W.Frag} {vs : List V} {H : Hp} {Q : VK} {E : XK} (h : sp_reckoned_back K vs H Q E) : vs.length = (["row", "moves"] : List Str).length := spD_len h
theorem rd_reckoned_back {K : PySem.W.Frag} {vs : List V} {H : Hp} {Q : VK} {E : XK} (h : sp_reckoned_back K vs H Q E) : t_reckoned_back K (fin Q) (L2.start N_reckoned_back vs) H := rd_def0 ss_reckoned_back (.inl rfl) (by decide +kernel) h
theorem share_eq {a b t : Int} {u : Int} : (D.tup [.int a, .int b] = D.tup [.int t, .int u]) ↔ (a = t ∧ b = u) := by simp
theorem g_reckoned_back {ns : List Int} {ms : List Mv} {n j k : Nat} (hR : IsRow ns) (hn : ns.length = n) (hO : ∀ m ∈ ms, OkM n j m) (h40 : ms.length ≤ 90000) (hz : Sz k ns) (hk : k + 4 + ms.length * (j + 6) ≤ 9000) (h : po (resD (reck ns ms))) : G_reckoned_back [dI ns, dMs ms] po xx := by
  have h8 := hR.hi
  have h2 : 2 ≤ n := by rw [← hn]; exact hR.lo
  rcases List.eq_nil_or_concat ms with rfl | ⟨L, m, rfl⟩
  · exact ⟨0, rfl, rfl, ns.map D.int, rfl, by show 2 ≤ 100000; decide, h⟩
  rw [List.concat_eq_append] at hO h40 hk h ⊢
  have om := hO m (List.mem_append_right _ (List.mem_singleton.mpr rfl))
  have oL : ∀ x ∈ L, OkM n j x := fun x hx => hO x (List.mem_append_left _ hx)
  have hs : m.1 < ns.length := by rw [hn]; exact om.s
  have hlen : (L ++ [m]).length = L.length + 1 := by simp
  have ne0 : decide (V.int ((L.length + 1 : Nat) : Int) = V.int 0) = false := decide_eq_false (by intro z; injection z; omega)
  refine ⟨L.length + 1, by rw [len_dMs, hlen], rfl, ?_⟩
  refine ⟨L.length + 1, by rw [len_dMs, hlen], ?_⟩
  have el : ((L.length + 1 : Nat) : Int) - 1 = (L.length : Int) := by omega
  refine ⟨dMv m, by rw [el]; exact ms_at (by simp), ?_⟩
  have hsum : 0 < ns.sum := by have := sum_pos_of hR.pos; omega
  have hsz : ns.sum.natAbs < 2 ^ (k + 4) := sum_lt8 hz h8
  refine ⟨_, ints_at hs, ns, rfl, rfl, g_lowest_terms hsum hsz (by omega) (by omega) ⟨by show 2 ≤ 100000; decide, pEqD_pl rfl rfl (by show 1 ≤ 64; decide) (by show 1 ≤ 64; decide) fun b hb => ?_⟩⟩
  have hreck : reck ns (L ++ [m]) = if shT ns m.1 = m.2.1 ∧ shB ns m.1 = m.2.2 then goBack L.reverse (red (ns.set m.1 0)) m.1 else .inr L.length := by
    unfold reck
    rw [List.reverse_append]
    show (if shT ns m.1 = m.2.1 ∧ shB ns m.1 = m.2.2 then goBack L.reverse (red (ns.set m.1 0)) m.1 else .inr L.reverse.length) = _
    rw [List.length_reverse]
  have hb' : b = true ↔ (shT ns m.1 = m.2.1 ∧ shB ns m.1 = m.2.2) := hb.trans share_eq
  cases b with
  | false =>
    have : ¬ (shT ns m.1 = m.2.1 ∧ shB ns m.1 = m.2.2) := fun z => by have := hb'.mpr z; cases this
    rw [hreck, if_neg this] at h
    refine ⟨by show 2 ≤ 100000; decide, ?_⟩
    show po (.tup [.non, .int (((L.length + 1 : Nat) : Int) - 1)])
    rw [el]; exact h
  | true =>
    rw [hreck, if_pos (hb'.mp rfl)] at h
    have hh := holey_of hR hn om.s
    have hz0 : Sz k (ns.set m.1 0) := sz_at fun i hi => by
      rw [List.length_set] at hi
      rw [getD_set hi]
      split
      · exact Nat.pow_pos (by decide)
      · exact hz _ (List.mem_of_getElem? (getD_some hi))
    have ez : dI (ns.set m.1 0) = .lst ((enumD 0 (ns.map D.int)).map (fun d => match d with | .tup [.int i, x] => (if i.toNat = m.1 then .int 0 else x) | d => d)) := by
      rw [enum_map (fun i x => if i = m.1 then D.int 0 else x)]
      have := set_zip 0 ns m.1 0
      unfold dI
      rw [← this, Nat.zero_add, List.zipIdx_map, List.map_map, List.map_map]
      congr 1
      refine List.map_congr_left fun p _ => ?_
      show D.int (if p.2 = m.1 then 0 else p.1) = if p.2 = m.1 then D.int 0 else D.int p.1
      split <;> rfl
    refine lc_map (ds := enumD 0 (ns.map D.int)) (fun d => match d with | .tup [.int i, x] => (if i.toNat = m.1 then .int 0 else x) | d => d) rfl (fun q h => h) (by rw [enumD_len, List.length_map]; omega) (fun d hd => ?_) ?_
    · obtain ⟨i, x, rfl⟩ := enum_mem hd
      refine ⟨_, rfl, fun q hq => ⟨rfl, ite_b (fun hb => ?_) fun hb => ?_⟩⟩
      · have e : i = m.1 := by
          have := of_decide_eq_true (show decide (V.int (i : Int) = V.int (m.1 : Int)) = true from hb)
          injection this with this; omega
        have hq' : q (if i = m.1 then .int 0 else .int x) := hq
        rw [if_pos e] at hq'; exact hq'
      · have e : i ≠ m.1 := fun z => by
          have := of_decide_eq_false (show decide (V.int (i : Int) = V.int (m.1 : Int)) = false from hb)
          exact this (by rw [z])
        have hq' : q (if i = m.1 then .int 0 else .int x) := hq
        rw [if_neg e] at hq'; exact hq'
    · rw [← ez]
      refine ⟨rfl, g_reduced (k := k + 1) (by rw [List.length_set]; omega) (hh.gcd h2) (Nat.lt_of_lt_of_le (hh.gcd_lt h2 hz0) (two_pow_le (by omega))) (by omega) (by omega) ?_⟩
      refine for_ind (ds := rngRevD L.length) (fun q h => ⟨⟨by omega, by omega⟩, by rw [el, Int.toNat_natCast]; exact h⟩) (by rw [rev_len]; omega)
        (fun i ρ => i ≤ L.length ∧ ∃ (w : List Int) (u : Nat) (z1 z2 z3 : Option Wd), ρ = [some (.d (dI ns)), some (.d (dMs (L ++ [m]))), some (.d (.int (((L.length + 1 : Nat) : Int) - 1))), some (.d (.int (u : Int))), some (.d (.int m.2.1)), some (.d (.int m.2.2)), some (.d (dI w)), z1, z2, z3, none, none] ∧
          Holey n u w ∧ Sz (k + i * (j + 6)) w ∧ goBack (L.take (L.length - i)).reverse w u = goBack L.reverse (red (ns.set m.1 0)) m.1)
        ⟨Nat.zero_le _, red (ns.set m.1 0), m.1, none, none, none, rfl, hh.red h2, red_sz (by rw [Nat.zero_mul]; exact hz0), by rw [Nat.sub_zero, List.take_length]⟩ ?_ ?_
      · rintro i d ρ hi ⟨hle, w, u, z1, z2, z3, rfl, hw, hzw, hgo⟩
        obtain ⟨hlt, rfl⟩ := rev_at hi
        generalize hx : L.length - 1 - i = x
        have hx1 : L.length - i = x + 1 := by omega
        have hxL : x < L.length := by omega
        have hgx : L[x]? = some L[x] := List.getElem?_eq_getElem hxL
        have ogx := oL _ (List.getElem_mem hxL)
        have hgx' : (L ++ [m])[x]? = some L[x] := by rw [List.getElem?_append_left hxL]; exact hgx
        rw [hx1, take_rev hgx] at hgo
        have hnext : L.length - (i + 1) = x := by omega
        have hmul : (i + 1) * (j + 6) ≤ (L ++ [m]).length * (j + 6) := Nat.mul_le_mul_right _ (by omega)
        rw [Nat.succ_mul] at hmul
        rw [goBack_cons] at hgo
        refine ⟨_, ms_at hgx', .int (L[x].1 : Int), at_nat (i := 0) rfl, rfl, ite_b (fun hne => ?_) fun heq => ?_⟩
        · have hne' : L[x].1 ≠ u := fun z => by
            have : ng true (decide (V.int (L[x].1 : Int) = V.int (u : Int))) = true := hne
            rw [z, decide_eq_true rfl] at this; cases this
          rw [if_neg hne'] at hgo
          refine ⟨_, ms_at hgx', rfl, g_weights_ahead hw.len (by omega) ogx hw.hu hzw (by omega) ?_⟩
          refine ⟨_, ints_at (by rw [ahd_len, hw.len]; exact hw.hu), ite_b (fun hneg => ?_) fun hpos => ?_⟩
          · have := of_decide_eq_true (show decide ((ahd w u L[x]).getD u 0 ≤ 0) = true from hneg)
            rw [if_pos this, List.length_reverse, List.length_take, Nat.min_eq_left (by omega)] at hgo
            rw [← hgo] at h
            exact ⟨by show 2 ≤ 100000; decide, h⟩
          · have := of_decide_eq_false (show decide ((ahd w u L[x]).getD u 0 ≤ 0) = false from hpos)
            rw [if_neg this] at hgo
            have ha := hw.ahead ogx hne' (by omega)
            have hza := ahd_sz hw.len (by omega) ogx hne' hzw
            refine ⟨rfl, g_reduced (k := k + i * (j + 6) + j + 6) (by rw [ahd_len, hw.len]; omega) (ha.gcd h2) (ha.gcd_lt h2 hza) (by omega) (by omega) ⟨hlt, red (ahd w u L[x]), L[x].1, _, _, _, rfl, ha.red h2, ?_, ?_⟩⟩
            · rw [Nat.succ_mul, ← Nat.add_assoc, ← Nat.add_assoc]
              exact red_sz hza
            · rw [hnext]; exact hgo
        · have heq' : L[x].1 = u := by
            have : ng true (decide (V.int (L[x].1 : Int) = V.int (u : Int))) = false := heq
            by_cases z : L[x].1 = u
            · exact z
            · rw [decide_eq_false (fun q => z (by injection q with q; omega))] at this; cases this
          rw [if_pos heq'] at hgo
          refine ⟨hlt, w, u, _, _, _, rfl, hw, hzw.mono ?_, by rw [hnext]; exact hgo⟩
          rw [Nat.succ_mul]; omega
      · rintro ρ ⟨_, w, u, z1, z2, z3, rfl, hw, hzw, hgo⟩
        rw [rev_len, Nat.sub_self, List.take_zero] at hgo
        rw [← hgo] at h
        exact ⟨by show 2 ≤ 100000; decide, h⟩
abbrev N_origin_of : List Str := ["row", "moves", "weights", "refused", "slider", "at", "weight"]
def t_origin_of (K : PySem.W.Frag) (W : XW) : TS :=
  (tSeq (tDrop (tCallS (sp_check_row K) (WE W) (tCons (tVar 0) tNil)))
    (tSeq (tDrop (tCallS (sp_check_moves K) (WE W) (tCons (tVar 1) (tCons (tCB (Evl.rLenS K) (tCons (tVar 0) tNil)) tNil))))
    (tSeq (tAsg (tCallS (sp_reckoned_back K) (WE W) (tCons (tVar 0) (tCons (tVar 1) tNil))) (gTup K 2 (gCons (gName 2) (gCons (gName 3) gNil))))
    (tSeq (tIfS (tTest (tOp rNotNon (tVar 3) (tC .non))) (tRet (tC .non)) tNext)
    (tSeq (tAsg (tCallS (sp_forgotten K) (WE W) (tCons (tVar 1) tNil)) (gName 4))
    (tRet (tLc (iEnum K (tCons (tVar 2) tNil)) (gTup K 2 (gCons (gName 5) (gCons (gName 6) gNil))) tYes (tIf (tTest (tOp rEq (tVar 5) (tVar 4))) (tC .non) (tVar 6)) [5, 6])))))))
def p_origin_of : PS' :=
  (kSeq (kDrop (pCall 1 G_check_row (pCons (pV 0) pNil)))
    (kSeq (kDrop (pCall 2 G_check_moves (pCons (pV 1) (pCons (pCB pLen (pCons (pV 0) pNil)) pNil))))
    (kSeq (kAsgG (gvT 2 (gvCons 2 (gvCons 3 gvNil))) (pCall 2 G_reckoned_back (pCons (pV 0) (pCons (pV 1) pNil))))
    (kSeq (kIf (qTest (pOp (pIsN true) (pV 3) (pC .non))) (kRet (pC .non)) kNext)
    (kSeq (kAsgD 4 (pCall 1 G_forgotten (pCons (pV 1) pNil)))
    (kRet (pLc (pwEnum (pCons (pV 2) pNil)) (gvT 2 (gvCons 5 (gvCons 6 gvNil))) qYes (pIf (qTest (pOp (pEq false) (pV 5) (pV 4))) (pC .non) (pV 6)) [5, 6])))))))
def G_origin_of : GD := Gof p_origin_of false 5
def sp_origin_of (K : PySem.W.Frag) : Sp := spD (gx K) 2 false .f 0 G_origin_of
theorem ss_origin_of {K : PySem.W.Frag} {W : XW} : SS (gx K) W .f 0 (t_origin_of K W) p_origin_of := by
  unfold t_origin_of p_origin_of
  exact SS.mono ((ss_seq (ss_drop (sx_callE (.inr rfl) (sa_ce sx_v sa_nil)))
    (ss_seq (ss_drop (sx_callE (.inr rfl) (sa_ce sx_v (sa_ce ((sx_cb (sa_ct (sx_v).et sa_nil) oa_len)).fe sa_nil))))
    (ss_seq (ss_asgG (sx_callE (.inl rfl) (sa_ce sx_v (sa_ce sx_v sa_nil))) (sg_tup (sgs_cons (sgs_cons sgs_nil))))
    (ss_seq (ss_if (sb_test (sx_op (sx_v).et (sx_non).ft os_notN)) (ss_retF sx_non) ss_next)
    (ss_seq (ss_asgD (sx_callE (.inl rfl) (sa_ce sx_v sa_nil)))
    (ss_retF (sx_lc (vs := [5, 6]) (sw_enum (.inr rfl) (sa_cb (sx_v).eb sa_nil)) (sg_tup (sgs_cons (sgs_cons sgs_nil))) (by decide) sb_yes (sx_if (sb_test (sx_op (sx_v).et (sx_v).et os_eq)) (sx_non).fe sx_v))))))))) (by decide +kernel)
theorem ln_origin_of {K : PySem.W.Frag} {vs : List V} {H : Hp} {Q : VK} {E : XK} (h : sp_origin_of K vs H Q E) : vs.length = (["row", "moves"] : List Str).length := spD_len h
theorem rd_origin_of {K : PySem.W.Frag} {vs : List V} {H : Hp} {Q : VK} {E : XK} (h : sp_origin_of K vs H Q E) : t_origin_of K (fun cls dd _ H => E cls dd H) (fin Q) (L2.start N_origin_of vs) H := rd_def ss_origin_of (.inr rfl) (by decide +kernel) h
def holeAt (ms : List Mv) (i : Nat) (x : D) : D := match ms with
  | [] => x
  | m :: _ => if i = m.1 then .non else x
def orgD (ms : List Mv) : Sum (List Int) Nat → D
  | .inl w => .lst ((w.zipIdx).map fun p => holeAt ms p.2 (.int p.1))
  | .inr _ => .non
theorem g_origin_of {ns : List Int} {ms : List Mv} {n j k : Nat} (hR : IsRow ns) (hn : ns.length = n) (hO : ∀ m ∈ ms, OkM n j m) (h40 : ms.length ≤ 40) (hz : Sz k ns) (hk : k + 4 + ms.length * (j + 6) ≤ 9000) (h : po (orgD ms (reck ns ms))) : G_origin_of [dI ns, dMs ms] po xx := by
  refine ⟨rfl, g_check_row hR ⟨ns.length, len_dI ns, rfl, g_check_moves h40 (by rw [hn]; exact hO) hR.hi ⟨rfl, g_reckoned_back hR hn hO (by omega) hz hk ?_⟩⟩⟩
  cases hr : reck ns ms with
  | inr i => rw [hr] at h; exact ⟨rfl, h⟩
  | inl w =>
    rw [hr] at h
    refine ⟨rfl, rfl, g_forgotten h40 hO (by rw [← hn]; exact hR.hi) ?_⟩
    have hwl := reck_len hr
    refine lc_map (ds := enumD 0 (w.map D.int)) (fun d => match d with | .tup [.int i, x] => holeAt ms i.toNat x | d => d) rfl (fun q h => h) (by rw [enumD_len, List.length_map, hwl]; have := hR.hi; omega) (fun d hd => ?_) ?_
    · obtain ⟨i, x, rfl⟩ := enum_mem hd
      cases ms with
      | nil => exact ⟨_, rfl, fun q hq => ⟨rfl, hq⟩⟩
      | cons m r =>
        refine ⟨_, rfl, fun q hq => ⟨rfl, ite_b (fun hb => ?_) fun hb => ?_⟩⟩
        · have e : i = m.1 := by
            have := of_decide_eq_true (show decide (V.int (i : Int) = V.int (m.1 : Int)) = true from hb)
            injection this with this; omega
          have hq' : q (if i = m.1 then .non else .int x) := hq
          rw [if_pos e] at hq'; exact hq'
        · have e : i ≠ m.1 := fun z => by
            have := of_decide_eq_false (show decide (V.int (i : Int) = V.int (m.1 : Int)) = false from hb)
            exact this (by rw [z])
          have hq' : q (if i = m.1 then .non else .int x) := hq
          rw [if_neg e] at hq'; exact hq'
    · have e : orgD ms (.inl w) = .lst ((enumD 0 (w.map D.int)).map (fun d => match d with | .tup [.int i, x] => holeAt ms i.toNat x | d => d)) := by
        rw [enum_map (holeAt ms), List.zipIdx_map, List.map_map]
        rfl
      rw [← e]
      exact h
abbrev N_refused_at : List Str := ["row", "moves", "_", "refused"]
def t_refused_at (K : PySem.W.Frag) (W : XW) : TS :=
  (tSeq (tDrop (tCallS (sp_check_row K) (WE W) (tCons (tVar 0) tNil)))
    (tSeq (tDrop (tCallS (sp_check_moves K) (WE W) (tCons (tVar 1) (tCons (tCB (Evl.rLenS K) (tCons (tVar 0) tNil)) tNil))))
    (tSeq (tAsg (tCallS (sp_reckoned_back K) (WE W) (tCons (tVar 0) (tCons (tVar 1) tNil))) (gTup K 2 (gCons (gName 2) (gCons (gName 3) gNil))))
    (tRet (tVar 3)))))
def p_refused_at : PS' :=
  (kSeq (kDrop (pCall 1 G_check_row (pCons (pV 0) pNil)))
    (kSeq (kDrop (pCall 2 G_check_moves (pCons (pV 1) (pCons (pCB pLen (pCons (pV 0) pNil)) pNil))))
    (kSeq (kAsgG (gvT 2 (gvCons 2 (gvCons 3 gvNil))) (pCall 2 G_reckoned_back (pCons (pV 0) (pCons (pV 1) pNil))))
    (kRet (pV 3)))))
def G_refused_at : GD := Gof p_refused_at false 2
def sp_refused_at (K : PySem.W.Frag) : Sp := spD (gx K) 2 false .e 0 G_refused_at
theorem ss_refused_at {K : PySem.W.Frag} {W : XW} : SS (gx K) W .e 0 (t_refused_at K W) p_refused_at := by
  unfold t_refused_at p_refused_at
  exact SS.mono ((ss_seq (ss_drop (sx_callE (.inr rfl) (sa_ce sx_v sa_nil)))
    (ss_seq (ss_drop (sx_callE (.inr rfl) (sa_ce sx_v (sa_ce ((sx_cb (sa_ct (sx_v).et sa_nil) oa_len)).fe sa_nil))))
    (ss_seq (ss_asgG (sx_callE (.inl rfl) (sa_ce sx_v (sa_ce sx_v sa_nil))) (sg_tup (sgs_cons (sgs_cons sgs_nil))))
    (ss_retE sx_v))))) (by decide +kernel)
theorem ln_refused_at {K : PySem.W.Frag} {vs : List V} {H : Hp} {Q : VK} {E : XK} (h : sp_refused_at K vs H Q E) : vs.length = (["row", "moves"] : List Str).length := spD_len h
theorem rd_refused_at {K : PySem.W.Frag} {vs : List V} {H : Hp} {Q : VK} {E : XK} (h : sp_refused_at K vs H Q E) : t_refused_at K (fun cls dd _ H => E cls dd H) (fin Q) (L2.start N_refused_at vs) H := rd_def ss_refused_at (.inl rfl) (by decide +kernel) h
theorem g_refused_at {ns : List Int} {ms : List Mv} {n j k : Nat} (hR : IsRow ns) (hn : ns.length = n) (hO : ∀ m ∈ ms, OkM n j m) (h40 : ms.length ≤ 40) (hz : Sz k ns) (hk : k + 4 + ms.length * (j + 6) ≤ 9000) (h : po (match reck ns ms with | .inl _ => .non | .inr i => .int (i : Int))) : G_refused_at [dI ns, dMs ms] po xx := by
  refine ⟨rfl, g_check_row hR ⟨ns.length, len_dI ns, rfl, g_check_moves h40 (by rw [hn]; exact hO) hR.hi ⟨rfl, g_reckoned_back hR hn hO (by omega) hz hk ?_⟩⟩⟩
  cases hr : reck ns ms with
  | inr i => rw [hr] at h; exact h
  | inl w => rw [hr] at h; exact h
end
end PD

/-! rows with a hole, and other things that laws share -/
namespace PD
open PySem PySem.Spec PyProof.Rows L2 Evl SL
section
variable {po : D → Prop} {xx : Exn → Prop} {κ : PK} {ρ : Env}
def holeD (w : List Int) (u : Nat) : D := .lst (w.zipIdx.map fun p => if p.2 = u then D.non else .int p.1)
def hF (ns : List Int) (u : Nat) : Nat → D → D := fun (i : Nat) (x : D) => if i = u then D.non else match x with | .int y => .int (y / gcdL (ns.set u 0)) | d => d
theorem hole_eq {ns : List Int} {u : Nat} (hu : u < ns.length) : (((ns.map D.int).zipIdx 0).map fun p => hF ns u p.2 p.1) = (red (ns.set u 0)).zipIdx.map fun p => if p.2 = u then D.non else .int p.1 := by
  refine List.ext_getElem? fun i => ?_
  unfold hF
  rw [List.getElem?_map, List.getElem?_map, List.getElem?_zipIdx, List.getElem?_zipIdx, List.getElem?_map]
  unfold red
  rw [List.getElem?_map, List.getElem?_set]
  by_cases c : u = i
  · subst c
    rw [if_pos rfl, if_pos hu, List.getElem?_eq_getElem hu]
    simp
  · rw [if_neg c]
    cases e : ns[i]? with
    | none => simp
    | some x => simp [Ne.symm c]
def dueL (ns : List Int) (ms : List Mv) : List D := (backW ns ms).zipIdx.map fun p => holeAt ms p.2 (.int p.1)
theorem due_nil (ns : List Int) : D.lst (dueL ns []) = dI ns := by
  unfold dueL dI holeAt backW
  congr 1
  have : (fun p : Int × Nat => D.int p.1) = D.int ∘ Prod.fst := rfl
  rw [show (ns.zipIdx.map fun p => (match ([] : List Mv) with | [] => D.int p.1 | m :: _ => if p.2 = m.1 then D.non else D.int p.1)) = ns.zipIdx.map (D.int ∘ Prod.fst) from rfl, ← List.map_map, List.zipIdx_map_fst]
theorem due_sz {ns : List Int} {ms : List Mv} {k : Nat} (hz : Sz k ns) : Sz k (backW ns ms) := by
  cases ms with
  | nil => exact hz
  | cons m r => exact red_sz (sz_at fun i hi => by
      rw [List.length_set] at hi
      rw [getD_set hi]
      split
      · exact Nat.pow_pos (by decide)
      · exact hz _ (List.mem_of_getElem? (getD_some hi)))
theorem due_len (ns : List Int) (ms : List Mv) : (dueL ns ms).length = ns.length := by
  unfold dueL
  rw [List.length_map, List.length_zipIdx]
  cases ms with
  | nil => rfl
  | cons m r => show (red (ns.set m.1 0)).length = _; rw [red_len, List.length_set]
theorem shs_due {ns : List Int} {ms : List Mv} {k : Nat} (hz : Sz k ns) (h8 : ns.length ≤ 8) (hk : k ≤ 14000) : Shs 36000 1 (.lst (dueL ns ms)) := by
  refine (shs_lst (n := 4400) (dp := 0) fun d hd => ?_).mono ?_ (by omega)
  · unfold dueL at hd
    obtain ⟨p, hp, rfl⟩ := List.mem_map.mp hd
    have hx : p.1 ∈ backW ns ms := by
      have := List.mem_map_of_mem (f := Prod.fst) hp
      rwa [List.zipIdx_map_fst] at this
    unfold holeAt
    split
    · exact shs_int (due_sz hz _ hx) hk
    · split
      · exact shs_non
      · exact shs_int (due_sz hz _ hx) hk
  · rw [due_len]
    have := Nat.mul_le_mul_right (4400 + 2) h8
    omega
theorem pV_of {i : Nat} {d : D} (h : ρ[i]? = some (some (.d d))) (hp : po d) : pV i ρ po xx := by
  unfold pV; rw [h]; exact hp
theorem cut_lastD (ds : List D) (c : Nat) : cutD ds (some (-((c : Int) + 1))) none = ds.drop (ds.length - (c + 1)) := by
  have e := HT.clip_eq (-((c : Int) + 1)) ds.length 0
  rw [if_pos (by omega)] at e
  have e2 : HT.sIx ds.length 0 (some (-((c : Int) + 1))) = ds.length - (c + 1) := by omega
  unfold cutD
  rw [HT.sIx_none, e2]
  exact List.take_of_length_le (by rw [List.length_drop]; omega)
theorem cut_m2 (ds : List D) : cutD ds (some (-2)) none = ds.drop (ds.length - 2) := by
  have e : (-2 : Int) = -(((1 : Nat) : Int) + 1) := by decide
  rw [e, cut_lastD]
theorem cut_m40 (ds : List D) : cutD ds (some (-40)) none = ds.drop (ds.length - 40) := by
  have e : (-40 : Int) = -(((39 : Nat) : Int) + 1) := by decide
  rw [e, cut_lastD]
theorem turns {N c : Int} {q : List D → Prop} (h6 : 0 < c) (h : ∀ m : Int, (if (if N < c then N else c) > 1 then (if N < c then N else c) else 1) = m → 0 ≤ m → m ≤ c → q (rngD 0 m.toNat)) (hc : c ≤ 1000) :
    (if (if N < c then N else c) > 1 then (if N < c then N else c) else 1) ≤ 100000 ∧ -100000 ≤ (if (if N < c then N else c) > 1 then (if N < c then N else c) else 1) ∧ q (rngD 0 (if (if N < c then N else c) > 1 then (if N < c then N else c) else 1).toNat) := by
  have h0 : 0 ≤ (if (if N < c then N else c) > 1 then (if N < c then N else c) else 1) := by split <;> split <;> omega
  have h1 : (if (if N < c then N else c) > 1 then (if N < c then N else c) else 1) ≤ c := by split <;> split <;> omega
  exact ⟨by omega, by omega, h _ rfl h0 h1⟩
theorem IsRow.rev {ns : List Int} (h : IsRow ns) : IsRow ns.reverse := ⟨by rw [List.length_reverse]; exact h.lo, by rw [List.length_reverse]; exact h.hi, fun x hx => h.pos x (List.mem_reverse.mp hx), by
  have e : gcdL ns.reverse = gcdL ns := gcdL_mem (fun x hx => List.mem_reverse.mp hx) fun x hx => List.mem_reverse.mpr hx
  rw [e]; exact h.one⟩
theorem ok_fix {n : Nat} (h2 : 2 ≤ n) : OkM n 100 (n - 1, 2, 5) := ⟨by show n - 1 < n; omega, by show (1 : Int) ≤ 2; decide, by show (2 : Int) < 5; decide, by show Int.gcd 2 5 = 1; decide, by show Int.natAbs 5 < 2 ^ 100; decide⟩
def cnt (N c : Int) : Int := if (if N < c then N else c) > 1 then (if N < c then N else c) else 1
end
end PD

set_option exponentiation.threshold 600
/-! law k40 -/
namespace PD
open PySem PySem.Spec PyProof.Rows L2 Evl SL
section
variable {po : D → Prop} {xx : Exn → Prop} {κ : PK} {ρ : Env}
theorem dI_inj {u v : List Int} (e : dI u = dI v) : u = v := by
  unfold dI at e
  injection e with e
  have := congrArg intsD e
  rw [intsD_map, intsD_map] at this
  exact this
theorem str_pl : ∀ {ss : List Str}, ss.all PyData.strOk = true → D.plA (ss.map D.str) = true ∧ D.depA (ss.map D.str) = 0
  | [], _ => by simp [D.plA, D.depA]
  | x :: r, h => by
    rw [List.all_cons, Bool.and_eq_true] at h
    have ih := str_pl h.2
    simp [D.plA, D.depA, D.pl, D.dep, ih.1, ih.2, h.1]
theorem strs_same {neg : Bool} {ss : List Str} {k : D → Prop} (hs : ss.all PyData.strOk = true) (h : k (.bl (ng neg true))) : pEqD neg (.lst (ss.map D.str)) (.lst (ss.map D.str)) k :=
  pEqD_pl (by simp only [D.pl]; exact (str_pl hs).1) (by simp only [D.pl]; exact (str_pl hs).1) (by simp only [D.dep, (str_pl hs).2]; decide) (by simp only [D.dep, (str_pl hs).2]; decide) fun b hb => by rw [hb.mpr rfl]; exact h
theorem mo_ms {n j : Nat} {ms : List Mv} (hO : ∀ m ∈ ms, OkM n j m) (hn : n ≤ 8) (hj : j ≤ 110) : Mo 110 (dMs ms) := (mo_lst (N := 14000) fun x hx => by
  obtain ⟨m, hm, rfl⟩ := List.mem_map.mp hx
  exact it_mv (hO m hm) hn hj).1
theorem e0 {d x : D} (rd : Ro 121 d) (mq : Mq x) (hz : ∀ mv : Mv, x = dMv mv → mv.2.2.natAbs < 2 ^ 110) (h1 : isRowD d = false → po (.str "row")) (h2 : ∀ ns : List Int, d = dI ns → IsRow ns → okMvD (ns.length : Int) x = false → po (.str "move"))
    (h3 : ∀ ns : List Int, d = dI ns → IsRow ns → okMvD (ns.length : Int) x = true → po (.str "none")) : G_error40 [.int 0, d, x] po xx :=
  g_error40_0 fun po' xx' E => g_movedE rd mq hz (fun q => E.row (h1 q)) (fun ns a b c => E.mv (h2 ns a b c)) fun ns a b c => E.nx (h3 ns a b c)
theorem e12 {door : Int} {d x : D} (hd : door = 1 ∨ door = 2) (rd : Ro 121 d) (me : Mo 110 x) (h1 : isRowD d = false → po (.str "row")) (h2 : ∀ ns : List Int, d = dI ns → IsRow ns → okMsD (ns.length : Int) x = false → po (.str "moves"))
    (h3 : ∀ ns : List Int, d = dI ns → IsRow ns → okMsD (ns.length : Int) x = true → po (.str "none")) : G_error40 [.int door, d, x] po xx := by
  rcases hd with rfl | rfl
  · exact g_error40_1 fun po' xx' E => g_row_afterE rd me (fun q => E.row (h1 q)) (fun ns a b c => E.mvs (h2 ns a b c)) fun ns a b c => E.nx (h3 ns a b c)
  · exact g_error40_2 fun po' xx' E => g_walk_rowsE rd me (fun q => E.row (h1 q)) (fun ns a b c => E.mvs (h2 ns a b c)) fun ns a b c => E.nx (h3 ns a b c)
theorem e3 {d x : D} (me : Mo 110 x) (h2 : okMsD 8 x = false → po (.str "moves")) (h3 : okMsD 8 x = true → po (.str "none")) : G_error40 [.int 3, d, x] po xx :=
  g_error40_3 fun po' xx' E => g_mergedE me (fun q => E.mvs (h2 q)) fun q => E.nx (h3 q)
theorem ok012 {n : Int} (h : 0 < n) : okMvD n (.tup [.int 0, .int 1, .int 2]) = true := by
  show (isMvD (.tup [.int 0, .int 1, .int 2]) && decide ((0 : Int) < n)) = true
  rw [decide_eq_true h]
  decide
theorem mq_3 {a b c : Int} : Mq (.tup [.int a, .int b, .int c]) := ⟨rfl, fun ds e => by
  cases e
  refine ⟨fun x hx => ?_, by show 3 ≤ 90000; decide⟩
  simp only [List.mem_cons, List.mem_nil_iff, or_false] at hx
  rcases hx with rfl | rfl | rfl <;> rfl⟩
theorem ro_row {ns : List Int} (h : Sz 120 ns) : Ro 121 (dI ns) := ro_ints fun x hx => Nat.lt_trans (h x hx) (by decide)
/-- what the turns know -/
structure T40 (n : Nat) (ws : List Int) (ms : List Mv) (bad odd lost : D) : Prop where
  n2 : 2 ≤ n
  n8 : n ≤ 8
  r : IsRow ws
  l : ws.length = n
  z : Sz 120 ws
  o : ∀ m ∈ ms, OkM n 5 m
  m40 : ms.length ≤ 40
  b : NoRs bad
  q : NoM (n : Int) odd
  t : NoMs (n : Int) lost
section
variable {n : Nat} {ws : List Int} {ms : List Mv} {bad odd lost : D}
theorem T40.rowT (T : T40 n ws ms bad odd lost) {P : Prop} (h : isRowD (dI ws) = false) : P := by rw [isRowD_row T.r] at h; cases h
theorem T40.no (T : T40 n ws ms bad odd lost) {P : Prop} {ns : List Int} (e : bad = dI ns) (hr : IsRow ns) : P := by
  have := T.b.n.no
  rw [e, isRowD_row hr] at this; cases this
theorem T40.len (T : T40 n ws ms bad odd lost) {ns : List Int} (e : dI ws = dI ns) : (ns.length : Int) = (n : Int) := by rw [← dI_inj e, T.l]
/-- door 0 -/
theorem T40.a (T : T40 n ws ms bad odd lost) {x : D} (mq : Mq x) (hz : ∀ mv : Mv, x = dMv mv → mv.2.2.natAbs < 2 ^ 110) (h : po (.str "row")) : G_error40 [.int 0, bad, x] po xx := e0 T.b.n.r mq hz (fun _ => h) (fun ns e hr _ => T.no e hr) fun ns e hr _ => T.no e hr
theorem T40.b0 (T : T40 n ws ms bad odd lost) (h : po (.str "move")) : G_error40 [.int 0, dI ws, odd] po xx := e0 (ro_row T.z) T.q.q T.q.z (fun q => T.rowT q) (fun ns e hr _ => h) fun ns e hr q => by rw [T.len e, T.q.no] at q; cases q
theorem T40.c0 (T : T40 n ws ms bad odd lost) (h : po (.str "none")) : G_error40 [.int 0, dI ws, .tup [.int 0, .int 1, .int 2]] po xx := e0 (ro_row T.z) mq_3 (z_int (by decide)) (fun q => T.rowT q) (fun ns e hr q => by
  have := T.n2
  rw [T.len e, ok012 (by omega)] at q; cases q) fun ns e hr _ => h
/-- doors 1 and 2 -/
theorem T40.a12 (T : T40 n ws ms bad odd lost) {door : Int} (hd : door = 1 ∨ door = 2) {x : D} (mx : Mo 110 x) (h : po (.str "row")) : G_error40 [.int door, bad, x] po xx := e12 hd T.b.n.r mx (fun _ => h) (fun ns e hr _ => T.no e hr) fun ns e hr _ => T.no e hr
theorem T40.b12 (T : T40 n ws ms bad odd lost) {door : Int} (hd : door = 1 ∨ door = 2) (h : po (.str "moves")) : G_error40 [.int door, dI ws, lost] po xx := e12 hd (ro_row T.z) T.t.q (fun q => T.rowT q) (fun ns e hr _ => h) fun ns e hr q => by rw [T.len e, T.t.no] at q; cases q
theorem T40.c12 (T : T40 n ws ms bad odd lost) {door : Int} (hd : door = 1 ∨ door = 2) (h : po (.str "none")) : G_error40 [.int door, dI ws, dMs ms] po xx := e12 hd (ro_row T.z) (mo_ms T.o T.n8 (by decide)) (fun q => T.rowT q) (fun ns e hr q => by
  rw [T.len e, okMs_of T.m40 T.n8 T.o] at q; cases q) fun ns e hr _ => h
end
abbrev N_law40 : List Str := ["script", "k", "source", "turn", "width", "weights_here", "deeds", "bad", "odd", "lost", "kept", "door", "good", "wrong", "told", "due", "far"]
def t_law40 (K : PySem.W.Frag) : TS :=
  (tSeq (tFor (iRng1 (tCons (tCB Evl.rMax2 (tCons (tC (.int 1)) (tCons (tCB rMin2 (tCons (tC (.int 6)) (tCons (tCB (Evl.rLenS K) (tCons (tVar 0) tNil)) tNil))) tNil))) tNil)) (gName 1) (tSeq (tAsg (tCallS (sp_openSource K) (WE W0) (tCons (tVar 0) (tCons (tVar 1) tNil))) (gName 2))
    (tFor (iRng1 (tCons (tC (.int 5)) tNil)) (gName 3) (tSeq (tAsg (tCallS (sp_width K) (WE W0) (tCons (tVar 2) (tCons (tVar 0) tNil))) (gName 4))
    (tSeq (tAsg (tCallS (sp_weights K) (WE W0) (tCons (tVar 2) (tCons (tVar 4) (tCons (tC (.int 50)) tNil)))) (gName 5))
    (tSeq (tAsg (tCallS (sp_deeds K) (WE W0) (tCons (tVar 2) (tCons (tVar 4) (tCons (tCallS (sp_draw K) (WE W0) (tCons (tVar 2) (tCons (tC (.int 13)) tNil))) (tCons (tC (.int 30)) tNil))))) (gName 6))
    (tSeq (tPar 7 8 (tCons (tCallS (sp_noRow K) (WE W0) (tCons (tVar 2) (tCons (tVar 5) tNil))) (tCons (tCallS (sp_noMove K) (WE W0) (tCons (tVar 2) (tCons (tVar 4) tNil))) tNil)))
    (tSeq (tAsg (tCallS (sp_noMoves K) (WE W0) (tCons (tVar 2) (tCons (tVar 4) (tCons (tVar 6) tNil)))) (gName 9))
    (tSeq (tAsg (tCB (rReprB K) (tCons (tLst (tCons (tVar 5) (tCons (tVar 6) (tCons (tVar 7) (tCons (tVar 8) (tCons (tVar 9) tNil)))))) tNil)) (gName 10))
    (tSeq (tFor (iRng1 (tCons (tC (.int 3)) tNil)) (gName 11) (tSeq (tAsg (tIf (tTest (tOp rEq (tVar 11) (tC (.int 0)))) (tTup (tCons (tC (.int 0)) (tCons (tC (.int 1)) (tCons (tC (.int 2)) tNil)))) (tVar 6)) (gName 12))
    (tSeq (tAsg (tIf (tTest (tOp rEq (tVar 11) (tC (.int 0)))) (tVar 8) (tVar 9)) (gName 13))
    (tSeq (tAsg (tLst (tCons (tCallS (sp_error40 K) (WE W0) (tCons (tVar 11) (tCons (tVar 7) (tCons (tVar 13) tNil)))) (tCons (tCallS (sp_error40 K) (WE W0) (tCons (tVar 11) (tCons (tVar 7) (tCons (tVar 12) tNil)))) tNil))) (gName 14))
    (tSeq (tDrop (tBM K "list" rAppend (tVar 14) (tCons (tCallS (sp_error40 K) (WE W0) (tCons (tVar 11) (tCons (tVar 5) (tCons (tVar 13) tNil)))) tNil)))
    (tSeq (tAsg (tLst (tCons (tC (.str "row")) (tCons (tC (.str "row")) (tCons (tIf (tTest (tOp rEq (tVar 11) (tC (.int 0)))) (tC (.str "move")) (tC (.str "moves"))) (tCons (tC (.str "none")) tNil))))) (gName 15))
    (tIfS (tTest (tOp (rNeD K) (tOp (rCatQ K) (tVar 14) (tLst (tCons (tCallS (sp_error40 K) (WE W0) (tCons (tVar 11) (tCons (tVar 5) (tCons (tVar 12) tNil)))) tNil))) (tVar 15))) (tRet (tC (.bl false))) tNext)))))))
    (tSeq (tAsg (tCallS (sp_noMoves K) (WE W0) (tCons (tVar 2) (tCons (tC (.int 8)) (tCons (tVar 6) tNil)))) (gName 16))
    (tSeq (tIfS (tTest (tOp (rNeD K) (tLst (tCons (tCallS (sp_error40 K) (WE W0) (tCons (tC (.int 3)) (tCons (tC .non) (tCons (tVar 16) tNil)))) (tCons (tCallS (sp_error40 K) (WE W0) (tCons (tC (.int 3)) (tCons (tC .non) (tCons (tVar 6) tNil)))) tNil))) (tLst (tCons (tC (.str "moves")) (tCons (tC (.str "none")) tNil))))) (tRet (tC (.bl false))) tNext)
    (tIfS (tTest (tOp rNe (tCB (rReprB K) (tCons (tLst (tCons (tVar 5) (tCons (tVar 6) (tCons (tVar 7) (tCons (tVar 8) (tCons (tVar 9) tNil)))))) tNil)) (tVar 10))) (tRet (tC (.bl false))) tNext)))))))))))))
    (tRet (tAndV (tOp rEq (tCallS (sp_error40 K) (WE W0) (tCons (tC (.int 0)) (tCons (tLst (tCons (tC (.int 1)) (tCons (tC (.int 1)) tNil))) (tCons (tTup (tCons (tC (.int 2)) (tCons (tC (.int 1)) (tCons (tC (.int 2)) tNil)))) tNil)))) (tC (.str "move"))) (tOp rEq (tCallS (sp_error40 K) (WE W0) (tCons (tC (.int 1)) (tCons (tLst (tCons (tC (.int 1)) (tCons (tC (.int 1)) tNil))) (tCons (tLst (tCons (tTup (tCons (tC (.int 2)) (tCons (tC (.int 1)) (tCons (tC (.int 2)) tNil)))) tNil)) tNil)))) (tC (.str "moves"))))))
def p_law40 : PS' :=
  (kSeq (kFor (pwR1 (pCons (pCB pMax2 (pCons (pC (.int 1)) (pCons (pCB pMin2 (pCons (pC (.int 6)) (pCons (pCB pLen (pCons (pV 0) pNil)) pNil))) pNil))) pNil)) (gvN 1) (kSeq (kAsgS 2 G_openSource (pCons (pV 0) (pCons (pV 1) pNil)))
    (kFor (pwR1 (pCons (pC (.int 5)) pNil)) (gvN 3) (kSeq (kAsgD 4 (pCallS 2 1 G_width (pCons (pV 0) pNil)))
    (kSeq (kAsgD 5 (pCallS 2 2 G_weights (pCons (pV 4) (pCons (pC (.int 50)) pNil))))
    (kSeq (kAsgD 6 (pCallS 2 3 G_deeds (pCons (pV 4) (pCons (pCallS 2 1 G_draw (pCons (pC (.int 13)) pNil)) (pCons (pC (.int 30)) pNil)))))
    (kSeq (kPar 7 8 (pCallS 2 1 G_noRow (pCons (pV 5) pNil)) (pCallS 2 1 G_noMove (pCons (pV 4) pNil)) (stW .e) (stW .e))
    (kSeq (kAsgD 9 (pCallS 2 2 G_noMoves (pCons (pV 4) (pCons (pV 6) pNil))))
    (kSeq (kAsgD 10 (pCB pRepr (pCons (pLst (pCons (pV 5) (pCons (pV 6) (pCons (pV 7) (pCons (pV 8) (pCons (pV 9) pNil)))))) pNil)))
    (kSeq (kFor (pwR1 (pCons (pC (.int 3)) pNil)) (gvN 11) (kSeq (kAsgD 12 (pIf (qTest (pOp (pEq false) (pV 11) (pC (.int 0)))) (pTup (pCons (pC (.int 0)) (pCons (pC (.int 1)) (pCons (pC (.int 2)) pNil)))) (pV 6)))
    (kSeq (kAsgD 13 (pIf (qTest (pOp (pEq false) (pV 11) (pC (.int 0)))) (pV 8) (pV 9)))
    (kSeq (kAsgF 14 (pLst (pCons (pCall 3 G_error40 (pCons (pV 11) (pCons (pV 7) (pCons (pV 13) pNil)))) (pCons (pCall 3 G_error40 (pCons (pV 11) (pCons (pV 7) (pCons (pV 12) pNil)))) pNil))))
    (kSeq (kApp 14 (pCall 3 G_error40 (pCons (pV 11) (pCons (pV 5) (pCons (pV 13) pNil)))))
    (kSeq (kAsgD 15 (pLst (pCons (pC (.str "row")) (pCons (pC (.str "row")) (pCons (pIf (qTest (pOp (pEq false) (pV 11) (pC (.int 0)))) (pC (.str "move")) (pC (.str "moves"))) (pCons (pC (.str "none")) pNil))))))
    (kIf (qTest (pOp (pEqD true) (pOp pCat (pVb 14) (pLst (pCons (pCall 3 G_error40 (pCons (pV 11) (pCons (pV 5) (pCons (pV 12) pNil)))) pNil))) (pV 15))) (kRet (pC (.bl false))) kNext)))))))
    (kSeq (kAsgD 16 (pCallS 2 2 G_noMoves (pCons (pC (.int 8)) (pCons (pV 6) pNil))))
    (kSeq (kIf (qTest (pOp (pEqD true) (pLst (pCons (pCall 3 G_error40 (pCons (pC (.int 3)) (pCons (pC .non) (pCons (pV 16) pNil)))) (pCons (pCall 3 G_error40 (pCons (pC (.int 3)) (pCons (pC .non) (pCons (pV 6) pNil)))) pNil))) (pLst (pCons (pC (.str "moves")) (pCons (pC (.str "none")) pNil))))) (kRet (pC (.bl false))) kNext)
    (kIf (qTest (pOp (pEq true) (pCB pRepr (pCons (pLst (pCons (pV 5) (pCons (pV 6) (pCons (pV 7) (pCons (pV 8) (pCons (pV 9) pNil)))))) pNil)) (pV 10))) (kRet (pC (.bl false))) kNext)))))))))))))
    (kRet (pAndV (pOp (pEq false) (pCall 3 G_error40 (pCons (pC (.int 0)) (pCons (pLst (pCons (pC (.int 1)) (pCons (pC (.int 1)) pNil))) (pCons (pTup (pCons (pC (.int 2)) (pCons (pC (.int 1)) (pCons (pC (.int 2)) pNil)))) pNil)))) (pC (.str "move"))) (pOp (pEq false) (pCall 3 G_error40 (pCons (pC (.int 1)) (pCons (pLst (pCons (pC (.int 1)) (pCons (pC (.int 1)) pNil))) (pCons (pLst (pCons (pTup (pCons (pC (.int 2)) (pCons (pC (.int 1)) (pCons (pC (.int 2)) pNil)))) pNil)) pNil)))) (pC (.str "moves"))))))
def G_law40 : GD := Gof0 p_law40 false 16
def sp_law40 (K : PySem.W.Frag) : Sp := spD (gx K) 1 false .f 10700190000000000 G_law40
theorem ss_law40 {K : PySem.W.Frag} : SS (gx K) W0 .f 10700190000000000 (t_law40 K) p_law40 := by
  unfold t_law40 p_law40
  exact SS.mono ((ss_seq (ss_for (sw_rng1 (sa_ct ((sx_cb (sa_ct (sx_int).ft (sa_ct ((sx_cb (sa_ct (sx_int).ft (sa_ct ((sx_cb (sa_ct (sx_v).et sa_nil) oa_len)).ft sa_nil)) oa_min2)).ft sa_nil)) oa_max2)).ft sa_nil)) sg_name (ss_seq (ss_asgS (sa_ct (sx_v).et (sa_ct (sx_v).et sa_nil)) lnG_openSource)
    (ss_for (sw_rng1 (sa_ct (sx_int).ft sa_nil)) sg_name (ss_seq (ss_asgD (sx_callSE (i := 2) (.inl rfl) (sa_ce sx_v sa_nil)))
    (ss_seq (ss_asgD ((sx_callSE (i := 2) (.inr rfl) (sa_ce sx_v (sa_ce (sx_int).fe sa_nil)))).fe)
    (ss_seq (ss_asgD ((sx_callSE (i := 2) (.inr rfl) (sa_ce sx_v (sa_ce ((sx_callSE (i := 2) (.inr rfl) (sa_ce (sx_int).fe sa_nil))).fe (sa_ce (sx_int).fe sa_nil))))).fe)
    (ss_seq (ss_par (by decide) (.inl rfl) (.inl rfl) (sx_callSE (i := 2) (.inl rfl) (sa_ce sx_v sa_nil)) (sx_callSE (i := 2) (.inl rfl) (sa_ce sx_v sa_nil)))
    (ss_seq (ss_asgD (sx_callSE (i := 2) (.inl rfl) (sa_ce sx_v (sa_ce sx_v sa_nil))))
    (ss_seq (ss_asgD ((sx_cb (sa_ct ((sx_lst (sa_ce sx_v (sa_ce sx_v (sa_ce sx_v (sa_ce sx_v (sa_ce sx_v sa_nil))))))).ft sa_nil) oa_repr)).fe)
    (ss_seq (ss_for (sw_rng1 (sa_ct (sx_int).ft sa_nil)) sg_name (ss_seq (ss_asgD (sx_if (sb_test (sx_op (sx_v).et (sx_int).ft os_eq)) (sx_tup (sa_ce (sx_int).fe (sa_ce (sx_int).fe (sa_ce (sx_int).fe sa_nil)))) sx_v))
    (ss_seq (ss_asgD (sx_if (sb_test (sx_op (sx_v).et (sx_int).ft os_eq)) sx_v sx_v))
    (ss_seq (ss_asgF (sx_lst (sa_ce (sx_callE (.inl rfl) (sa_ce sx_v (sa_ce sx_v (sa_ce sx_v sa_nil)))) (sa_ce (sx_callE (.inl rfl) (sa_ce sx_v (sa_ce sx_v (sa_ce sx_v sa_nil)))) sa_nil))))
    (ss_seq (ss_app (i := 14) (sx_callE (.inl rfl) (sa_ce sx_v (sa_ce sx_v (sa_ce sx_v sa_nil)))))
    (ss_seq (ss_asgD ((sx_lst (sa_ce (sx_str).fe (sa_ce (sx_str).fe (sa_ce ((sx_if (sb_test (sx_op (sx_v).et (sx_int).ft os_eq)) sx_str sx_str)).fe (sa_ce (sx_str).fe sa_nil)))))).fe)
    (ss_if (sb_test (sx_op ((sx_cat sx_vb ((sx_lst (sa_ce (sx_callE (.inl rfl) (sa_ce sx_v (sa_ce sx_v (sa_ce sx_v sa_nil)))) sa_nil))).fb)).ft (sx_v).et os_neD)) (ss_retF sx_bl) ss_next)))))))
    (ss_seq (ss_asgD (sx_callSE (i := 2) (.inl rfl) (sa_ce (sx_int).fe (sa_ce sx_v sa_nil))))
    (ss_seq (ss_if (sb_test (sx_op ((sx_lst (sa_ce (sx_callE (.inl rfl) (sa_ce (sx_int).fe (sa_ce (sx_non).fe (sa_ce sx_v sa_nil)))) (sa_ce (sx_callE (.inl rfl) (sa_ce (sx_int).fe (sa_ce (sx_non).fe (sa_ce sx_v sa_nil)))) sa_nil)))).ft ((sx_lst (sa_ce (sx_str).fe (sa_ce (sx_str).fe sa_nil)))).ft os_neD)) (ss_retF sx_bl) ss_next)
    (ss_if (sb_test (sx_op ((sx_cb (sa_ct ((sx_lst (sa_ce sx_v (sa_ce sx_v (sa_ce sx_v (sa_ce sx_v (sa_ce sx_v sa_nil))))))).ft sa_nil) oa_repr)).ft (sx_v).et os_ne)) (ss_retF sx_bl) ss_next)))))))))))))
    (ss_retF (sx_andV ((sx_op ((sx_callE (.inl rfl) (sa_ce (sx_int).fe (sa_ce ((sx_lst (sa_ce (sx_int).fe (sa_ce (sx_int).fe sa_nil)))).fe (sa_ce (sx_tup (sa_ce (sx_int).fe (sa_ce (sx_int).fe (sa_ce (sx_int).fe sa_nil)))) sa_nil))))).et (sx_str).ft os_eq)).ft (sx_op ((sx_callE (.inl rfl) (sa_ce (sx_int).fe (sa_ce ((sx_lst (sa_ce (sx_int).fe (sa_ce (sx_int).fe sa_nil)))).fe (sa_ce ((sx_lst (sa_ce (sx_tup (sa_ce (sx_int).fe (sa_ce (sx_int).fe (sa_ce (sx_int).fe sa_nil)))) sa_nil))).fe sa_nil))))).et (sx_str).ft os_eq))))) (by decide +kernel)
theorem ln_law40 {K : PySem.W.Frag} {vs : List V} {H : Hp} {Q : VK} {E : XK} (h : sp_law40 K vs H Q E) : vs.length = (["script"] : List Str).length := spD_len h
theorem rd_law40 {K : PySem.W.Frag} {vs : List V} {H : Hp} {Q : VK} {E : XK} (h : sp_law40 K vs H Q E) : t_law40 K (fin Q) (L2.start N_law40 vs) H := rd_def0 ss_law40 (.inr rfl) (by decide +kernel) h
theorem g_law40 {ns : List Int} (h63 : ns.length ≤ 63) (h : po (.bl true)) : G_law40 [.scr ns] po xx := by
  refine for_ind (ds := rngD 0 (cnt (ns.length : Int) 6).toNat) (fun q hq => ⟨ns.length, rfl, turns (by decide) (fun m e _ _ => by subst e; exact hq) (by decide)⟩) (by rw [rngO_len]; have : cnt (ns.length : Int) 6 ≤ 6 := by { unfold cnt; split <;> split <;> omega }; omega) (fun i ρ => ∃ z1 z2 z3 z4 z5 z6 z7 z8 z9 z10 z11 z12 z13 z14 z15 z16 : Option Wd, ρ = [some (.d (.scr ns)), z1, z2, z3, z4, z5, z6, z7, z8, z9, z10, z11, z12, z13, z14, z15, z16]) ⟨_, _, _, _, _, _, _, _, _, _, _, _, _, _, _, _, rfl⟩ ?_ ?_
  · rintro i d ρ hi ⟨z1, z2, z3, z4, z5, z6, z7, z8, z9, z10, z11, z12, z13, z14, z15, z16, rfl⟩
    obtain ⟨hlt, rfl⟩ := rngO_at hi
    have hc : cnt (ns.length : Int) 6 ≤ 6 := by unfold cnt; split <;> split <;> omega
    refine ⟨⟨ns, 0 + (i : Int), rfl, by omega, by omega⟩, ?_⟩
    refine for_ind (ds := rngD 0 5) (fun q h => ⟨by decide, by decide, h⟩) (by rw [rngO_len]; decide) (fun t ρ => ∃ z3 z4 z5 z6 z7 z8 z9 z10 z11 z12 z13 z14 z15 z16 : Option Wd, ρ = [some (.d (.scr ns)), some (.d (.int (0 + (i : Int)))), some .s, z3, z4, z5, z6, z7, z8, z9, z10, z11, z12, z13, z14, z15, z16]) ⟨_, _, _, _, _, _, _, _, _, _, _, _, _, _, rfl⟩ ?_ ?_
    · rintro t d ρ ht ⟨z3, z4, z5, z6, z7, z8, z9, z10, z11, z12, z13, z14, z15, z16, rfl⟩
      obtain ⟨_, rfl⟩ := rngO_at ht
      refine ⟨trivial, rfl, g_width fun n n2 n8 => ?_⟩
      refine ⟨trivial, rfl, g_weights n2 n8 (by decide) (by decide) fun ws hR hl hz => ?_⟩
      refine ⟨trivial, trivial, rfl, g_draw (by decide) (by decide) fun m m0 m1 => ⟨rfl, g_deeds (many := m) (j := 5) n2 n8 m0 (by omega) (by decide) (by decide) (by decide) fun ms hml hO => ?_⟩⟩
      have h12 : ms.length ≤ 12 := by omega
      refine ⟨trivial, rfl, g_noRow hR hz fun bad nb => ⟨trivial, rfl, g_noMove n8 fun odd no => ?_⟩⟩
      refine ⟨trivial, rfl, g_noMoves n8 n8 (by decide) h12 hO fun lost nl => ?_⟩
      have T : T40 n ws ms bad odd lost := ⟨n2, n8, hR, hl, hz, hO, by omega, nb, no, nl⟩
      have md : Mo 110 (dMs ms) := mo_ms hO n8 (by decide)
      have s5 : Shs (5 * (2000000 + 2) + 3) 5 (.lst [dI ws, dMs ms, bad, odd, lost]) := shs_lst (n := 2000000) (dp := 4) (ds := [dI ws, dMs ms, bad, odd, lost]) fun x hx => by
        simp only [List.mem_cons, List.mem_nil_iff, or_false] at hx
        rcases hx with rfl | rfl | rfl | rfl | rfl
        · exact (shs_ints (l := 9) (fun x hx => Nat.lt_trans (hz x hx) (by decide)) (by omega)).mono (by decide) (by decide)
        · exact (shs_dMs hO (by omega) (by decide) (by omega)).mono (by decide) (by decide)
        · exact nb.sh
        · exact no.sh.mono (by decide) (by decide)
        · exact nl.sh.mono (by decide) (Nat.le_refl _)
      refine ⟨by show 5 ≤ 100000; decide, pRepr_of s5 (by decide) (by decide) ?_⟩
      refine for_ind (ds := rngD 0 3) (fun q h => ⟨by decide, by decide, h⟩) (by rw [rngO_len]; decide) (fun u ρ => ∃ z11 z12 z13 z14 z15 z16 : Option Wd, ρ = [some (.d (.scr ns)), some (.d (.int (0 + (i : Int)))), some .s, some (.d (.int (0 + (t : Int)))), some (.d (.int (n : Int))), some (.d (dI ws)), some (.d (dMs ms)), some (.d bad), some (.d odd), some (.d lost), some (.d (.str (txD (.lst [dI ws, dMs ms, bad, odd, lost])))), z11, z12, z13, z14, z15, z16]) ⟨_, _, _, _, _, _, rfl⟩ ?_ ?_
      · rintro u d ρ hu ⟨z11, z12, z13, z14, z15, z16, rfl⟩
        obtain ⟨hu3, rfl⟩ := rngO_at hu
        have hd : u = 0 ∨ u = 1 ∨ u = 2 := by omega
        rcases hd with rfl | hd
        · refine pEq_int fun b hb => ite_b (fun _ => ?_) fun e => absurd (hb.mpr (by decide)) (by intro z; rw [z] at e; cases e)
          refine ⟨by show 3 ≤ 100000; decide, ?_⟩
          refine pEq_int fun b hb => ite_b (fun _ => ?_) fun e => absurd (hb.mpr (by decide)) (by intro z; rw [z] at e; cases e)
          refine ⟨rfl, T.a no.q no.z ⟨rfl, T.a mq_3 (z_int (by decide)) ⟨by show 2 ≤ 100000; decide, ?_⟩⟩⟩
          refine ⟨rfl, T.b0 ⟨by show 2 < 100000; decide, ?_⟩⟩
          refine pEq_int fun b hb => ite_b (fun _ => ?_) fun e => absurd (hb.mpr (by decide)) (by intro z; rw [z] at e; cases e)
          refine ⟨by show 4 ≤ 100000; decide, ?_⟩
          refine ⟨rfl, T.c0 ⟨by show 1 ≤ 100000; decide, by show 4 ≤ 100000; decide, strs_same (ss := ["row", "row", "move", "none"]) (by decide +kernel) ?_⟩⟩
          exact ⟨_, _, _, _, _, _, rfl⟩
        · have hd' : (0 + (u : Int)) = 1 ∨ (0 + (u : Int)) = 2 := by omega
          refine pEq_int fun b hb => ite_b (fun e => absurd (hb.mp e) (by omega)) fun _ => ?_
          refine pEq_int fun b hb => ite_b (fun e => absurd (hb.mp e) (by omega)) fun _ => ?_
          refine ⟨rfl, T.a12 hd' nl.q ⟨rfl, T.a12 hd' md ⟨by show 2 ≤ 100000; decide, ?_⟩⟩⟩
          refine ⟨rfl, T.b12 hd' ⟨by show 2 < 100000; decide, ?_⟩⟩
          refine pEq_int fun b hb => ite_b (fun e => absurd (hb.mp e) (by omega)) fun _ => ?_
          refine ⟨by show 4 ≤ 100000; decide, ?_⟩
          refine ⟨rfl, T.c12 hd' ⟨by show 1 ≤ 100000; decide, by show 4 ≤ 100000; decide, strs_same (ss := ["row", "row", "moves", "none"]) (by decide +kernel) ?_⟩⟩
          exact ⟨_, _, _, _, _, _, rfl⟩
      · rintro ρ ⟨z11, z12, z13, z14, z15, z16, rfl⟩
        have o8 : ∀ x ∈ ms, OkM 8 5 x := fun x hx => ⟨by have := (hO x hx).s; omega, (hO x hx).t, (hO x hx).tb, (hO x hx).g, (hO x hx).z⟩
        have d8 : okMsD 8 (dMs ms) = true := okMs_of (n := 8) (by omega) (by decide) o8
        refine ⟨trivial, rfl, g_noMoves (n := 8) (by decide) n8 (by decide) h12 hO fun far nf => ?_⟩
        have f8 : okMsD 8 far = false := nf.no
        refine ⟨rfl, e3 nf.q (fun _ => ⟨rfl, e3 md (fun q => by rw [d8] at q; cases q) fun _ => ⟨by show 2 ≤ 100000; decide, by show 2 ≤ 100000; decide, strs_same (ss := ["moves", "none"]) (by decide +kernel) ?_⟩⟩) fun q => by rw [f8] at q; cases q⟩
        refine ⟨by show 5 ≤ 100000; decide, pRepr_of s5 (by decide) (by decide) (pEq_sameS ?_)⟩
        exact ⟨_, _, _, _, _, _, _, _, _, _, _, _, _, _, rfl⟩
    · rintro ρ ⟨z3, z4, z5, z6, z7, z8, z9, z10, z11, z12, z13, z14, z15, z16, rfl⟩
      exact ⟨_, _, _, _, _, _, _, _, _, _, _, _, _, _, _, _, rfl⟩
  · rintro ρ ⟨z1, z2, z3, z4, z5, z6, z7, z8, z9, z10, z11, z12, z13, z14, z15, z16, rfl⟩
    have r11 : isRowD (dI [1, 1]) = true := isRowD_row one_one
    have s11 : Ro 121 (dI [1, 1]) := ro_ints fun x hx => by
      simp only [List.mem_cons, List.mem_nil_iff, or_false] at hx
      rcases hx with rfl | rfl <;> decide
    have m1 : Mo 110 (.lst [.tup [.int 2, .int 1, .int 2]]) := (mo_lst (N := 460) fun x hx => by
      rw [List.mem_singleton.mp hx]
      exact (nom_3 (n := 0) (by decide) (by decide) (by decide) (by decide)).it (Nat.le_refl _)).1
    refine ⟨by show 2 ≤ 100000; decide, by show 3 ≤ 100000; decide, rfl, e0 (d := dI [1, 1]) s11 mq_3 (z_int (by decide)) (fun q => by rw [r11] at q; cases q) (fun ns e hr _ => pEq_sameS ?_) fun ns e hr q => ?_⟩
    · refine ⟨by show 2 ≤ 100000; decide, by show 3 ≤ 100000; decide, by show 1 ≤ 100000; decide, rfl, e12 (.inl rfl) (d := dI [1, 1]) s11 m1 (fun q => by rw [r11] at q; cases q) (fun ns e hr _ => pEq_sameS h) fun ns e hr q => ?_⟩
      rw [← dI_inj e] at q
      have : okMsD (([1, 1] : List Int).length : Int) (.lst [.tup [.int 2, .int 1, .int 2]]) = false := by decide
      rw [this] at q; cases q
    · rw [← dI_inj e] at q
      have : okMvD (([1, 1] : List Int).length : Int) (.tup [.int 2, .int 1, .int 2]) = false := by decide
      rw [this] at q; cases q
end
end PD

namespace PD
open PySem PySem.Spec PyProof.Rows L2 Evl SL
/-! ### the text by places, and what the top has written -/
def topS (i : Nat) : Stmt := PySem.Challenge.pw_sliders_k40_errors_of_moves.main.body.getD i (.Pass ⟨0, 0, 0, 0⟩)
abbrev s_is_whole : Stmt := topS 27
abbrev s_has_slider_length : Stmt := topS 28
abbrev s_common_divisor : Stmt := topS 31
abbrev s_are_there : Stmt := topS 43
abbrev s_weights_after : Stmt := topS 45
abbrev s_openSource : Stmt := topS 47
abbrev s_draw : Stmt := topS 48
abbrev s_divisor : Stmt := topS 49
abbrev s_kind46 : Stmt := topS 56
abbrev s_are_weights : Stmt := topS 29
abbrev s_reduced : Stmt := topS 32
abbrev s_is_move : Stmt := topS 35
abbrev s_plain : Stmt := topS 50
abbrev s_width : Stmt := topS 51
abbrev s_any : Stmt := topS 52
abbrev s_noRow : Stmt := topS 57
abbrev s_noMove : Stmt := topS 58
abbrev s_is_row : Stmt := topS 26
abbrev s_is_moves : Stmt := topS 36
abbrev s_check_move : Stmt := topS 41
abbrev s_row_behind : Stmt := topS 44
abbrev s_weights : Stmt := topS 53
abbrev s_share : Stmt := topS 54
abbrev s_noMoves : Stmt := topS 59
abbrev s_check_row : Stmt := topS 30
abbrev s_check_moves : Stmt := topS 42
abbrev s_deeds : Stmt := topS 55
abbrev s_moved : Stmt := topS 37
abbrev s_row_after : Stmt := topS 38
abbrev s_walk_rows : Stmt := topS 39
abbrev s_merged : Stmt := topS 40
abbrev s_error40 : Stmt := topS 60
abbrev s_law40 : Stmt := topS 61
structure Tx (K : PySem.W.Frag) (mg : Str → Option Value) : Type where
  f_is_whole : Addr
  d_is_whole : FuncData
  F_is_whole : Fun K "is_whole" "is_whole" s_is_whole f_is_whole d_is_whole
  g_is_whole : mg "is_whole" = some (.ref f_is_whole)
  b_is_whole : Binds K d_is_whole ["value"] []
  f_has_slider_length : Addr
  d_has_slider_length : FuncData
  F_has_slider_length : Fun K "has_slider_length" "has_slider_length" s_has_slider_length f_has_slider_length d_has_slider_length
  g_has_slider_length : mg "has_slider_length" = some (.ref f_has_slider_length)
  b_has_slider_length : Binds K d_has_slider_length ["value"] []
  f_common_divisor : Addr
  d_common_divisor : FuncData
  F_common_divisor : Fun K "common_divisor" "common_divisor" s_common_divisor f_common_divisor d_common_divisor
  g_common_divisor : mg "common_divisor" = some (.ref f_common_divisor)
  b_common_divisor : Binds K d_common_divisor ["numbers"] []
  f_are_there : Addr
  d_are_there : FuncData
  F_are_there : Fun K "are_there" "are_there" s_are_there f_are_there d_are_there
  g_are_there : mg "are_there" = some (.ref f_are_there)
  b_are_there : Binds K d_are_there ["moves", "sliders"] []
  f_weights_after : Addr
  d_weights_after : FuncData
  F_weights_after : Fun K "weights_after" "weights_after" s_weights_after f_weights_after d_weights_after
  g_weights_after : mg "weights_after" = some (.ref f_weights_after)
  b_weights_after : Binds K d_weights_after ["weights", "move"] []
  f_openSource : Addr
  d_openSource : FuncData
  F_openSource : Fun K "_law_open_source" "_law_open_source" s_openSource f_openSource d_openSource
  g_openSource : mg "_law_open_source" = some (.ref f_openSource)
  b_openSource : Binds K d_openSource ["script", "k"] []
  f_draw : Addr
  d_draw : FuncData
  F_draw : Fun K "_law_draw" "_law_draw" s_draw f_draw d_draw
  g_draw : mg "_law_draw" = some (.ref f_draw)
  b_draw : Binds K d_draw ["source", "limit"] []
  f_divisor : Addr
  d_divisor : FuncData
  F_divisor : Fun K "_law_divisor" "_law_divisor" s_divisor f_divisor d_divisor
  g_divisor : mg "_law_divisor" = some (.ref f_divisor)
  b_divisor : Binds K d_divisor ["one", "other"] []
  f_kind46 : Addr
  d_kind46 : FuncData
  F_kind46 : Fun K "_law_kind" "_law_kind" s_kind46 f_kind46 d_kind46
  g_kind46 : mg "_law_kind" = some (.ref f_kind46)
  b_kind46 : Binds K d_kind46 ["error"] []
  f_are_weights : Addr
  d_are_weights : FuncData
  F_are_weights : Fun K "are_weights" "are_weights" s_are_weights f_are_weights d_are_weights
  g_are_weights : mg "are_weights" = some (.ref f_are_weights)
  b_are_weights : Binds K d_are_weights ["value"] []
  f_reduced : Addr
  d_reduced : FuncData
  F_reduced : Fun K "reduced" "reduced" s_reduced f_reduced d_reduced
  g_reduced : mg "reduced" = some (.ref f_reduced)
  b_reduced : Binds K d_reduced ["numbers"] []
  f_is_move : Addr
  d_is_move : FuncData
  F_is_move : Fun K "is_move" "is_move" s_is_move f_is_move d_is_move
  g_is_move : mg "is_move" = some (.ref f_is_move)
  b_is_move : Binds K d_is_move ["value"] []
  f_plain : Addr
  d_plain : FuncData
  F_plain : Fun K "_law_plain" "_law_plain" s_plain f_plain d_plain
  g_plain : mg "_law_plain" = some (.ref f_plain)
  b_plain : Binds K d_plain ["numbers"] []
  f_width : Addr
  d_width : FuncData
  F_width : Fun K "_law_width" "_law_width" s_width f_width d_width
  g_width : mg "_law_width" = some (.ref f_width)
  b_width : Binds K d_width ["source", "script"] []
  f_any : Addr
  d_any : FuncData
  F_any : Fun K "_law_any" "_law_any" s_any f_any d_any
  g_any : mg "_law_any" = some (.ref f_any)
  b_any : Binds K d_any ["source", "wide"] []
  f_noRow : Addr
  d_noRow : FuncData
  F_noRow : Fun K "_law_no_row" "_law_no_row" s_noRow f_noRow d_noRow
  g_noRow : mg "_law_no_row" = some (.ref f_noRow)
  b_noRow : Binds K d_noRow ["source", "weights_here"] []
  f_noMove : Addr
  d_noMove : FuncData
  F_noMove : Fun K "_law_no_move" "_law_no_move" s_noMove f_noMove d_noMove
  g_noMove : mg "_law_no_move" = some (.ref f_noMove)
  b_noMove : Binds K d_noMove ["source", "width"] []
  f_is_row : Addr
  d_is_row : FuncData
  F_is_row : Fun K "is_row" "is_row" s_is_row f_is_row d_is_row
  g_is_row : mg "is_row" = some (.ref f_is_row)
  b_is_row : Binds K d_is_row ["value"] []
  f_is_moves : Addr
  d_is_moves : FuncData
  F_is_moves : Fun K "is_moves" "is_moves" s_is_moves f_is_moves d_is_moves
  g_is_moves : mg "is_moves" = some (.ref f_is_moves)
  b_is_moves : Binds K d_is_moves ["value"] []
  f_check_move : Addr
  d_check_move : FuncData
  F_check_move : Fun K "check_move" "check_move" s_check_move f_check_move d_check_move
  g_check_move : mg "check_move" = some (.ref f_check_move)
  b_check_move : Binds K d_check_move ["move", "sliders"] []
  f_row_behind : Addr
  d_row_behind : FuncData
  F_row_behind : Fun K "row_behind" "row_behind" s_row_behind f_row_behind d_row_behind
  g_row_behind : mg "row_behind" = some (.ref f_row_behind)
  b_row_behind : Binds K d_row_behind ["row", "moves"] []
  f_weights : Addr
  d_weights : FuncData
  F_weights : Fun K "_law_weights" "_law_weights" s_weights f_weights d_weights
  g_weights : mg "_law_weights" = some (.ref f_weights)
  b_weights : Binds K d_weights ["source", "width", "wide"] []
  f_share : Addr
  d_share : FuncData
  F_share : Fun K "_law_share" "_law_share" s_share f_share d_share
  g_share : mg "_law_share" = some (.ref f_share)
  b_share : Binds K d_share ["source", "wide"] []
  f_noMoves : Addr
  d_noMoves : FuncData
  F_noMoves : Fun K "_law_no_moves" "_law_no_moves" s_noMoves f_noMoves d_noMoves
  g_noMoves : mg "_law_no_moves" = some (.ref f_noMoves)
  b_noMoves : Binds K d_noMoves ["source", "width", "deeds"] []
  f_check_row : Addr
  d_check_row : FuncData
  F_check_row : Fun K "check_row" "check_row" s_check_row f_check_row d_check_row
  g_check_row : mg "check_row" = some (.ref f_check_row)
  b_check_row : Binds K d_check_row ["row"] []
  f_check_moves : Addr
  d_check_moves : FuncData
  F_check_moves : Fun K "check_moves" "check_moves" s_check_moves f_check_moves d_check_moves
  g_check_moves : mg "check_moves" = some (.ref f_check_moves)
  b_check_moves : Binds K d_check_moves ["moves", "sliders"] []
  f_deeds : Addr
  d_deeds : FuncData
  F_deeds : Fun K "_law_deeds" "_law_deeds" s_deeds f_deeds d_deeds
  g_deeds : mg "_law_deeds" = some (.ref f_deeds)
  b_deeds : Binds K d_deeds ["source", "width", "many", "wide"] []
  f_moved : Addr
  d_moved : FuncData
  F_moved : Fun K "moved" "moved" s_moved f_moved d_moved
  g_moved : mg "moved" = some (.ref f_moved)
  b_moved : Binds K d_moved ["row", "move"] []
  f_row_after : Addr
  d_row_after : FuncData
  F_row_after : Fun K "row_after" "row_after" s_row_after f_row_after d_row_after
  g_row_after : mg "row_after" = some (.ref f_row_after)
  b_row_after : Binds K d_row_after ["row", "moves"] []
  f_walk_rows : Addr
  d_walk_rows : FuncData
  F_walk_rows : Fun K "walk_rows" "walk_rows" s_walk_rows f_walk_rows d_walk_rows
  g_walk_rows : mg "walk_rows" = some (.ref f_walk_rows)
  b_walk_rows : Binds K d_walk_rows ["row", "moves"] []
  f_merged : Addr
  d_merged : FuncData
  F_merged : Fun K "merged" "merged" s_merged f_merged d_merged
  g_merged : mg "merged" = some (.ref f_merged)
  b_merged : Binds K d_merged ["moves"] []
  f_error40 : Addr
  d_error40 : FuncData
  F_error40 : Fun K "_law_error" "_law_error" s_error40 f_error40 d_error40
  g_error40 : mg "_law_error" = some (.ref f_error40)
  b_error40 : Binds K d_error40 ["door", "one", "two"] []
  f_law40 : Addr
  d_law40 : FuncData
  F_law40 : Fun K "law" "law" s_law40 f_law40 d_law40
  g_law40 : mg "law" = some (.ref f_law40)
  b_law40 : Binds K d_law40 ["script"] []
  z_ValueError : mg "ValueError" = none
  z_all : mg "all" = none
  z_bool : mg "bool" = none
  z_enumerate : mg "enumerate" = none
  z_int : mg "int" = none
  z_isinstance : mg "isinstance" = none
  z_len : mg "len" = none
  z_list : mg "list" = none
  z_max : mg "max" = none
  z_min : mg "min" = none
  z_range : mg "range" = none
  z_repr : mg "repr" = none
  z_sum : mg "sum" = none
  z_tuple : mg "tuple" = none
  z_type : mg "type" = none
  v_FEWEST_SLIDERS : Tok
  c_FEWEST_SLIDERS : mg "FEWEST_SLIDERS" = some (.int 2 v_FEWEST_SLIDERS)
  v_MOST_MOVES : Tok
  c_MOST_MOVES : mg "MOST_MOVES" = some (.int 40 v_MOST_MOVES)
  v_MOST_SLIDERS : Tok
  c_MOST_SLIDERS : mg "MOST_SLIDERS" = some (.int 8 v_MOST_SLIDERS)
  m_gcd : mg "gcd" = some (.builtin "math.gcd")
  x_EmptyHistoryError : mg "EmptyHistoryError" = some (.ref (adE K "EmptyHistoryError"))
  x_FullError : mg "FullError" = some (.ref (adE K "FullError"))
  x_InvalidFormatError : mg "InvalidFormatError" = some (.ref (adE K "InvalidFormatError"))
  x_InvalidLocksError : mg "InvalidLocksError" = some (.ref (adE K "InvalidLocksError"))
  x_InvalidLogError : mg "InvalidLogError" = some (.ref (adE K "InvalidLogError"))
  x_InvalidMoveError : mg "InvalidMoveError" = some (.ref (adE K "InvalidMoveError"))
  x_InvalidMovesError : mg "InvalidMovesError" = some (.ref (adE K "InvalidMovesError"))
  x_InvalidNumberError : mg "InvalidNumberError" = some (.ref (adE K "InvalidNumberError"))
  x_InvalidRoundError : mg "InvalidRoundError" = some (.ref (adE K "InvalidRoundError"))
  x_InvalidRowError : mg "InvalidRowError" = some (.ref (adE K "InvalidRowError"))
  x_InvalidSharesError : mg "InvalidSharesError" = some (.ref (adE K "InvalidSharesError"))
  x_InvalidSliderError : mg "InvalidSliderError" = some (.ref (adE K "InvalidSliderError"))
  x_LockedError : mg "LockedError" = some (.ref (adE K "LockedError"))
  x_NoMoveError : mg "NoMoveError" = some (.ref (adE K "NoMoveError"))
  x_NoOriginError : mg "NoOriginError" = some (.ref (adE K "NoOriginError"))
  x_NotShortestError : mg "NotShortestError" = some (.ref (adE K "NotShortestError"))
  x_NotStartedError : mg "NotStartedError" = some (.ref (adE K "NotStartedError"))
  x_SliderError : mg "SliderError" = some (.ref (adE K "SliderError"))
  x_StartedError : mg "StartedError" = some (.ref (adE K "StartedError"))
  x_StepError : mg "StepError" = some (.ref (adE K "StepError"))
  x_TooMuchError : mg "TooMuchError" = some (.ref (adE K "TooMuchError"))
  x_moved : mg "moved" = some (.ref (adE K "moved"))
  x_row_after : mg "row_after" = some (.ref (adE K "row_after"))
  mk_InvalidMoveError : MkX K "InvalidMoveError"
  mk_InvalidMovesError : MkX K "InvalidMovesError"
  mk_InvalidRowError : MkX K "InvalidRowError"
  ex : ClsX K nsE
  q_moved : adE K "moved" = f_moved
  q_row_after : adE K "row_after" = f_row_after
  stp : ∀ n, nsE.contains n = true → PySem.W.subIn K (exV K n) (.type "StopIteration") = some false
section
variable {P : Program} {w : World} {K : PySem.W.Frag} {mg : Str → Option Value} {base : Heap}
theorem sc_is_whole : FnScope N_is_whole ["value"] (defScope s_is_whole) := ⟨rfl, rfl, rfl, by decide +kernel, rfl, by decide +kernel, by decide +kernel⟩
theorem ok_is_whole (T : Tx K mg) : FnOk P w K mg base CX0 1 T.f_is_whole T.d_is_whole ["value"] (sp_is_whole K) := by
  refine T.F_is_whole.ok sc_is_whole (fun vs H Q E h => ln_is_whole h) (fun cdv A outer s H vs Q E hr h => ⟨t_is_whole K, ?_, rd_is_whole h⟩)
  exact (pss_one (ps_ret (pe_and (pe_callB call_isi (by rfl) T.z_isinstance (by decide +kernel) (pa_cons (pv 0) (pa_cons (pe_bltn (v := .ty "int") (by rfl) T.z_int (by decide +kernel) rfl) pa_nil))) (pe_one (pe_not (pe_callB call_isi (by rfl) T.z_isinstance (by decide +kernel) (pa_cons (pv 0) (pa_cons (pe_bltn (v := .ty "bool") (by rfl) T.z_bool (by decide +kernel) rfl) pa_nil))))))))

theorem sc_has_slider_length : FnScope N_has_slider_length ["value"] (defScope s_has_slider_length) := ⟨rfl, rfl, rfl, by decide +kernel, rfl, by decide +kernel, by decide +kernel⟩
theorem ok_has_slider_length (T : Tx K mg) : FnOk P w K mg base CX0 1 T.f_has_slider_length T.d_has_slider_length ["value"] (sp_has_slider_length K) := by
  refine T.F_has_slider_length.ok sc_has_slider_length (fun vs H Q E h => ln_has_slider_length h) (fun cdv A outer s H vs Q E hr h => ⟨t_has_slider_length K, ?_, rd_has_slider_length h⟩)
  exact (pss_one (ps_ret (pe_and (pe_cmpR op_isTy (pe_callTy call_type1 (by rfl) T.z_type (by decide +kernel) (pa_cons (pv 0) pa_nil)) (pe_bltn (v := .ty "list") (by rfl) T.z_list (by decide +kernel) rfl) (nomark _)) (pe_one (pe_chain op_le op_le (pe_glob (v := .int 2) (by rfl) T.c_FEWEST_SLIDERS ⟨_, rfl⟩) (pe_callB call_len_seq (by rfl) T.z_len (by decide +kernel) (pa_cons (pv 0) pa_nil)) (pe_glob (v := .int 8) (by rfl) T.c_MOST_SLIDERS ⟨_, rfl⟩))))))

theorem sc_common_divisor : FnScope N_common_divisor ["numbers"] (defScope s_common_divisor) := ⟨rfl, rfl, rfl, by decide +kernel, rfl, by decide +kernel, by decide +kernel⟩
theorem ok_common_divisor (T : Tx K mg) : FnOk P w K mg base CX0 1 T.f_common_divisor T.d_common_divisor ["numbers"] (sp_common_divisor K) := by
  refine T.F_common_divisor.ok sc_common_divisor (fun vs H Q E h => ln_common_divisor h) (fun cdv A outer s H vs Q E hr h => ⟨t_common_divisor K, ?_, rd_common_divisor h⟩)
  exact (pss_cons (ps_set (i := 1) sc_common_divisor.nd rfl (.inl rfl) pe_int)
    (pss_cons (ps_for PassesOwn.never (by rfl) (pi_list (pv 0)) (pg_name (i := 2) sc_common_divisor.nd rfl (.inl rfl)) (pss_one (ps_set (i := 1) sc_common_divisor.nd rfl (.inl rfl) (pe_callBfun cr_gcd (by rfl) T.m_gcd (pa_cons (pv 1) (pa_cons (pv 2) pa_nil))))))
    (pss_one (ps_ret (pv 1)))))

theorem sc_are_there : FnScope N_are_there ["moves", "sliders"] (defScope s_are_there) := ⟨rfl, rfl, rfl, by decide +kernel, rfl, by decide +kernel, by decide +kernel⟩
theorem ok_are_there (T : Tx K mg) : FnOk P w K mg base CX0 1 T.f_are_there T.d_are_there ["moves", "sliders"] (sp_are_there K) := by
  refine T.F_are_there.ok sc_are_there (fun vs H Q E h => ln_are_there h) (fun cdv A outer s H vs Q E hr h => ⟨t_are_there K, ?_, rd_are_there h⟩)
  exact (pss_one (ps_ret (pe_callB (cr_all rfl) (by rfl) T.z_all (by decide +kernel) (pa_cons (pe_lc (own := [("move", 2)]) (g := (gName 2)) (tt := tYes) (by rfl) sc_are_there.nd (pi_list (pv 0)) (blkOk_by (own := [("move", 2)]) (N := N_are_there) (sc := defScope s_are_there) (by decide +kernel)) (fun _ _ _ _ _ => (pg_name (i := 2) sc_are_there.nd rfl (.inl rfl))) (fun _ _ _ _ _ => pts_nil) (fun _ _ _ _ _ => (pe_cmpR op_lt (pe_ix ix_tup (pv 2) pe_int (fun _ _ => rfl)) (pv 1) (nomark _)))) pa_nil))))

theorem sc_weights_after : FnScope N_weights_after ["weights", "move"] (defScope s_weights_after) := ⟨rfl, rfl, rfl, by decide +kernel, rfl, by decide +kernel, by decide +kernel⟩
theorem ok_weights_after (T : Tx K mg) : FnOk P w K mg base CX0 1 T.f_weights_after T.d_weights_after ["weights", "move"] (sp_weights_after K) := by
  refine T.F_weights_after.ok sc_weights_after (fun vs H Q E h => ln_weights_after h) (fun cdv A outer s H vs Q E hr h => ⟨t_weights_after K, ?_, rd_weights_after h⟩)
  exact (pss_cons (ps_asg (pv 1) (pg_tup (by rfl) (pgs_cons (pg_name (i := 2) sc_weights_after.nd rfl (.inl rfl)) (pgs_cons (pg_name (i := 3) sc_weights_after.nd rfl (.inr rfl)) (pgs_cons (pg_name (i := 4) sc_weights_after.nd rfl (.inr rfl)) pgs_nil)))))
    (pss_cons (ps_set (i := 5) sc_weights_after.nd rfl (.inl rfl) (pe_op op_sub (pe_callB (cr_sum rfl) (by rfl) T.z_sum (by decide +kernel) (pa_cons (pv 0) pa_nil)) (pe_ix ix_list (pv 0) (pv 2) (fun _ _ => rfl))))
    (pss_cons (ps_setLc (i := 6) (own := [("weight", 7)]) (g := (gName 7)) (tt := tYes) (by rfl) sc_weights_after.nd rfl rfl (sw_true rfl rfl rfl (by decide +kernel)) (pi_list (pv 0)) (blkOk_by (own := [("weight", 7)]) (N := N_weights_after) (sc := defScope s_weights_after) (by decide +kernel)) (fun _ _ _ _ _ => (pg_name (i := 7) sc_weights_after.nd rfl (.inl rfl))) (fun _ _ _ _ _ => pts_nil) (fun _ _ _ _ _ => (pe_op op_mulW (pv 7) (pe_op op_sub (pv 4) (pv 3)))))
    (pss_cons (ps_asg (pe_op op_mulW (pv 3) (pv 5)) (pg_sub (pv 6) (pv 2) set_list))
    (pss_one (ps_ret (pv 6)))))))

theorem sc_openSource : FnScope N_openSource ["script", "k"] (defScope s_openSource) := ⟨rfl, rfl, rfl, by decide +kernel, rfl, by decide +kernel, by decide +kernel⟩
theorem ok_openSource (T : Tx K mg) : FnOk P w K mg base CX0 1 T.f_openSource T.d_openSource ["script", "k"] (sp_openSource K) := by
  refine T.F_openSource.ok sc_openSource (fun vs H Q E h => ln_openSource h) (fun cdv A outer s H vs Q E hr h => ⟨t_openSource K, ?_, rd_openSource h⟩)
  exact (pss_cons (ps_set (i := 2) sc_openSource.nd rfl (.inl rfl) pe_int)
    (pss_cons (ps_if (pt_cmpR op_lt (pv 1) (pe_callB call_len_seq (by rfl) T.z_len (by decide +kernel) (pa_cons (pv 0) pa_nil)) (nomark _)) (pss_one (ps_set (i := 2) sc_openSource.nd rfl (.inl rfl) (pe_ix ix_list (pv 0) (pv 1) (fun _ _ => rfl)))) pss_nil)
    (pss_one (ps_ret (pe_lst (pa_cons (pe_callB (call_max2 rfl) (by rfl) T.z_max (by decide +kernel) (pa_cons pe_int (pa_cons (pe_op op_sub (pv 2) (pe_op op_powW pe_int pe_int)) pa_nil))) (pa_cons (pe_op op_add (pe_op op_mulW (pe_op op_mod (pv 2) (pe_op op_add (pe_op op_powW pe_int pe_int) pe_int)) pe_int) (pe_op op_mod (pv 1) pe_int)) (pa_cons pe_int pa_nil))))))))

theorem sc_draw : FnScope N_draw ["source", "limit"] (defScope s_draw) := ⟨rfl, rfl, rfl, by decide +kernel, rfl, by decide +kernel, by decide +kernel⟩
theorem ok_draw (T : Tx K mg) : FnOk P w K mg base CX0 1 T.f_draw T.d_draw ["source", "limit"] (sp_draw K) := by
  refine T.F_draw.ok sc_draw (fun vs H Q E h => ln_draw h) (fun cdv A outer s H vs Q E hr h => ⟨t_draw K, ?_, rd_draw h⟩)
  exact (pss_cons (ps_if (pt_cmpR op_gt (pe_ix ix_list (pv 0) pe_int (fun _ _ => rfl)) pe_int (nomark _)) (pss_cons (ps_set (i := 2) sc_draw.nd rfl (.inl rfl) (pe_op op_mod (pe_ix ix_list (pv 0) pe_int (fun _ _ => rfl)) (pv 1)))
    (pss_cons (ps_asg (pe_op op_fdivW (pe_ix ix_list (pv 0) pe_int (fun _ _ => rfl)) (pv 1)) (pg_sub (pv 0) pe_int set_list))
    (pss_one (ps_ret (pv 2))))) pss_nil)
    (pss_cons (ps_asg (pe_op op_add (pe_ix ix_list (pv 0) pe_int (fun _ _ => rfl)) pe_int) (pg_sub (pv 0) pe_int set_list))
    (pss_cons (ps_set (i := 3) sc_draw.nd rfl (.inl rfl) (pe_op op_mod (pe_op op_powW (pe_op op_add (pe_op op_add (pe_ix ix_list (pv 0) pe_int (fun _ _ => rfl)) (pe_op op_mulW (pe_op op_mulW pe_int (pe_ix ix_list (pv 0) pe_int (fun _ _ => rfl))) (pe_ix ix_list (pv 0) pe_int (fun _ _ => rfl)))) pe_int) pe_int) pe_int))
    (pss_cons (ps_set (i := 3) sc_draw.nd rfl (.inl rfl) (pe_op op_mod (pe_op op_powW (pe_op op_add (pv 3) (pe_op op_mulW pe_int (pe_ix ix_list (pv 0) pe_int (fun _ _ => rfl)))) pe_int) pe_int))
    (pss_one (ps_ret (pe_op op_mod (pe_op op_fdivW (pv 3) pe_int) (pv 1))))))))

theorem sc_divisor : FnScope N_divisor ["one", "other"] (defScope s_divisor) := ⟨rfl, rfl, rfl, by decide +kernel, rfl, by decide +kernel, by decide +kernel⟩
theorem ok_divisor (T : Tx K mg) : FnOk P w K mg base CX0 1 T.f_divisor T.d_divisor ["one", "other"] (sp_divisor K) := by
  refine T.F_divisor.ok sc_divisor (fun vs H Q E h => ln_divisor h) (fun cdv A outer s H vs Q E hr h => ⟨t_divisor K, ?_, rd_divisor h⟩)
  exact (pss_cons (ps_while PassesOwn.never (pt_cmpR op_gt (pv 1) pe_int (nomark _)) (pss_one (ps_par (i := 0) (j := 1) (by rfl) sc_divisor.nd rfl rfl (by decide) rfl rfl (pa_cons (pv 1) (pa_cons (pe_op op_mod (pv 0) (pv 1)) pa_nil)) (by rfl))))
    (pss_one (ps_ret (pv 0))))

theorem sc_kind46 : FnScope N_kind46 ["error"] (defScope s_kind46) := ⟨rfl, rfl, rfl, by decide +kernel, rfl, by decide +kernel, by decide +kernel⟩
theorem ok_kind46 (T : Tx K mg) : FnOk P w K mg base CX0 1 T.f_kind46 T.d_kind46 ["error"] (sp_kind46 K) := by
  refine T.F_kind46.ok sc_kind46 (fun vs H Q E h => ln_kind46 h) (fun cdv A outer s H vs Q E hr h => ⟨t_kind46 K, ?_, rd_kind46 h⟩)
  exact (pss_cons (ps_set (i := 1) sc_kind46.nd rfl (.inl rfl) (pe_callB (call_isXT T.ex.kit) (by rfl) T.z_isinstance (by decide +kernel) (pa_cons (pv 0) (pa_cons (pe_tup (pa_cons (pe_glob (v := .ref (adE K "InvalidSharesError")) (by rfl) T.x_InvalidSharesError rfl) (pa_cons (pe_glob (v := .ref (adE K "InvalidLogError")) (by rfl) T.x_InvalidLogError rfl) (pa_cons (pe_glob (v := .ref (adE K "InvalidRoundError")) (by rfl) T.x_InvalidRoundError rfl) (pa_cons (pe_glob (v := .ref (adE K "InvalidLocksError")) (by rfl) T.x_InvalidLocksError rfl) pa_nil))))) pa_nil))))
    (pss_cons (ps_set (i := 1) sc_kind46.nd rfl (.inl rfl) (pe_or (pv 1) (pe_one (pe_callB (call_isXT T.ex.kit) (by rfl) T.z_isinstance (by decide +kernel) (pa_cons (pv 0) (pa_cons (pe_tup (pa_cons (pe_glob (v := .ref (adE K "InvalidFormatError")) (by rfl) T.x_InvalidFormatError rfl) (pa_cons (pe_glob (v := .ref (adE K "NotShortestError")) (by rfl) T.x_NotShortestError rfl) (pa_cons (pe_glob (v := .ref (adE K "LockedError")) (by rfl) T.x_LockedError rfl) (pa_cons (pe_glob (v := .ref (adE K "TooMuchError")) (by rfl) T.x_TooMuchError rfl) pa_nil))))) pa_nil))))))
    (pss_cons (ps_set (i := 1) sc_kind46.nd rfl (.inl rfl) (pe_or (pv 1) (pe_one (pe_callB (call_isXT T.ex.kit) (by rfl) T.z_isinstance (by decide +kernel) (pa_cons (pv 0) (pa_cons (pe_tup (pa_cons (pe_glob (v := .ref (adE K "StepError")) (by rfl) T.x_StepError rfl) (pa_cons (pe_glob (v := .ref (adE K "EmptyHistoryError")) (by rfl) T.x_EmptyHistoryError rfl) (pa_cons (pe_glob (v := .ref (adE K "StartedError")) (by rfl) T.x_StartedError rfl) (pa_cons (pe_glob (v := .ref (adE K "NotStartedError")) (by rfl) T.x_NotStartedError rfl) pa_nil))))) pa_nil))))))
    (pss_cons (ps_set (i := 1) sc_kind46.nd rfl (.inl rfl) (pe_or (pv 1) (pe_one (pe_callB (call_isXT T.ex.kit) (by rfl) T.z_isinstance (by decide +kernel) (pa_cons (pv 0) (pa_cons (pe_tup (pa_cons (pe_glob (v := .ref (adE K "NoMoveError")) (by rfl) T.x_NoMoveError rfl) (pa_cons (pe_glob (v := .ref (adE K "NoOriginError")) (by rfl) T.x_NoOriginError rfl) pa_nil))) pa_nil))))))
    (pss_cons (ps_set (i := 2) sc_kind46.nd rfl (.inl rfl) (pe_lst (pa_cons (pe_callB (call_isX T.ex.kit) (by rfl) T.z_isinstance (by decide +kernel) (pa_cons (pv 0) (pa_cons (pe_glob (v := .ref (adE K "InvalidRowError")) (by rfl) T.x_InvalidRowError rfl) pa_nil))) (pa_cons (pe_callB (call_isX T.ex.kit) (by rfl) T.z_isinstance (by decide +kernel) (pa_cons (pv 0) (pa_cons (pe_glob (v := .ref (adE K "InvalidMoveError")) (by rfl) T.x_InvalidMoveError rfl) pa_nil))) pa_nil))))
    (pss_cons (ps_set (i := 2) sc_kind46.nd rfl (.inl rfl) (pe_op op_catQ (pv 2) (pe_lst (pa_cons (pe_callB (call_isX T.ex.kit) (by rfl) T.z_isinstance (by decide +kernel) (pa_cons (pv 0) (pa_cons (pe_glob (v := .ref (adE K "InvalidMovesError")) (by rfl) T.x_InvalidMovesError rfl) pa_nil))) (pa_cons (pe_callB (call_isX T.ex.kit) (by rfl) T.z_isinstance (by decide +kernel) (pa_cons (pv 0) (pa_cons (pe_glob (v := .ref (adE K "InvalidSliderError")) (by rfl) T.x_InvalidSliderError rfl) pa_nil))) pa_nil)))))
    (pss_cons (ps_set (i := 2) sc_kind46.nd rfl (.inl rfl) (pe_op op_catQ (pv 2) (pe_lst (pa_cons (pe_callB (call_isX T.ex.kit) (by rfl) T.z_isinstance (by decide +kernel) (pa_cons (pv 0) (pa_cons (pe_glob (v := .ref (adE K "InvalidNumberError")) (by rfl) T.x_InvalidNumberError rfl) pa_nil))) (pa_cons (pe_callB (call_isX T.ex.kit) (by rfl) T.z_isinstance (by decide +kernel) (pa_cons (pv 0) (pa_cons (pe_glob (v := .ref (adE K "FullError")) (by rfl) T.x_FullError rfl) pa_nil))) pa_nil)))))
    (pss_cons (ps_if (PW.pt (pw_or (pt_val (pv 1)) (pw_or (pt_not (pt_val (pe_callB (call_isXV T.ex.ve) (by rfl) T.z_isinstance (by decide +kernel) (pa_cons (pv 0) (pa_cons (pe_bltn (v := .ty "ValueError") (by rfl) T.z_ValueError (by decide +kernel) rfl) pa_nil))))) (pw_or1 (pt_cmpR op_ne (pe_bm PySem.F.plainAttrs_list PySem.F.slot_list_count PySem.F.type_list_count mt_lcountF (pv 2) (pa_cons pe_bl pa_nil)) pe_int (nomark _)))))) (pss_one (ps_ret pe_str)) pss_nil)
    (pss_one (ps_ret (pe_ix ix_list (pe_lst (pa_cons pe_str (pa_cons pe_str (pa_cons pe_str (pa_cons pe_str (pa_cons pe_str (pa_cons pe_str pa_nil))))))) (pe_bm PySem.F.plainAttrs_list PySem.F.slot_list_index PySem.F.type_list_index mt_index (pv 2) (pa_cons pe_bl pa_nil)) (fun _ _ => rfl))))))))))))

theorem sc_are_weights : FnScope N_are_weights ["value"] (defScope s_are_weights) := ⟨rfl, rfl, rfl, by decide +kernel, rfl, by decide +kernel, by decide +kernel⟩
theorem ok_are_weights (T : Tx K mg) : FnOk P w K mg base CX0 2 T.f_are_weights T.d_are_weights ["value"] (sp_are_weights K) := by
  refine T.F_are_weights.ok sc_are_weights (fun vs H Q E h => ln_are_weights h) (fun cdv A outer s H vs Q E hr h => ⟨t_are_weights K, ?_, rd_are_weights h⟩)
  exact (pss_one (ps_ret (pe_and (pe_callS (ok_has_slider_length T) (hr.mono (by decide)) (by rfl) T.g_has_slider_length T.F_has_slider_length.kp T.b_has_slider_length (fun _ => passN) (pa_cons (pv 0) pa_nil)) (pe_one (pe_callB (cr_all rfl) (by rfl) T.z_all (by decide +kernel) (pa_cons (pe_lc (own := [("weight", 1)]) (g := (gName 1)) (tt := tYes) (by rfl) sc_are_weights.nd (pi_list (pv 0)) (blkOk_by (own := [("weight", 1)]) (N := N_are_weights) (sc := defScope s_are_weights) (by decide +kernel)) (fun _ _ _ _ _ => (pg_name (i := 1) sc_are_weights.nd rfl (.inl rfl))) (fun _ _ _ _ _ => pts_nil) (fun _ _ _ _ _ => (pe_and (pe_callS (ok_is_whole T) (hr.mono (by decide)) (by rfl) T.g_is_whole T.F_is_whole.kp T.b_is_whole (fun _ => passN) (pa_cons (pv 1) pa_nil)) (pe_one (pe_cmpR op_ge (pv 1) pe_int (nomark _)))))) pa_nil))))))

theorem sc_reduced : FnScope N_reduced ["numbers"] (defScope s_reduced) := ⟨rfl, rfl, rfl, by decide +kernel, rfl, by decide +kernel, by decide +kernel⟩
theorem ok_reduced (T : Tx K mg) : FnOk P w K mg base CX0 2 T.f_reduced T.d_reduced ["numbers"] (sp_reduced K) := by
  refine T.F_reduced.ok sc_reduced (fun vs H Q E h => ln_reduced h) (fun cdv A outer s H vs Q E hr h => ⟨t_reduced K, ?_, rd_reduced h⟩)
  exact (pss_cons (ps_set (i := 1) sc_reduced.nd rfl (.inr rfl) (pe_callS (ok_common_divisor T) (hr.mono (by decide)) (by rfl) T.g_common_divisor T.F_common_divisor.kp T.b_common_divisor (fun _ => passN) (pa_cons (pv 0) pa_nil)))
    (pss_one (ps_ret (pe_lc (own := [("number", 2)]) (g := (gName 2)) (tt := tYes) (by rfl) sc_reduced.nd (pi_list (pv 0)) (blkOk_by (own := [("number", 2)]) (N := N_reduced) (sc := defScope s_reduced) (by decide +kernel)) (fun _ _ _ _ _ => (pg_name (i := 2) sc_reduced.nd rfl (.inl rfl))) (fun _ _ _ _ _ => pts_nil) (fun _ _ _ _ _ => (pe_op op_fdivW (pv 2) (pv 1)))))))

theorem sc_is_move : FnScope N_is_move ["value"] (defScope s_is_move) := ⟨rfl, rfl, rfl, by decide +kernel, rfl, by decide +kernel, by decide +kernel⟩
theorem ok_is_move (T : Tx K mg) : FnOk P w K mg base CX0 2 T.f_is_move T.d_is_move ["value"] (sp_is_move K) := by
  refine T.F_is_move.ok sc_is_move (fun vs H Q E h => ln_is_move h) (fun cdv A outer s H vs Q E hr h => ⟨t_is_move K, ?_, rd_is_move h⟩)
  exact (pss_cons (ps_if (PW.pt (pw_or (pt_cmpR op_isNotTy (pe_callTy call_type1 (by rfl) T.z_type (by decide +kernel) (pa_cons (pv 0) pa_nil)) (pe_bltn (v := .ty "tuple") (by rfl) T.z_tuple (by decide +kernel) rfl) (nomark _)) (pw_or (pt_cmpR op_ne (pe_callB call_len_seq (by rfl) T.z_len (by decide +kernel) (pa_cons (pv 0) pa_nil)) pe_int (nomark _)) (pw_or1 (pt_not (pt_val (pe_callB (cr_all rfl) (by rfl) T.z_all (by decide +kernel) (pa_cons (pe_lc (own := [("part", 4)]) (g := (gName 4)) (tt := tYes) (by rfl) sc_is_move.nd (pi_tup (pv 0)) (blkOk_by (own := [("part", 4)]) (N := N_is_move) (sc := defScope s_is_move) (by decide +kernel)) (fun _ _ _ _ _ => (pg_name (i := 4) sc_is_move.nd rfl (.inl rfl))) (fun _ _ _ _ _ => pts_nil) (fun _ _ _ _ _ => (pe_callS (ok_is_whole T) (hr.mono (by decide)) (by rfl) T.g_is_whole T.F_is_whole.kp T.b_is_whole (fun _ => passN) (pa_cons (pv 4) pa_nil)))) pa_nil)))))))) (pss_one (ps_ret pe_bl)) pss_nil)
    (pss_cons (ps_asg (pv 0) (pg_tup (by rfl) (pgs_cons (pg_name (i := 1) sc_is_move.nd rfl (.inl rfl)) (pgs_cons (pg_name (i := 2) sc_is_move.nd rfl (.inl rfl)) (pgs_cons (pg_name (i := 3) sc_is_move.nd rfl (.inl rfl)) pgs_nil)))))
    (pss_one (ps_ret (pe_and (pe_chain op_le op_lt pe_int (pv 1) (pe_glob (v := .int 8) (by rfl) T.c_MOST_SLIDERS ⟨_, rfl⟩)) (pe_and (pe_chain op_le op_lt pe_int (pv 2) (pv 3)) (pe_one (pe_cmpR op_eq (pe_callBfun cr_gcd (by rfl) T.m_gcd (pa_cons (pv 2) (pa_cons (pv 3) pa_nil))) pe_int (nomark _)))))))))

theorem sc_plain : FnScope N_plain ["numbers"] (defScope s_plain) := ⟨rfl, rfl, rfl, by decide +kernel, rfl, by decide +kernel, by decide +kernel⟩
theorem ok_plain (T : Tx K mg) : FnOk P w K mg base CX0 2 T.f_plain T.d_plain ["numbers"] (sp_plain K) := by
  refine T.F_plain.ok sc_plain (fun vs H Q E h => ln_plain h) (fun cdv A outer s H vs Q E hr h => ⟨t_plain K, ?_, rd_plain h⟩)
  exact (pss_cons (ps_set (i := 1) sc_plain.nd rfl (.inr rfl) pe_int)
    (pss_cons (ps_for PassesOwn.never (by rfl) (pi_list (pv 0)) (pg_name (i := 2) sc_plain.nd rfl (.inl rfl)) (pss_one (ps_set (i := 1) sc_plain.nd rfl (.inr rfl) (pe_callS (ok_divisor T) (hr.mono (by decide)) (by rfl) T.g_divisor T.F_divisor.kp T.b_divisor (fun _ => passN) (pa_cons (pv 1) (pa_cons (pv 2) pa_nil))))))
    (pss_one (ps_ret (pe_lc (own := [("number", 2)]) (g := (gName 2)) (tt := tYes) (by rfl) sc_plain.nd (pi_list (pv 0)) (blkOk_by (own := [("number", 2)]) (N := N_plain) (sc := defScope s_plain) (by decide +kernel)) (fun _ _ _ _ _ => (pg_name (i := 2) sc_plain.nd rfl (.inl rfl))) (fun _ _ _ _ _ => pts_nil) (fun _ _ _ _ _ => (pe_op op_fdivW (pv 2) (pv 1))))))))

theorem sc_width : FnScope N_width ["source", "script"] (defScope s_width) := ⟨rfl, rfl, rfl, by decide +kernel, rfl, by decide +kernel, by decide +kernel⟩
theorem ok_width (T : Tx K mg) : FnOk P w K mg base CX0 2 T.f_width T.d_width ["source", "script"] (sp_width K) := by
  refine T.F_width.ok sc_width (fun vs H Q E h => ln_width h) (fun cdv A outer s H vs Q E hr h => ⟨t_width K, ?_, rd_width h⟩)
  exact (pss_one (ps_ret (pe_ifExp (pt_cmpR (op_eqD hr.units) (pv 1) (pe_lst pa_nil) (nomark _)) pe_int (pe_ix ix_list (pe_lst (pa_cons (pe_op op_add pe_int (pe_callS (ok_draw T) (hr.mono (by decide)) (by rfl) T.g_draw T.F_draw.kp T.b_draw (fun _ => passN) (pa_cons (pv 0) (pa_cons pe_int pa_nil)))) (pa_cons pe_int (pa_cons pe_int pa_nil)))) (pe_callS (ok_draw T) (hr.mono (by decide)) (by rfl) T.g_draw T.F_draw.kp T.b_draw (fun _ => passN) (pa_cons (pv 0) (pa_cons pe_int pa_nil))) (fun _ _ => rfl)))))

theorem sc_any : FnScope N_any ["source", "wide"] (defScope s_any) := ⟨rfl, rfl, rfl, by decide +kernel, rfl, by decide +kernel, by decide +kernel⟩
theorem ok_any (T : Tx K mg) : FnOk P w K mg base CX0 2 T.f_any T.d_any ["source", "wide"] (sp_any K) := by
  refine T.F_any.ok sc_any (fun vs H Q E h => ln_any h) (fun cdv A outer s H vs Q E hr h => ⟨t_any K, ?_, rd_any h⟩)
  exact (pss_cons (ps_if (pt_cmpR op_lt (pv 1) (pe_op op_powW pe_int pe_int) (nomark _)) (pss_one (ps_ret (pe_callS (ok_draw T) (hr.mono (by decide)) (by rfl) T.g_draw T.F_draw.kp T.b_draw (fun _ => passN) (pa_cons (pv 0) (pa_cons (pv 1) pa_nil))))) pss_nil)
    (pss_one (ps_ret (pe_op op_mod (pe_op op_add (pe_op op_mulW (pe_callS (ok_draw T) (hr.mono (by decide)) (by rfl) T.g_draw T.F_draw.kp T.b_draw (fun _ => passN) (pa_cons (pv 0) (pa_cons (pe_op op_powW pe_int pe_int) pa_nil))) (pe_op op_powW pe_int pe_int)) (pe_callS (ok_draw T) (hr.mono (by decide)) (by rfl) T.g_draw T.F_draw.kp T.b_draw (fun _ => passN) (pa_cons (pv 0) (pa_cons (pe_op op_powW pe_int pe_int) pa_nil)))) (pv 1)))))

theorem sc_noRow : FnScope N_noRow ["source", "weights_here"] (defScope s_noRow) := ⟨rfl, rfl, rfl, by decide +kernel, rfl, by decide +kernel, by decide +kernel⟩
theorem ok_noRow (T : Tx K mg) : FnOk P w K mg base CX0 2 T.f_noRow T.d_noRow ["source", "weights_here"] (sp_noRow K) := by
  refine T.F_noRow.ok sc_noRow (fun vs H Q E h => ln_noRow h) (fun cdv A outer s H vs Q E hr h => ⟨t_noRow K, ?_, rd_noRow h⟩)
  exact (pss_cons (ps_set (i := 2) sc_noRow.nd rfl (.inl rfl) (pe_callS (ok_draw T) (hr.mono (by decide)) (by rfl) T.g_draw T.F_draw.kp T.b_draw (fun _ => passN) (pa_cons (pv 0) (pa_cons (pe_callB call_len_seq (by rfl) T.z_len (by decide +kernel) (pa_cons (pv 1) pa_nil)) pa_nil))))
    (pss_cons (ps_set (i := 3) sc_noRow.nd rfl (.inl rfl) (pe_ix ix_list (pe_lst (pa_cons pe_int (pa_cons (pe_un un_neg pe_int) (pa_cons (pe_un un_neg pe_int) (pa_cons pe_non (pa_cons pe_bl (pa_cons pe_str (pa_cons (pe_lst (pa_cons pe_int pa_nil)) (pa_cons (pe_tup (pa_cons pe_int pa_nil)) (pa_cons pe_dnewK (pa_cons (pe_op op_sub pe_int (pe_op op_powW pe_int pe_int)) pa_nil))))))))))) (pe_callS (ok_draw T) (hr.mono (by decide)) (by rfl) T.g_draw T.F_draw.kp T.b_draw (fun _ => passN) (pa_cons (pv 0) (pa_cons pe_int pa_nil))) (fun _ _ => rfl)))
    (pss_cons (ps_set (i := 4) sc_noRow.nd rfl (.inl rfl) (pe_lst (pa_cons (pe_op op_catQ (pe_op op_catQ (pe_slice sl_list (pv 1) po_none (po_some (pv 2))) (pe_lst (pa_cons (pv 3) pa_nil))) (pe_slice sl_list (pv 1) (po_some (pe_op op_add (pv 2) pe_int)) po_none)) pa_nil)))
    (pss_cons (ps_expr (pe_bm PySem.F.plainAttrs_list PySem.F.slot_list_append PySem.F.type_list_append mt_append (pv 4) (pa_cons (pe_lc (own := [("weight", 5)]) (g := (gName 5)) (tt := tYes) (by rfl) sc_noRow.nd (pi_list (pv 1)) (blkOk_by (own := [("weight", 5)]) (N := N_noRow) (sc := defScope s_noRow) (by decide +kernel)) (fun _ _ _ _ _ => (pg_name (i := 5) sc_noRow.nd rfl (.inl rfl))) (fun _ _ _ _ _ => pts_nil) (fun _ _ _ _ _ => (pe_op op_mulW pe_int (pv 5)))) pa_nil)))
    (pss_cons (ps_set (i := 4) sc_noRow.nd rfl (.inl rfl) (pe_op op_catQ (pv 4) (pe_lst (pa_cons (pe_callTy call_tuple_of (by rfl) T.z_tuple (by decide +kernel) (pa_cons (pv 1) pa_nil)) (pa_cons (pe_slice sl_list (pv 1) po_none (po_some pe_int)) (pa_cons (pe_lst pa_nil) (pa_cons (pe_op op_rep (pe_lst (pa_cons pe_int pa_nil)) pe_int) (pa_cons (pe_op op_rep (pe_lst (pa_cons pe_int pa_nil)) pe_int) (pa_cons pe_non (pa_cons pe_int (pa_cons pe_str pa_nil)))))))))))
    (pss_cons (ps_set (i := 4) sc_noRow.nd rfl (.inl rfl) (pe_op op_catQ (pv 4) (pe_lst (pa_cons pe_dnewK (pa_cons (pe_lst (pa_cons (pv 1) pa_nil)) pa_nil)))))
    (pss_one (ps_ret (pe_ix ix_list (pv 4) (pe_ix ix_list (pe_lst (pa_cons (pe_callS (ok_draw T) (hr.mono (by decide)) (by rfl) T.g_draw T.F_draw.kp T.b_draw (fun _ => passN) (pa_cons (pv 0) (pa_cons pe_int pa_nil))) (pa_cons pe_int (pa_cons pe_int pa_nil)))) (pe_callS (ok_draw T) (hr.mono (by decide)) (by rfl) T.g_draw T.F_draw.kp T.b_draw (fun _ => passN) (pa_cons (pv 0) (pa_cons pe_int pa_nil))) (fun _ _ => rfl)) (fun _ _ => rfl))))))))))

theorem sc_noMove : FnScope N_noMove ["source", "width"] (defScope s_noMove) := ⟨rfl, rfl, rfl, by decide +kernel, rfl, by decide +kernel, by decide +kernel⟩
theorem ok_noMove (T : Tx K mg) : FnOk P w K mg base CX0 2 T.f_noMove T.d_noMove ["source", "width"] (sp_noMove K) := by
  refine T.F_noMove.ok sc_noMove (fun vs H Q E h => ln_noMove h) (fun cdv A outer s H vs Q E hr h => ⟨t_noMove K, ?_, rd_noMove h⟩)
  exact (pss_cons (ps_set (i := 2) sc_noMove.nd rfl (.inl rfl) (pe_lst (pa_cons (pe_tup (pa_cons (pv 1) (pa_cons pe_int (pa_cons pe_int pa_nil)))) (pa_cons (pe_tup (pa_cons (pe_un un_neg pe_int) (pa_cons pe_int (pa_cons pe_int pa_nil)))) (pa_cons (pe_tup (pa_cons (pe_un un_neg pe_int) (pa_cons pe_int (pa_cons pe_int pa_nil)))) (pa_cons (pe_tup (pa_cons pe_int (pa_cons pe_int (pa_cons pe_int pa_nil)))) (pa_cons (pe_tup (pa_cons pe_int (pa_cons pe_int (pa_cons pe_int pa_nil)))) (pa_cons (pe_tup (pa_cons pe_int (pa_cons pe_int (pa_cons pe_int pa_nil)))) (pa_cons (pe_tup (pa_cons pe_int (pa_cons pe_int (pa_cons pe_int pa_nil)))) (pa_cons (pe_tup (pa_cons pe_int (pa_cons (pe_un un_neg pe_int) (pa_cons pe_int pa_nil)))) (pa_cons (pe_tup (pa_cons pe_int (pa_cons pe_int (pa_cons (pe_un un_neg pe_int) pa_nil)))) pa_nil)))))))))))
    (pss_cons (ps_set (i := 2) sc_noMove.nd rfl (.inl rfl) (pe_op op_catQ (pv 2) (pe_lst (pa_cons (pe_tup (pa_cons pe_int (pa_cons pe_int pa_nil))) (pa_cons (pe_tup (pa_cons pe_int (pa_cons pe_int (pa_cons pe_int (pa_cons pe_int pa_nil))))) (pa_cons (pe_lst (pa_cons pe_int (pa_cons pe_int (pa_cons pe_int pa_nil)))) (pa_cons (pe_tup (pa_cons pe_bl (pa_cons pe_int (pa_cons pe_int pa_nil)))) (pa_cons (pe_tup (pa_cons pe_int (pa_cons pe_bl (pa_cons pe_int pa_nil)))) (pa_cons (pe_tup (pa_cons pe_int (pa_cons pe_int (pa_cons pe_bl pa_nil)))) (pa_cons (pe_tup (pa_cons pe_non (pa_cons pe_int (pa_cons pe_int pa_nil)))) (pa_cons (pe_tup (pa_cons pe_str (pa_cons pe_int (pa_cons pe_int pa_nil)))) pa_nil)))))))))))
    (pss_cons (ps_set (i := 2) sc_noMove.nd rfl (.inl rfl) (pe_op op_catQ (pv 2) (pe_lst (pa_cons (pe_tup (pa_cons (pe_lst (pa_cons pe_int pa_nil)) (pa_cons pe_int (pa_cons pe_int pa_nil)))) (pa_cons (pe_tup (pa_cons pe_int (pa_cons pe_dnewK (pa_cons pe_int pa_nil)))) (pa_cons (pe_tup (pa_cons pe_int (pa_cons pe_int (pa_cons pe_non pa_nil)))) (pa_cons pe_non (pa_cons pe_int (pa_cons pe_str (pa_cons (pe_tup pa_nil) (pa_cons (pe_tup (pa_cons pe_int (pa_cons pe_int (pa_cons pe_int pa_nil)))) (pa_cons (pe_tup (pa_cons pe_int (pa_cons (pe_op op_powW pe_int pe_int) (pa_cons (pe_op op_powW pe_int pe_int) pa_nil)))) pa_nil))))))))))))
    (pss_one (ps_ret (pe_ix ix_list (pv 2) (pe_callS (ok_draw T) (hr.mono (by decide)) (by rfl) T.g_draw T.F_draw.kp T.b_draw (fun _ => passN) (pa_cons (pv 0) (pa_cons pe_int pa_nil))) (fun _ _ => rfl)))))))

theorem sc_is_row : FnScope N_is_row ["value"] (defScope s_is_row) := ⟨rfl, rfl, rfl, by decide +kernel, rfl, by decide +kernel, by decide +kernel⟩
theorem ok_is_row (T : Tx K mg) : FnOk P w K mg base CX0 3 T.f_is_row T.d_is_row ["value"] (sp_is_row K) := by
  refine T.F_is_row.ok sc_is_row (fun vs H Q E h => ln_is_row h) (fun cdv A outer s H vs Q E hr h => ⟨t_is_row K, ?_, rd_is_row h⟩)
  exact (pss_one (ps_ret (pe_and (pe_callS (ok_are_weights T) (hr.mono (by decide)) (by rfl) T.g_are_weights T.F_are_weights.kp T.b_are_weights (fun _ => passN) (pa_cons (pv 0) pa_nil)) (pe_one (pe_cmpR op_eq (pe_callS (ok_common_divisor T) (hr.mono (by decide)) (by rfl) T.g_common_divisor T.F_common_divisor.kp T.b_common_divisor (fun _ => passN) (pa_cons (pv 0) pa_nil)) pe_int (nomark _))))))

theorem sc_is_moves : FnScope N_is_moves ["value"] (defScope s_is_moves) := ⟨rfl, rfl, rfl, by decide +kernel, rfl, by decide +kernel, by decide +kernel⟩
theorem ok_is_moves (T : Tx K mg) : FnOk P w K mg base CX0 3 T.f_is_moves T.d_is_moves ["value"] (sp_is_moves K) := by
  refine T.F_is_moves.ok sc_is_moves (fun vs H Q E h => ln_is_moves h) (fun cdv A outer s H vs Q E hr h => ⟨t_is_moves K, ?_, rd_is_moves h⟩)
  exact (pss_one (ps_ret (pe_and (pe_cmpR op_isTy (pe_callTy call_type1 (by rfl) T.z_type (by decide +kernel) (pa_cons (pv 0) pa_nil)) (pe_bltn (v := .ty "list") (by rfl) T.z_list (by decide +kernel) rfl) (nomark _)) (pe_and (pe_cmpR op_le (pe_callB call_len_seq (by rfl) T.z_len (by decide +kernel) (pa_cons (pv 0) pa_nil)) (pe_glob (v := .int 40) (by rfl) T.c_MOST_MOVES ⟨_, rfl⟩) (nomark _)) (pe_one (pe_callB (cr_all rfl) (by rfl) T.z_all (by decide +kernel) (pa_cons (pe_lc (own := [("move", 1)]) (g := (gName 1)) (tt := tYes) (by rfl) sc_is_moves.nd (pi_list (pv 0)) (blkOk_by (own := [("move", 1)]) (N := N_is_moves) (sc := defScope s_is_moves) (by decide +kernel)) (fun _ _ _ _ _ => (pg_name (i := 1) sc_is_moves.nd rfl (.inl rfl))) (fun _ _ _ _ _ => pts_nil) (fun _ _ _ _ _ => (pe_callS (ok_is_move T) (hr.mono (by decide)) (by rfl) T.g_is_move T.F_is_move.kp T.b_is_move (fun _ => passN) (pa_cons (pv 1) pa_nil)))) pa_nil)))))))

theorem sc_check_move : FnScope N_check_move ["move", "sliders"] (defScope s_check_move) := ⟨rfl, rfl, rfl, by decide +kernel, rfl, by decide +kernel, by decide +kernel⟩
theorem ok_check_move (T : Tx K mg) : FnOk P w K mg base (L2N.CX P w) 3 T.f_check_move T.d_check_move ["move", "sliders"] (sp_check_move K) := by
  refine okXN T.F_check_move sc_check_move (fun vs H Q E h => ln_check_move h) (fun cdv A outer s H vs Q E hr h => ⟨t_check_move K (fun cls dd _ H => E cls dd H), ?_, rd_check_move h⟩)
  exact (pss_one (ps_if (PW.pt (pw_or (pt_not (pt_val (pe_callS (ok_is_move T) (hr.mono (by decide)) (by rfl) T.g_is_move T.F_is_move.kp T.b_is_move (fun _ => passN) (pa_cons (pv 0) pa_nil)))) (pw_or1 (pt_cmpR op_ge (pe_ix ix_tup (pv 0) pe_int (fun _ _ => rfl)) (pv 1) (nomark _))))) (pss_one (ps_raiseT rfl (L2N.takes_of rfl rfl rfl rfl) T.mk_InvalidMoveError T.x_InvalidMoveError (by rfl))) pss_nil))

theorem sc_row_behind : FnScope N_row_behind ["row", "moves"] (defScope s_row_behind) := ⟨rfl, rfl, rfl, by decide +kernel, rfl, by decide +kernel, by decide +kernel⟩
theorem ok_row_behind (T : Tx K mg) : FnOk P w K mg base CX0 3 T.f_row_behind T.d_row_behind ["row", "moves"] (sp_row_behind K) := by
  refine T.F_row_behind.ok sc_row_behind (fun vs H Q E h => ln_row_behind h) (fun cdv A outer s H vs Q E hr h => ⟨t_row_behind K, ?_, rd_row_behind h⟩)
  exact (pss_cons (ps_set (i := 2) sc_row_behind.nd rfl (.inl rfl) (pe_callTy call_list_of (by rfl) T.z_list (by decide +kernel) (pa_cons (pv 0) pa_nil)))
    (pss_cons (ps_for PassesOwn.never (by rfl) (pi_list (pv 1)) (pg_name (i := 3) sc_row_behind.nd rfl (.inl rfl)) (pss_one (ps_set (i := 2) sc_row_behind.nd rfl (.inl rfl) (pe_callS (ok_reduced T) (hr.mono (by decide)) (by rfl) T.g_reduced T.F_reduced.kp T.b_reduced (fun _ => passN) (pa_cons (pe_callS (ok_weights_after T) (hr.mono (by decide)) (by rfl) T.g_weights_after T.F_weights_after.kp T.b_weights_after (fun _ => passN) (pa_cons (pv 2) (pa_cons (pv 3) pa_nil))) pa_nil)))))
    (pss_one (ps_ret (pv 2)))))

theorem sc_weights : FnScope N_weights ["source", "width", "wide"] (defScope s_weights) := ⟨rfl, rfl, rfl, by decide +kernel, rfl, by decide +kernel, by decide +kernel⟩
theorem ok_weights (T : Tx K mg) : FnOk P w K mg base CX0 3 T.f_weights T.d_weights ["source", "width", "wide"] (sp_weights K) := by
  refine T.F_weights.ok sc_weights (fun vs H Q E h => ln_weights h) (fun cdv A outer s H vs Q E hr h => ⟨t_weights K, ?_, rd_weights h⟩)
  exact (pss_cons (ps_setLc (i := 3) (own := [("spot", 5)]) (g := (gName 5)) (tt := tYes) (by rfl) sc_weights.nd rfl rfl (sw_true rfl rfl rfl (by decide +kernel)) (pi_range1 (by rfl) T.z_range (pa_cons (pv 1) pa_nil)) (blkOk_by (own := [("spot", 5)]) (N := N_weights) (sc := defScope s_weights) (by decide +kernel)) (fun _ _ _ _ _ => (pg_name (i := 5) sc_weights.nd rfl (.inl rfl))) (fun _ _ _ _ _ => pts_nil) (fun _ _ _ _ _ => (pe_op op_add pe_int (pe_callS (ok_any T) (hr.mono (by decide)) (by rfl) T.g_any T.F_any.kp T.b_any (fun _ => passN) (pa_cons (pv 0) (pa_cons (pv 2) pa_nil))))))
    (pss_cons (ps_set (i := 4) sc_weights.nd rfl (.inl rfl) (pe_callS (ok_draw T) (hr.mono (by decide)) (by rfl) T.g_draw T.F_draw.kp T.b_draw (fun _ => passN) (pa_cons (pv 0) (pa_cons pe_int pa_nil))))
    (pss_cons (ps_if (pt_cmpR op_eq (pv 4) pe_int (nomark _)) (pss_one (ps_set (i := 3) sc_weights.nd rfl (.inl rfl) (pe_op op_rep (pe_lst (pa_cons pe_int pa_nil)) (pv 1)))) pss_nil)
    (pss_cons (ps_if (pt_cmpR op_eq (pv 4) pe_int (nomark _)) (pss_one (ps_asg (pv 2) (pg_sub (pv 3) (pe_callS (ok_draw T) (hr.mono (by decide)) (by rfl) T.g_draw T.F_draw.kp T.b_draw (fun _ => passN) (pa_cons (pv 0) (pa_cons (pv 1) pa_nil))) set_list))) pss_nil)
    (pss_one (ps_ret (pe_callS (ok_plain T) (hr.mono (by decide)) (by rfl) T.g_plain T.F_plain.kp T.b_plain (fun _ => passN) (pa_cons (pv 3) pa_nil))))))))

theorem sc_share : FnScope N_share ["source", "wide"] (defScope s_share) := ⟨rfl, rfl, rfl, by decide +kernel, rfl, by decide +kernel, by decide +kernel⟩
theorem ok_share (T : Tx K mg) : FnOk P w K mg base CX0 3 T.f_share T.d_share ["source", "wide"] (sp_share K) := by
  refine T.F_share.ok sc_share (fun vs H Q E h => ln_share h) (fun cdv A outer s H vs Q E hr h => ⟨t_share K, ?_, rd_share h⟩)
  exact (pss_cons (ps_set (i := 2) sc_share.nd rfl (.inl rfl) (pe_op op_add pe_int (pe_callS (ok_any T) (hr.mono (by decide)) (by rfl) T.g_any T.F_any.kp T.b_any (fun _ => passN) (pa_cons (pv 0) (pa_cons (pv 1) pa_nil)))))
    (pss_cons (ps_set (i := 3) sc_share.nd rfl (.inl rfl) (pe_op op_add pe_int (pe_callS (ok_any T) (hr.mono (by decide)) (by rfl) T.g_any T.F_any.kp T.b_any (fun _ => passN) (pa_cons (pv 0) (pa_cons (pe_op op_sub (pv 2) pe_int) pa_nil)))))
    (pss_cons (ps_set (i := 4) sc_share.nd rfl (.inl rfl) (pe_callS (ok_divisor T) (hr.mono (by decide)) (by rfl) T.g_divisor T.F_divisor.kp T.b_divisor (fun _ => passN) (pa_cons (pv 3) (pa_cons (pv 2) pa_nil))))
    (pss_one (ps_ret (pe_tup (pa_cons (pe_op op_fdivW (pv 3) (pv 4)) (pa_cons (pe_op op_fdivW (pv 2) (pv 4)) pa_nil))))))))

theorem sc_noMoves : FnScope N_noMoves ["source", "width", "deeds"] (defScope s_noMoves) := ⟨rfl, rfl, rfl, by decide +kernel, rfl, by decide +kernel, by decide +kernel⟩
theorem ok_noMoves (T : Tx K mg) : FnOk P w K mg base CX0 3 T.f_noMoves T.d_noMoves ["source", "width", "deeds"] (sp_noMoves K) := by
  refine T.F_noMoves.ok sc_noMoves (fun vs H Q E h => ln_noMoves h) (fun cdv A outer s H vs Q E hr h => ⟨t_noMoves K, ?_, rd_noMoves h⟩)
  exact (pss_cons (ps_par (i := 3) (j := 4) (by rfl) sc_noMoves.nd rfl rfl (by decide) rfl rfl (pa_cons (pe_callS (ok_draw T) (hr.mono (by decide)) (by rfl) T.g_draw T.F_draw.kp T.b_draw (fun _ => passN) (pa_cons (pv 0) (pa_cons (pe_op op_add (pe_callB call_len_seq (by rfl) T.z_len (by decide +kernel) (pa_cons (pv 2) pa_nil)) pe_int) pa_nil))) (pa_cons (pe_callS (ok_noMove T) (hr.mono (by decide)) (by rfl) T.g_noMove T.F_noMove.kp T.b_noMove (fun _ => passN) (pa_cons (pv 0) (pa_cons (pv 1) pa_nil))) pa_nil)) (by rfl))
    (pss_cons (ps_set (i := 5) sc_noMoves.nd rfl (.inl rfl) (pe_lst (pa_cons (pe_op op_catQ (pe_op op_catQ (pe_slice sl_list (pv 2) po_none (po_some (pv 3))) (pe_lst (pa_cons (pv 4) pa_nil))) (pe_slice sl_list (pv 2) (po_some (pv 3)) po_none)) (pa_cons (pe_callTy call_tuple_of (by rfl) T.z_tuple (by decide +kernel) (pa_cons (pv 2) pa_nil)) (pa_cons pe_non (pa_cons pe_int (pa_cons pe_str (pa_cons pe_dnewK (pa_cons (pe_lst (pa_cons (pv 2) pa_nil)) (pa_cons (pe_op op_rep (pe_lst (pa_cons (pe_tup (pa_cons pe_int (pa_cons pe_int (pa_cons pe_int pa_nil)))) pa_nil)) pe_int) (pa_cons (pe_op op_rep (pe_lst (pa_cons (pv 4) pa_nil)) pe_int) pa_nil)))))))))))
    (pss_one (ps_ret (pe_ix ix_list (pv 5) (pe_ix ix_list (pe_lst (pa_cons (pe_callS (ok_draw T) (hr.mono (by decide)) (by rfl) T.g_draw T.F_draw.kp T.b_draw (fun _ => passN) (pa_cons (pv 0) (pa_cons pe_int pa_nil))) (pa_cons pe_int pa_nil))) (pe_callS (ok_draw T) (hr.mono (by decide)) (by rfl) T.g_draw T.F_draw.kp T.b_draw (fun _ => passN) (pa_cons (pv 0) (pa_cons pe_int pa_nil))) (fun _ _ => rfl)) (fun _ _ => rfl))))))

theorem sc_check_row : FnScope N_check_row ["row"] (defScope s_check_row) := ⟨rfl, rfl, rfl, by decide +kernel, rfl, by decide +kernel, by decide +kernel⟩
theorem ok_check_row (T : Tx K mg) : FnOk P w K mg base (L2N.CX P w) 4 T.f_check_row T.d_check_row ["row"] (sp_check_row K) := by
  refine okXN T.F_check_row sc_check_row (fun vs H Q E h => ln_check_row h) (fun cdv A outer s H vs Q E hr h => ⟨t_check_row K (fun cls dd _ H => E cls dd H), ?_, rd_check_row h⟩)
  exact (pss_one (ps_if (pt_not (pt_val (pe_callS (ok_is_row T) (hr.mono (by decide)) (by rfl) T.g_is_row T.F_is_row.kp T.b_is_row (fun _ => passN) (pa_cons (pv 0) pa_nil)))) (pss_one (ps_raiseT rfl (L2N.takes_of rfl rfl rfl rfl) T.mk_InvalidRowError T.x_InvalidRowError (by rfl))) pss_nil))

theorem sc_check_moves : FnScope N_check_moves ["moves", "sliders"] (defScope s_check_moves) := ⟨rfl, rfl, rfl, by decide +kernel, rfl, by decide +kernel, by decide +kernel⟩
theorem ok_check_moves (T : Tx K mg) : FnOk P w K mg base (L2N.CX P w) 4 T.f_check_moves T.d_check_moves ["moves", "sliders"] (sp_check_moves K) := by
  refine okXN T.F_check_moves sc_check_moves (fun vs H Q E h => ln_check_moves h) (fun cdv A outer s H vs Q E hr h => ⟨t_check_moves K (fun cls dd _ H => E cls dd H), ?_, rd_check_moves h⟩)
  exact (pss_one (ps_if (PW.pt (pw_or (pt_not (pt_val (pe_callS (ok_is_moves T) (hr.mono (by decide)) (by rfl) T.g_is_moves T.F_is_moves.kp T.b_is_moves (fun _ => passN) (pa_cons (pv 0) pa_nil)))) (pw_or1 (pt_not (pt_val (pe_callS (ok_are_there T) (hr.mono (by decide)) (by rfl) T.g_are_there T.F_are_there.kp T.b_are_there (fun _ => passN) (pa_cons (pv 0) (pa_cons (pv 1) pa_nil)))))))) (pss_one (ps_raiseT rfl (L2N.takes_of rfl rfl rfl rfl) T.mk_InvalidMovesError T.x_InvalidMovesError (by rfl))) pss_nil))

theorem sc_deeds : FnScope N_deeds ["source", "width", "many", "wide"] (defScope s_deeds) := ⟨rfl, rfl, rfl, by decide +kernel, rfl, by decide +kernel, by decide +kernel⟩
theorem ok_deeds (T : Tx K mg) : FnOk P w K mg base CX0 4 T.f_deeds T.d_deeds ["source", "width", "many", "wide"] (sp_deeds K) := by
  refine T.F_deeds.ok sc_deeds (fun vs H Q E h => ln_deeds h) (fun cdv A outer s H vs Q E hr h => ⟨t_deeds K, ?_, rd_deeds h⟩)
  exact (pss_cons (ps_par (i := 4) (j := 5) (by rfl) sc_deeds.nd rfl rfl (by decide) rfl rfl (pa_cons (pe_callS (ok_draw T) (hr.mono (by decide)) (by rfl) T.g_draw T.F_draw.kp T.b_draw (fun _ => passN) (pa_cons (pv 0) (pa_cons pe_int pa_nil))) (pa_cons (pe_lst pa_nil) pa_nil)) (by rfl))
    (pss_cons (ps_for PassesOwn.never (by rfl) (pi_range1 (by rfl) T.z_range (pa_cons (pv 2) pa_nil)) (pg_name (i := 6) sc_deeds.nd rfl (.inl rfl)) (pss_cons (ps_set (i := 7) sc_deeds.nd rfl (.inl rfl) (pe_ix ix_list (pe_lst (pa_cons (pe_callS (ok_draw T) (hr.mono (by decide)) (by rfl) T.g_draw T.F_draw.kp T.b_draw (fun _ => passN) (pa_cons (pv 0) (pa_cons (pv 1) pa_nil))) (pa_cons (pe_op op_mod (pv 6) (pv 1)) (pa_cons (pe_callS (ok_draw T) (hr.mono (by decide)) (by rfl) T.g_draw T.F_draw.kp T.b_draw (fun _ => passN) (pa_cons (pv 0) (pa_cons pe_int pa_nil))) (pa_cons (pe_op op_sub (pe_op op_sub (pv 1) pe_int) (pe_op op_mod (pv 6) (pv 1))) pa_nil))))) (pv 4) (fun _ _ => rfl)))
    (pss_one (ps_expr (pe_bm PySem.F.plainAttrs_list PySem.F.slot_list_append PySem.F.type_list_append mt_append (pv 5) (pa_cons (pe_op op_catT (pe_tup (pa_cons (pv 7) pa_nil)) (pe_callS (ok_share T) (hr.mono (by decide)) (by rfl) T.g_share T.F_share.kp T.b_share (fun _ => passN) (pa_cons (pv 0) (pa_cons (pv 3) pa_nil)))) pa_nil))))))
    (pss_one (ps_ret (pv 5)))))

theorem sc_moved : FnScope N_moved ["row", "move"] (defScope s_moved) := ⟨rfl, rfl, rfl, by decide +kernel, rfl, by decide +kernel, by decide +kernel⟩
theorem ok_moved (T : Tx K mg) : FnOk P w K mg base (L2N.CX P w) 5 T.f_moved T.d_moved ["row", "move"] (sp_moved K) := by
  refine okXN T.F_moved sc_moved (fun vs H Q E h => ln_moved h) (fun cdv A outer s H vs Q E hr h => ⟨t_moved K (fun cls dd _ H => E cls dd H), ?_, rd_moved h⟩)
  exact (pss_cons (ps_expr (pe_callS (ok_check_row T) (hr.mono (by decide)) (by rfl) T.g_check_row T.F_check_row.kp T.b_check_row (L2N.passAt (L2N.takes_of rfl rfl rfl rfl)) (pa_cons (pv 0) pa_nil)))
    (pss_cons (ps_expr (pe_callS (ok_check_move T) (hr.mono (by decide)) (by rfl) T.g_check_move T.F_check_move.kp T.b_check_move (L2N.passAt (L2N.takes_of rfl rfl rfl rfl)) (pa_cons (pv 1) (pa_cons (pe_callB call_len_seq (by rfl) T.z_len (by decide +kernel) (pa_cons (pv 0) pa_nil)) pa_nil))))
    (pss_one (ps_ret (pe_callS (ok_row_behind T) (hr.mono (by decide)) (by rfl) T.g_row_behind T.F_row_behind.kp T.b_row_behind (fun _ => passN) (pa_cons (pv 0) (pa_cons (pe_lst (pa_cons (pv 1) pa_nil)) pa_nil)))))))

theorem sc_row_after : FnScope N_row_after ["row", "moves"] (defScope s_row_after) := ⟨rfl, rfl, rfl, by decide +kernel, rfl, by decide +kernel, by decide +kernel⟩
theorem ok_row_after (T : Tx K mg) : FnOk P w K mg base (L2N.CX P w) 5 T.f_row_after T.d_row_after ["row", "moves"] (sp_row_after K) := by
  refine okXN T.F_row_after sc_row_after (fun vs H Q E h => ln_row_after h) (fun cdv A outer s H vs Q E hr h => ⟨t_row_after K (fun cls dd _ H => E cls dd H), ?_, rd_row_after h⟩)
  exact (pss_cons (ps_expr (pe_callS (ok_check_row T) (hr.mono (by decide)) (by rfl) T.g_check_row T.F_check_row.kp T.b_check_row (L2N.passAt (L2N.takes_of rfl rfl rfl rfl)) (pa_cons (pv 0) pa_nil)))
    (pss_cons (ps_expr (pe_callS (ok_check_moves T) (hr.mono (by decide)) (by rfl) T.g_check_moves T.F_check_moves.kp T.b_check_moves (L2N.passAt (L2N.takes_of rfl rfl rfl rfl)) (pa_cons (pv 1) (pa_cons (pe_callB call_len_seq (by rfl) T.z_len (by decide +kernel) (pa_cons (pv 0) pa_nil)) pa_nil))))
    (pss_one (ps_ret (pe_callS (ok_row_behind T) (hr.mono (by decide)) (by rfl) T.g_row_behind T.F_row_behind.kp T.b_row_behind (fun _ => passN) (pa_cons (pv 0) (pa_cons (pv 1) pa_nil)))))))

theorem sc_walk_rows : GScope N_walk_rows ["row", "moves"] (defScope s_walk_rows) := ⟨rfl, rfl, rfl, by decide +kernel, rfl, by decide +kernel, by decide +kernel⟩
theorem okF_walk_rows (T : Tx K mg) : FnF P w K mg base 5 T.f_walk_rows T.d_walk_rows ["row", "moves"] (sp_walk_rows K) := by
  refine gokF T.F_walk_rows sc_walk_rows (fun vs H Q E h => ln_walk_rows h) (fun cdv A outer s H vs Q E pn hr h => ⟨t_walk_rows K (fun cls dd _ H => E cls dd H), ?_, rd_walk_rows h⟩)
  exact (f1_cons (ps_expr (pe_callS (ok_check_row T) (hr.mono (by decide)) (by rfl) T.g_check_row T.F_check_row.kp T.b_check_row (L2N.passAt takes_gcN) (pa_cons (pv 0) pa_nil)))
    (f1_cons (ps_expr (pe_callS (ok_check_moves T) (hr.mono (by decide)) (by rfl) T.g_check_moves T.F_check_moves.kp T.b_check_moves (L2N.passAt takes_gcN) (pa_cons (pv 1) (pa_cons (pe_callB call_len_seq (by rfl) T.z_len (by decide +kernel) (pa_cons (pv 0) pa_nil)) pa_nil))))
    (f1_cons (ps_set (i := 2) sc_walk_rows.nd rfl (.inl rfl) (pe_callTy call_list_of (by rfl) T.z_list (by decide +kernel) (pa_cons (pv 0) pa_nil)))
    (f1_cons (ps_set (i := 3) sc_walk_rows.nd rfl (.inl rfl) (pe_callTy call_list_of (by rfl) T.z_list (by decide +kernel) (pa_cons (pv 1) pa_nil)))
    (f1_yield (pe_callTy call_list_of (by rfl) T.z_list (by decide +kernel) (pa_cons (pv 2) pa_nil)))))))

theorem sc_merged : FnScope N_merged ["moves"] (defScope s_merged) := ⟨rfl, rfl, rfl, by decide +kernel, rfl, by decide +kernel, by decide +kernel⟩
theorem ok_merged (T : Tx K mg) : FnOk P w K mg base (L2N.CX P w) 5 T.f_merged T.d_merged ["moves"] (sp_merged K) := by
  refine okXN T.F_merged sc_merged (fun vs H Q E h => ln_merged h) (fun cdv A outer s H vs Q E hr h => ⟨t_merged K (fun cls dd _ H => E cls dd H), ?_, rd_merged h⟩)
  exact (pss_cons (ps_expr (pe_callS (ok_check_moves T) (hr.mono (by decide)) (by rfl) T.g_check_moves T.F_check_moves.kp T.b_check_moves (L2N.passAt (L2N.takes_of rfl rfl rfl rfl)) (pa_cons (pv 0) (pa_cons (pe_glob (v := .int 8) (by rfl) T.c_MOST_SLIDERS ⟨_, rfl⟩) pa_nil))))
    (pss_cons (ps_set (i := 1) sc_merged.nd rfl (.inr rfl) (pe_op op_sub (pe_callB call_len_seq (by rfl) T.z_len (by decide +kernel) (pa_cons (pv 0) pa_nil)) pe_int))
    (pss_one (ps_ret (pe_lc (own := [("at", 2), ("move", 3)]) (g := (gTup _ 2 (gCons (gName 2) (gCons (gName 3) gNil)))) (tt := (tOr (tTest (tOp rEq (tVar 2) (tVar 1))) (tTest (tOp rNe (tOp (rIxT _) (tOp (rIxL _) (tVar 0) (tOp rAddI (tVar 2) (tC (.int 1)))) (tC (.int 0))) (tOp (rIxT _) (tVar 3) (tC (.int 0))))))) (by rfl) sc_merged.nd (pi_enum (by rfl) T.z_enumerate (pa_cons (pv 0) pa_nil)) (blkOk_by (own := [("at", 2), ("move", 3)]) (N := N_merged) (sc := defScope s_merged) (by decide +kernel)) (fun _ _ _ _ _ => (pg_tup (by rfl) (pgs_cons (pg_name (i := 2) sc_merged.nd rfl (.inl rfl)) (pgs_cons (pg_name (i := 3) sc_merged.nd rfl (.inl rfl)) pgs_nil)))) (fun _ _ _ _ _ => (pts_one (PW.pt (pw_or (pt_cmpR op_eq (pv 2) (pv 1) (nomark _)) (pw_or1 (pt_cmpR op_ne (pe_ix ix_tup (pe_ix ix_list (pv 0) (pe_op op_add (pv 2) pe_int) (fun _ _ => rfl)) pe_int (fun _ _ => rfl)) (pe_ix ix_tup (pv 3) pe_int (fun _ _ => rfl)) (nomark _))))))) (fun _ _ _ _ _ => (pv 3)))))))

theorem sc_error40 : FnScope N_error40 ["door", "one", "two"] (defScope s_error40) := ⟨rfl, rfl, rfl, by decide +kernel, rfl, by decide +kernel, by decide +kernel⟩
theorem ok_error40 (T : Tx K mg) : FnOk P w K mg base CX0 9 T.f_error40 T.d_error40 ["door", "one", "two"] (sp_error40 K) := by
  refine T.F_error40.ok sc_error40 (fun vs H Q E h => ln_error40 h) (fun cdv A outer s H vs Q E hr h => ⟨t_error40 K, ?_, rd_error40 h⟩)
  exact (pss_cons (ps_set (i := 3) sc_error40.nd rfl (.inl rfl) pe_non)
    (pss_cons (ps_try_asT (i := 5) (c := .ref (adE K "SliderError")) rfl rfl rfl sc_error40.nd rfl rfl ⟨by rfl, by decide, .inl T.x_SliderError⟩ (fun m b h => T.ex.exm m _ b h) takes00 (fun W1 pn1 xe1 tk1 po1 => (pss_one (ps_if (pt_cmpR op_lt (pv 0) pe_int (nomark _)) (pss_one (ps_expr (pe_callAt (ok_moved T) (ok_row_after T) T.q_moved T.q_row_after (hr.mono (by decide)) (hr.mono (by decide)) T.F_moved.kp T.F_row_after.kp T.b_moved T.b_row_after (L2N.passAt tk1) (pe_ix ix_list (pe_lst (pa_cons (pe_glob (v := .ref (adE K "moved")) (by rfl) T.x_moved rfl) (pa_cons (pe_glob (v := .ref (adE K "row_after")) (by rfl) T.x_row_after rfl) pa_nil))) (pv 0) (fun _ _ => rfl)) (pa_cons (pv 1) (pa_cons (pv 2) pa_nil))))) (pss_one (ps_if (pt_cmpR op_eq (pv 0) pe_int (nomark _)) (pss_one (ps_first po1 tk1 (okF_walk_rows T) (hr.mono (by decide)) (by rfl) T.g_walk_rows T.F_walk_rows.kp T.b_walk_rows T.stp (pa_cons (pv 1) (pa_cons (pv 2) pa_nil)) sc_error40.nd (i := 4) rfl (.inl rfl))) (pss_one (ps_expr (pe_callS (ok_merged T) (hr.mono (by decide)) (by rfl) T.g_merged T.F_merged.kp T.b_merged (L2N.passAt tk1) (pa_cons (pv 2) pa_nil))))))))) (fun a1 pn1 => (pss_one (ps_set (i := 3) sc_error40.nd rfl (.inl rfl) (pv 5)))))
    (pss_one (ps_ret (pe_ifExp (pt_cmpR op_isN (pv 3) pe_non (nomark _)) pe_str (pe_callS (ok_kind46 T) (hr.mono (by decide)) (by rfl) T.g_kind46 T.F_kind46.kp T.b_kind46 (fun _ => passN) (pa_cons (pv 3) pa_nil)))))))

theorem sc_law40 : FnScope N_law40 ["script"] (defScope s_law40) := ⟨rfl, rfl, rfl, by decide +kernel, rfl, by decide +kernel, by decide +kernel⟩
theorem ok_law40 (T : Tx K mg) (nd : base.NoDigits) : FnG P w K mg base CX0 10 T.f_law40 T.d_law40 ["script"] (sp_law40 K) := by
  refine okG T.F_law40 sc_law40 (fun vs H Q E h => ln_law40 h) (fun cdv A outer s H vs Q E hgd hr h => ⟨t_law40 K, ?_, rd_law40 h⟩)
  exact (pss_cons (ps_for PassesOwn.never (by rfl) (pi_range1 (by rfl) T.z_range (pa_cons (pe_callB (call_max2 rfl) (by rfl) T.z_max (by decide +kernel) (pa_cons pe_int (pa_cons (pe_callB (call_min2 rfl) (by rfl) T.z_min (by decide +kernel) (pa_cons pe_int (pa_cons (pe_callB call_len_seq (by rfl) T.z_len (by decide +kernel) (pa_cons (pv 0) pa_nil)) pa_nil))) pa_nil))) pa_nil)) (pg_name (i := 1) sc_law40.nd rfl (.inl rfl)) (pss_cons (ps_set (i := 2) sc_law40.nd rfl (.inl rfl) (pe_callS (ok_openSource T) (hr.mono (by decide)) (by rfl) T.g_openSource T.F_openSource.kp T.b_openSource (fun _ => passN) (pa_cons (pv 0) (pa_cons (pv 1) pa_nil))))
    (pss_one (ps_for PassesOwn.never (by rfl) (pi_range1 (by rfl) T.z_range (pa_cons pe_int pa_nil)) (pg_name (i := 3) sc_law40.nd rfl (.inl rfl)) (pss_cons (ps_set (i := 4) sc_law40.nd rfl (.inl rfl) (pe_callS (ok_width T) (hr.mono (by decide)) (by rfl) T.g_width T.F_width.kp T.b_width (fun _ => passN) (pa_cons (pv 2) (pa_cons (pv 0) pa_nil))))
    (pss_cons (ps_set (i := 5) sc_law40.nd rfl (.inl rfl) (pe_callS (ok_weights T) (hr.mono (by decide)) (by rfl) T.g_weights T.F_weights.kp T.b_weights (fun _ => passN) (pa_cons (pv 2) (pa_cons (pv 4) (pa_cons pe_int pa_nil)))))
    (pss_cons (ps_set (i := 6) sc_law40.nd rfl (.inl rfl) (pe_callS (ok_deeds T) (hr.mono (by decide)) (by rfl) T.g_deeds T.F_deeds.kp T.b_deeds (fun _ => passN) (pa_cons (pv 2) (pa_cons (pv 4) (pa_cons (pe_callS (ok_draw T) (hr.mono (by decide)) (by rfl) T.g_draw T.F_draw.kp T.b_draw (fun _ => passN) (pa_cons (pv 2) (pa_cons pe_int pa_nil))) (pa_cons pe_int pa_nil))))))
    (pss_cons (ps_par (i := 7) (j := 8) (by rfl) sc_law40.nd rfl rfl (by decide) rfl rfl (pa_cons (pe_callS (ok_noRow T) (hr.mono (by decide)) (by rfl) T.g_noRow T.F_noRow.kp T.b_noRow (fun _ => passN) (pa_cons (pv 2) (pa_cons (pv 5) pa_nil))) (pa_cons (pe_callS (ok_noMove T) (hr.mono (by decide)) (by rfl) T.g_noMove T.F_noMove.kp T.b_noMove (fun _ => passN) (pa_cons (pv 2) (pa_cons (pv 4) pa_nil))) pa_nil)) (by rfl))
    (pss_cons (ps_set (i := 9) sc_law40.nd rfl (.inl rfl) (pe_callS (ok_noMoves T) (hr.mono (by decide)) (by rfl) T.g_noMoves T.F_noMoves.kp T.b_noMoves (fun _ => passN) (pa_cons (pv 2) (pa_cons (pv 4) (pa_cons (pv 6) pa_nil)))))
    (pss_cons (ps_set (i := 10) sc_law40.nd rfl (.inl rfl) (pe_callB (call_reprB nd hgd hr.units) (by rfl) T.z_repr (by decide +kernel) (pa_cons (pe_lst (pa_cons (pv 5) (pa_cons (pv 6) (pa_cons (pv 7) (pa_cons (pv 8) (pa_cons (pv 9) pa_nil)))))) pa_nil)))
    (pss_cons (ps_for PassesOwn.never (by rfl) (pi_range1 (by rfl) T.z_range (pa_cons pe_int pa_nil)) (pg_name (i := 11) sc_law40.nd rfl (.inl rfl)) (pss_cons (ps_set (i := 12) sc_law40.nd rfl (.inl rfl) (pe_ifExp (pt_cmpR op_eq (pv 11) pe_int (nomark _)) (pe_tup (pa_cons pe_int (pa_cons pe_int (pa_cons pe_int pa_nil)))) (pv 6)))
    (pss_cons (ps_set (i := 13) sc_law40.nd rfl (.inl rfl) (pe_ifExp (pt_cmpR op_eq (pv 11) pe_int (nomark _)) (pv 8) (pv 9)))
    (pss_cons (ps_set (i := 14) sc_law40.nd rfl (.inl rfl) (pe_lst (pa_cons (pe_callS (ok_error40 T) (hr.mono (by decide)) (by rfl) T.g_error40 T.F_error40.kp T.b_error40 (fun _ => passN) (pa_cons (pv 11) (pa_cons (pv 7) (pa_cons (pv 13) pa_nil)))) (pa_cons (pe_callS (ok_error40 T) (hr.mono (by decide)) (by rfl) T.g_error40 T.F_error40.kp T.b_error40 (fun _ => passN) (pa_cons (pv 11) (pa_cons (pv 7) (pa_cons (pv 12) pa_nil)))) pa_nil))))
    (pss_cons (ps_expr (pe_bm PySem.F.plainAttrs_list PySem.F.slot_list_append PySem.F.type_list_append mt_append (pv 14) (pa_cons (pe_callS (ok_error40 T) (hr.mono (by decide)) (by rfl) T.g_error40 T.F_error40.kp T.b_error40 (fun _ => passN) (pa_cons (pv 11) (pa_cons (pv 5) (pa_cons (pv 13) pa_nil)))) pa_nil)))
    (pss_cons (ps_set (i := 15) sc_law40.nd rfl (.inl rfl) (pe_lst (pa_cons pe_str (pa_cons pe_str (pa_cons (pe_ifExp (pt_cmpR op_eq (pv 11) pe_int (nomark _)) pe_str pe_str) (pa_cons pe_str pa_nil))))))
    (pss_one (ps_if (pt_cmpR (op_neD hr.units) (pe_op op_catQ (pv 14) (pe_lst (pa_cons (pe_callS (ok_error40 T) (hr.mono (by decide)) (by rfl) T.g_error40 T.F_error40.kp T.b_error40 (fun _ => passN) (pa_cons (pv 11) (pa_cons (pv 5) (pa_cons (pv 12) pa_nil)))) pa_nil))) (pv 15) (nomark _)) (pss_one (ps_ret pe_bl)) pss_nil))))))))
    (pss_cons (ps_set (i := 16) sc_law40.nd rfl (.inl rfl) (pe_callS (ok_noMoves T) (hr.mono (by decide)) (by rfl) T.g_noMoves T.F_noMoves.kp T.b_noMoves (fun _ => passN) (pa_cons (pv 2) (pa_cons pe_int (pa_cons (pv 6) pa_nil)))))
    (pss_cons (ps_if (pt_cmpR (op_neD hr.units) (pe_lst (pa_cons (pe_callS (ok_error40 T) (hr.mono (by decide)) (by rfl) T.g_error40 T.F_error40.kp T.b_error40 (fun _ => passN) (pa_cons pe_int (pa_cons pe_non (pa_cons (pv 16) pa_nil)))) (pa_cons (pe_callS (ok_error40 T) (hr.mono (by decide)) (by rfl) T.g_error40 T.F_error40.kp T.b_error40 (fun _ => passN) (pa_cons pe_int (pa_cons pe_non (pa_cons (pv 6) pa_nil)))) pa_nil))) (pe_lst (pa_cons pe_str (pa_cons pe_str pa_nil))) (nomark _)) (pss_one (ps_ret pe_bl)) pss_nil)
    (pss_one (ps_if (pt_cmpR op_ne (pe_callB (call_reprB nd hgd hr.units) (by rfl) T.z_repr (by decide +kernel) (pa_cons (pe_lst (pa_cons (pv 5) (pa_cons (pv 6) (pa_cons (pv 7) (pa_cons (pv 8) (pa_cons (pv 9) pa_nil)))))) pa_nil)) (pv 10) (nomark _)) (pss_one (ps_ret pe_bl)) pss_nil)))))))))))))))
    (pss_one (ps_ret (pe_and (pe_cmpR op_eq (pe_callS (ok_error40 T) (hr.mono (by decide)) (by rfl) T.g_error40 T.F_error40.kp T.b_error40 (fun _ => passN) (pa_cons pe_int (pa_cons (pe_lst (pa_cons pe_int (pa_cons pe_int pa_nil))) (pa_cons (pe_tup (pa_cons pe_int (pa_cons pe_int (pa_cons pe_int pa_nil)))) pa_nil)))) pe_str (nomark _)) (pe_one (pe_cmpR op_eq (pe_callS (ok_error40 T) (hr.mono (by decide)) (by rfl) T.g_error40 T.F_error40.kp T.b_error40 (fun _ => passN) (pa_cons pe_int (pa_cons (pe_lst (pa_cons pe_int (pa_cons pe_int pa_nil))) (pa_cons (pe_lst (pa_cons (pe_tup (pa_cons pe_int (pa_cons pe_int (pa_cons pe_int pa_nil)))) pa_nil)) pa_nil)))) pe_str (nomark _)))))))

end
theorem all_mk {l : PySem.W.OpenLaw} {w : World} {K : PySem.W.Frag} {h : Heap} {mg : Str → Option Value} {fa : Addr} (X : K.In h) (G : h.Ns mainGlobals mg) (hfa : mg "law" = some (.ref fa))
    {f_is_whole : Addr} {od_is_whole an_is_whole : Option Addr} {sl_is_whole : Array (Option Value)} {oc_is_whole kV_is_whole dc_is_whole pm_is_whole cd_is_whole ct_is_whole : Value}
    {f_has_slider_length : Addr} {od_has_slider_length an_has_slider_length : Option Addr} {sl_has_slider_length : Array (Option Value)} {oc_has_slider_length kV_has_slider_length dc_has_slider_length pm_has_slider_length cd_has_slider_length ct_has_slider_length : Value}
    {f_common_divisor : Addr} {od_common_divisor an_common_divisor : Option Addr} {sl_common_divisor : Array (Option Value)} {oc_common_divisor kV_common_divisor dc_common_divisor pm_common_divisor cd_common_divisor ct_common_divisor : Value}
    {f_are_there : Addr} {od_are_there an_are_there : Option Addr} {sl_are_there : Array (Option Value)} {oc_are_there kV_are_there dc_are_there pm_are_there cd_are_there ct_are_there : Value}
    {f_weights_after : Addr} {od_weights_after an_weights_after : Option Addr} {sl_weights_after : Array (Option Value)} {oc_weights_after kV_weights_after dc_weights_after pm_weights_after cd_weights_after ct_weights_after : Value}
    {f_openSource : Addr} {od_openSource an_openSource : Option Addr} {sl_openSource : Array (Option Value)} {oc_openSource kV_openSource dc_openSource pm_openSource cd_openSource ct_openSource : Value}
    {f_draw : Addr} {od_draw an_draw : Option Addr} {sl_draw : Array (Option Value)} {oc_draw kV_draw dc_draw pm_draw cd_draw ct_draw : Value}
    {f_divisor : Addr} {od_divisor an_divisor : Option Addr} {sl_divisor : Array (Option Value)} {oc_divisor kV_divisor dc_divisor pm_divisor cd_divisor ct_divisor : Value}
    {f_kind46 : Addr} {od_kind46 an_kind46 : Option Addr} {sl_kind46 : Array (Option Value)} {oc_kind46 kV_kind46 dc_kind46 pm_kind46 cd_kind46 ct_kind46 : Value}
    {f_are_weights : Addr} {od_are_weights an_are_weights : Option Addr} {sl_are_weights : Array (Option Value)} {oc_are_weights kV_are_weights dc_are_weights pm_are_weights cd_are_weights ct_are_weights : Value}
    {f_reduced : Addr} {od_reduced an_reduced : Option Addr} {sl_reduced : Array (Option Value)} {oc_reduced kV_reduced dc_reduced pm_reduced cd_reduced ct_reduced : Value}
    {f_is_move : Addr} {od_is_move an_is_move : Option Addr} {sl_is_move : Array (Option Value)} {oc_is_move kV_is_move dc_is_move pm_is_move cd_is_move ct_is_move : Value}
    {f_plain : Addr} {od_plain an_plain : Option Addr} {sl_plain : Array (Option Value)} {oc_plain kV_plain dc_plain pm_plain cd_plain ct_plain : Value}
    {f_width : Addr} {od_width an_width : Option Addr} {sl_width : Array (Option Value)} {oc_width kV_width dc_width pm_width cd_width ct_width : Value}
    {f_any : Addr} {od_any an_any : Option Addr} {sl_any : Array (Option Value)} {oc_any kV_any dc_any pm_any cd_any ct_any : Value}
    {f_noRow : Addr} {od_noRow an_noRow : Option Addr} {sl_noRow : Array (Option Value)} {oc_noRow kV_noRow dc_noRow pm_noRow cd_noRow ct_noRow : Value}
    {f_noMove : Addr} {od_noMove an_noMove : Option Addr} {sl_noMove : Array (Option Value)} {oc_noMove kV_noMove dc_noMove pm_noMove cd_noMove ct_noMove : Value}
    {f_is_row : Addr} {od_is_row an_is_row : Option Addr} {sl_is_row : Array (Option Value)} {oc_is_row kV_is_row dc_is_row pm_is_row cd_is_row ct_is_row : Value}
    {f_is_moves : Addr} {od_is_moves an_is_moves : Option Addr} {sl_is_moves : Array (Option Value)} {oc_is_moves kV_is_moves dc_is_moves pm_is_moves cd_is_moves ct_is_moves : Value}
    {f_check_move : Addr} {od_check_move an_check_move : Option Addr} {sl_check_move : Array (Option Value)} {oc_check_move kV_check_move dc_check_move pm_check_move cd_check_move ct_check_move : Value}
    {f_row_behind : Addr} {od_row_behind an_row_behind : Option Addr} {sl_row_behind : Array (Option Value)} {oc_row_behind kV_row_behind dc_row_behind pm_row_behind cd_row_behind ct_row_behind : Value}
    {f_weights : Addr} {od_weights an_weights : Option Addr} {sl_weights : Array (Option Value)} {oc_weights kV_weights dc_weights pm_weights cd_weights ct_weights : Value}
    {f_share : Addr} {od_share an_share : Option Addr} {sl_share : Array (Option Value)} {oc_share kV_share dc_share pm_share cd_share ct_share : Value}
    {f_noMoves : Addr} {od_noMoves an_noMoves : Option Addr} {sl_noMoves : Array (Option Value)} {oc_noMoves kV_noMoves dc_noMoves pm_noMoves cd_noMoves ct_noMoves : Value}
    {f_check_row : Addr} {od_check_row an_check_row : Option Addr} {sl_check_row : Array (Option Value)} {oc_check_row kV_check_row dc_check_row pm_check_row cd_check_row ct_check_row : Value}
    {f_check_moves : Addr} {od_check_moves an_check_moves : Option Addr} {sl_check_moves : Array (Option Value)} {oc_check_moves kV_check_moves dc_check_moves pm_check_moves cd_check_moves ct_check_moves : Value}
    {f_deeds : Addr} {od_deeds an_deeds : Option Addr} {sl_deeds : Array (Option Value)} {oc_deeds kV_deeds dc_deeds pm_deeds cd_deeds ct_deeds : Value}
    {f_moved : Addr} {od_moved an_moved : Option Addr} {sl_moved : Array (Option Value)} {oc_moved kV_moved dc_moved pm_moved cd_moved ct_moved : Value}
    {f_row_after : Addr} {od_row_after an_row_after : Option Addr} {sl_row_after : Array (Option Value)} {oc_row_after kV_row_after dc_row_after pm_row_after cd_row_after ct_row_after : Value}
    {f_walk_rows : Addr} {od_walk_rows an_walk_rows : Option Addr} {sl_walk_rows : Array (Option Value)} {oc_walk_rows kV_walk_rows dc_walk_rows pm_walk_rows cd_walk_rows ct_walk_rows : Value}
    {f_merged : Addr} {od_merged an_merged : Option Addr} {sl_merged : Array (Option Value)} {oc_merged kV_merged dc_merged pm_merged cd_merged ct_merged : Value}
    {f_error40 : Addr} {od_error40 an_error40 : Option Addr} {sl_error40 : Array (Option Value)} {oc_error40 kV_error40 dc_error40 pm_error40 cd_error40 ct_error40 : Value}
    {f_law40 : Addr} {od_law40 an_law40 : Option Addr} {sl_law40 : Array (Option Value)} {oc_law40 kV_law40 dc_law40 pm_law40 cd_law40 ct_law40 : Value}
    {v_FEWEST_SLIDERS : Tok}
    {v_MOST_MOVES : Tok}
    {v_MOST_SLIDERS : Tok}
    {ax_EmptyHistoryError : Addr}
    {ax_FullError : Addr}
    {ax_InvalidFormatError : Addr}
    {ax_InvalidLocksError : Addr}
    {ax_InvalidLogError : Addr}
    {ax_InvalidMoveError : Addr}
    {ax_InvalidMovesError : Addr}
    {ax_InvalidNumberError : Addr}
    {ax_InvalidRoundError : Addr}
    {ax_InvalidRowError : Addr}
    {ax_InvalidSharesError : Addr}
    {ax_InvalidSliderError : Addr}
    {ax_LockedError : Addr}
    {ax_NoMoveError : Addr}
    {ax_NoOriginError : Addr}
    {ax_NotShortestError : Addr}
    {ax_NotStartedError : Addr}
    {ax_SliderError : Addr}
    {ax_StartedError : Addr}
    {ax_StepError : Addr}
    {ax_TooMuchError : Addr}
    {ax_moved : Addr}
    {ax_row_after : Addr}
    (a_is_whole : PySem.W.nsIn K mainGlobals "is_whole" = some (some (.ref f_is_whole))) (l_is_whole : K.lookup f_is_whole = some ⟨oc_is_whole, od_is_whole, .func (PySem.W.fnOf "is_whole" "is_whole" (defArgs s_is_whole) (defBody s_is_whole) (defScope s_is_whole) .none kV_is_whole dc_is_whole pm_is_whole an_is_whole cd_is_whole ct_is_whole), sl_is_whole⟩) (c_is_whole : PySem.W.codeIn K cd_is_whole "is_whole" = true) (k_is_whole : PySem.W.keepIn K (.ref f_is_whole) = true)
    (a_has_slider_length : PySem.W.nsIn K mainGlobals "has_slider_length" = some (some (.ref f_has_slider_length))) (l_has_slider_length : K.lookup f_has_slider_length = some ⟨oc_has_slider_length, od_has_slider_length, .func (PySem.W.fnOf "has_slider_length" "has_slider_length" (defArgs s_has_slider_length) (defBody s_has_slider_length) (defScope s_has_slider_length) .none kV_has_slider_length dc_has_slider_length pm_has_slider_length an_has_slider_length cd_has_slider_length ct_has_slider_length), sl_has_slider_length⟩) (c_has_slider_length : PySem.W.codeIn K cd_has_slider_length "has_slider_length" = true) (k_has_slider_length : PySem.W.keepIn K (.ref f_has_slider_length) = true)
    (a_common_divisor : PySem.W.nsIn K mainGlobals "common_divisor" = some (some (.ref f_common_divisor))) (l_common_divisor : K.lookup f_common_divisor = some ⟨oc_common_divisor, od_common_divisor, .func (PySem.W.fnOf "common_divisor" "common_divisor" (defArgs s_common_divisor) (defBody s_common_divisor) (defScope s_common_divisor) .none kV_common_divisor dc_common_divisor pm_common_divisor an_common_divisor cd_common_divisor ct_common_divisor), sl_common_divisor⟩) (c_common_divisor : PySem.W.codeIn K cd_common_divisor "common_divisor" = true) (k_common_divisor : PySem.W.keepIn K (.ref f_common_divisor) = true)
    (a_are_there : PySem.W.nsIn K mainGlobals "are_there" = some (some (.ref f_are_there))) (l_are_there : K.lookup f_are_there = some ⟨oc_are_there, od_are_there, .func (PySem.W.fnOf "are_there" "are_there" (defArgs s_are_there) (defBody s_are_there) (defScope s_are_there) .none kV_are_there dc_are_there pm_are_there an_are_there cd_are_there ct_are_there), sl_are_there⟩) (c_are_there : PySem.W.codeIn K cd_are_there "are_there" = true) (k_are_there : PySem.W.keepIn K (.ref f_are_there) = true)
    (a_weights_after : PySem.W.nsIn K mainGlobals "weights_after" = some (some (.ref f_weights_after))) (l_weights_after : K.lookup f_weights_after = some ⟨oc_weights_after, od_weights_after, .func (PySem.W.fnOf "weights_after" "weights_after" (defArgs s_weights_after) (defBody s_weights_after) (defScope s_weights_after) .none kV_weights_after dc_weights_after pm_weights_after an_weights_after cd_weights_after ct_weights_after), sl_weights_after⟩) (c_weights_after : PySem.W.codeIn K cd_weights_after "weights_after" = true) (k_weights_after : PySem.W.keepIn K (.ref f_weights_after) = true)
    (a_openSource : PySem.W.nsIn K mainGlobals "_law_open_source" = some (some (.ref f_openSource))) (l_openSource : K.lookup f_openSource = some ⟨oc_openSource, od_openSource, .func (PySem.W.fnOf "_law_open_source" "_law_open_source" (defArgs s_openSource) (defBody s_openSource) (defScope s_openSource) .none kV_openSource dc_openSource pm_openSource an_openSource cd_openSource ct_openSource), sl_openSource⟩) (c_openSource : PySem.W.codeIn K cd_openSource "_law_open_source" = true) (k_openSource : PySem.W.keepIn K (.ref f_openSource) = true)
    (a_draw : PySem.W.nsIn K mainGlobals "_law_draw" = some (some (.ref f_draw))) (l_draw : K.lookup f_draw = some ⟨oc_draw, od_draw, .func (PySem.W.fnOf "_law_draw" "_law_draw" (defArgs s_draw) (defBody s_draw) (defScope s_draw) .none kV_draw dc_draw pm_draw an_draw cd_draw ct_draw), sl_draw⟩) (c_draw : PySem.W.codeIn K cd_draw "_law_draw" = true) (k_draw : PySem.W.keepIn K (.ref f_draw) = true)
    (a_divisor : PySem.W.nsIn K mainGlobals "_law_divisor" = some (some (.ref f_divisor))) (l_divisor : K.lookup f_divisor = some ⟨oc_divisor, od_divisor, .func (PySem.W.fnOf "_law_divisor" "_law_divisor" (defArgs s_divisor) (defBody s_divisor) (defScope s_divisor) .none kV_divisor dc_divisor pm_divisor an_divisor cd_divisor ct_divisor), sl_divisor⟩) (c_divisor : PySem.W.codeIn K cd_divisor "_law_divisor" = true) (k_divisor : PySem.W.keepIn K (.ref f_divisor) = true)
    (a_kind46 : PySem.W.nsIn K mainGlobals "_law_kind" = some (some (.ref f_kind46))) (l_kind46 : K.lookup f_kind46 = some ⟨oc_kind46, od_kind46, .func (PySem.W.fnOf "_law_kind" "_law_kind" (defArgs s_kind46) (defBody s_kind46) (defScope s_kind46) .none kV_kind46 dc_kind46 pm_kind46 an_kind46 cd_kind46 ct_kind46), sl_kind46⟩) (c_kind46 : PySem.W.codeIn K cd_kind46 "_law_kind" = true) (k_kind46 : PySem.W.keepIn K (.ref f_kind46) = true)
    (a_are_weights : PySem.W.nsIn K mainGlobals "are_weights" = some (some (.ref f_are_weights))) (l_are_weights : K.lookup f_are_weights = some ⟨oc_are_weights, od_are_weights, .func (PySem.W.fnOf "are_weights" "are_weights" (defArgs s_are_weights) (defBody s_are_weights) (defScope s_are_weights) .none kV_are_weights dc_are_weights pm_are_weights an_are_weights cd_are_weights ct_are_weights), sl_are_weights⟩) (c_are_weights : PySem.W.codeIn K cd_are_weights "are_weights" = true) (k_are_weights : PySem.W.keepIn K (.ref f_are_weights) = true)
    (a_reduced : PySem.W.nsIn K mainGlobals "reduced" = some (some (.ref f_reduced))) (l_reduced : K.lookup f_reduced = some ⟨oc_reduced, od_reduced, .func (PySem.W.fnOf "reduced" "reduced" (defArgs s_reduced) (defBody s_reduced) (defScope s_reduced) .none kV_reduced dc_reduced pm_reduced an_reduced cd_reduced ct_reduced), sl_reduced⟩) (c_reduced : PySem.W.codeIn K cd_reduced "reduced" = true) (k_reduced : PySem.W.keepIn K (.ref f_reduced) = true)
    (a_is_move : PySem.W.nsIn K mainGlobals "is_move" = some (some (.ref f_is_move))) (l_is_move : K.lookup f_is_move = some ⟨oc_is_move, od_is_move, .func (PySem.W.fnOf "is_move" "is_move" (defArgs s_is_move) (defBody s_is_move) (defScope s_is_move) .none kV_is_move dc_is_move pm_is_move an_is_move cd_is_move ct_is_move), sl_is_move⟩) (c_is_move : PySem.W.codeIn K cd_is_move "is_move" = true) (k_is_move : PySem.W.keepIn K (.ref f_is_move) = true)
    (a_plain : PySem.W.nsIn K mainGlobals "_law_plain" = some (some (.ref f_plain))) (l_plain : K.lookup f_plain = some ⟨oc_plain, od_plain, .func (PySem.W.fnOf "_law_plain" "_law_plain" (defArgs s_plain) (defBody s_plain) (defScope s_plain) .none kV_plain dc_plain pm_plain an_plain cd_plain ct_plain), sl_plain⟩) (c_plain : PySem.W.codeIn K cd_plain "_law_plain" = true) (k_plain : PySem.W.keepIn K (.ref f_plain) = true)
    (a_width : PySem.W.nsIn K mainGlobals "_law_width" = some (some (.ref f_width))) (l_width : K.lookup f_width = some ⟨oc_width, od_width, .func (PySem.W.fnOf "_law_width" "_law_width" (defArgs s_width) (defBody s_width) (defScope s_width) .none kV_width dc_width pm_width an_width cd_width ct_width), sl_width⟩) (c_width : PySem.W.codeIn K cd_width "_law_width" = true) (k_width : PySem.W.keepIn K (.ref f_width) = true)
    (a_any : PySem.W.nsIn K mainGlobals "_law_any" = some (some (.ref f_any))) (l_any : K.lookup f_any = some ⟨oc_any, od_any, .func (PySem.W.fnOf "_law_any" "_law_any" (defArgs s_any) (defBody s_any) (defScope s_any) .none kV_any dc_any pm_any an_any cd_any ct_any), sl_any⟩) (c_any : PySem.W.codeIn K cd_any "_law_any" = true) (k_any : PySem.W.keepIn K (.ref f_any) = true)
    (a_noRow : PySem.W.nsIn K mainGlobals "_law_no_row" = some (some (.ref f_noRow))) (l_noRow : K.lookup f_noRow = some ⟨oc_noRow, od_noRow, .func (PySem.W.fnOf "_law_no_row" "_law_no_row" (defArgs s_noRow) (defBody s_noRow) (defScope s_noRow) .none kV_noRow dc_noRow pm_noRow an_noRow cd_noRow ct_noRow), sl_noRow⟩) (c_noRow : PySem.W.codeIn K cd_noRow "_law_no_row" = true) (k_noRow : PySem.W.keepIn K (.ref f_noRow) = true)
    (a_noMove : PySem.W.nsIn K mainGlobals "_law_no_move" = some (some (.ref f_noMove))) (l_noMove : K.lookup f_noMove = some ⟨oc_noMove, od_noMove, .func (PySem.W.fnOf "_law_no_move" "_law_no_move" (defArgs s_noMove) (defBody s_noMove) (defScope s_noMove) .none kV_noMove dc_noMove pm_noMove an_noMove cd_noMove ct_noMove), sl_noMove⟩) (c_noMove : PySem.W.codeIn K cd_noMove "_law_no_move" = true) (k_noMove : PySem.W.keepIn K (.ref f_noMove) = true)
    (a_is_row : PySem.W.nsIn K mainGlobals "is_row" = some (some (.ref f_is_row))) (l_is_row : K.lookup f_is_row = some ⟨oc_is_row, od_is_row, .func (PySem.W.fnOf "is_row" "is_row" (defArgs s_is_row) (defBody s_is_row) (defScope s_is_row) .none kV_is_row dc_is_row pm_is_row an_is_row cd_is_row ct_is_row), sl_is_row⟩) (c_is_row : PySem.W.codeIn K cd_is_row "is_row" = true) (k_is_row : PySem.W.keepIn K (.ref f_is_row) = true)
    (a_is_moves : PySem.W.nsIn K mainGlobals "is_moves" = some (some (.ref f_is_moves))) (l_is_moves : K.lookup f_is_moves = some ⟨oc_is_moves, od_is_moves, .func (PySem.W.fnOf "is_moves" "is_moves" (defArgs s_is_moves) (defBody s_is_moves) (defScope s_is_moves) .none kV_is_moves dc_is_moves pm_is_moves an_is_moves cd_is_moves ct_is_moves), sl_is_moves⟩) (c_is_moves : PySem.W.codeIn K cd_is_moves "is_moves" = true) (k_is_moves : PySem.W.keepIn K (.ref f_is_moves) = true)
    (a_check_move : PySem.W.nsIn K mainGlobals "check_move" = some (some (.ref f_check_move))) (l_check_move : K.lookup f_check_move = some ⟨oc_check_move, od_check_move, .func (PySem.W.fnOf "check_move" "check_move" (defArgs s_check_move) (defBody s_check_move) (defScope s_check_move) .none kV_check_move dc_check_move pm_check_move an_check_move cd_check_move ct_check_move), sl_check_move⟩) (c_check_move : PySem.W.codeIn K cd_check_move "check_move" = true) (k_check_move : PySem.W.keepIn K (.ref f_check_move) = true)
    (a_row_behind : PySem.W.nsIn K mainGlobals "row_behind" = some (some (.ref f_row_behind))) (l_row_behind : K.lookup f_row_behind = some ⟨oc_row_behind, od_row_behind, .func (PySem.W.fnOf "row_behind" "row_behind" (defArgs s_row_behind) (defBody s_row_behind) (defScope s_row_behind) .none kV_row_behind dc_row_behind pm_row_behind an_row_behind cd_row_behind ct_row_behind), sl_row_behind⟩) (c_row_behind : PySem.W.codeIn K cd_row_behind "row_behind" = true) (k_row_behind : PySem.W.keepIn K (.ref f_row_behind) = true)
    (a_weights : PySem.W.nsIn K mainGlobals "_law_weights" = some (some (.ref f_weights))) (l_weights : K.lookup f_weights = some ⟨oc_weights, od_weights, .func (PySem.W.fnOf "_law_weights" "_law_weights" (defArgs s_weights) (defBody s_weights) (defScope s_weights) .none kV_weights dc_weights pm_weights an_weights cd_weights ct_weights), sl_weights⟩) (c_weights : PySem.W.codeIn K cd_weights "_law_weights" = true) (k_weights : PySem.W.keepIn K (.ref f_weights) = true)
    (a_share : PySem.W.nsIn K mainGlobals "_law_share" = some (some (.ref f_share))) (l_share : K.lookup f_share = some ⟨oc_share, od_share, .func (PySem.W.fnOf "_law_share" "_law_share" (defArgs s_share) (defBody s_share) (defScope s_share) .none kV_share dc_share pm_share an_share cd_share ct_share), sl_share⟩) (c_share : PySem.W.codeIn K cd_share "_law_share" = true) (k_share : PySem.W.keepIn K (.ref f_share) = true)
    (a_noMoves : PySem.W.nsIn K mainGlobals "_law_no_moves" = some (some (.ref f_noMoves))) (l_noMoves : K.lookup f_noMoves = some ⟨oc_noMoves, od_noMoves, .func (PySem.W.fnOf "_law_no_moves" "_law_no_moves" (defArgs s_noMoves) (defBody s_noMoves) (defScope s_noMoves) .none kV_noMoves dc_noMoves pm_noMoves an_noMoves cd_noMoves ct_noMoves), sl_noMoves⟩) (c_noMoves : PySem.W.codeIn K cd_noMoves "_law_no_moves" = true) (k_noMoves : PySem.W.keepIn K (.ref f_noMoves) = true)
    (a_check_row : PySem.W.nsIn K mainGlobals "check_row" = some (some (.ref f_check_row))) (l_check_row : K.lookup f_check_row = some ⟨oc_check_row, od_check_row, .func (PySem.W.fnOf "check_row" "check_row" (defArgs s_check_row) (defBody s_check_row) (defScope s_check_row) .none kV_check_row dc_check_row pm_check_row an_check_row cd_check_row ct_check_row), sl_check_row⟩) (c_check_row : PySem.W.codeIn K cd_check_row "check_row" = true) (k_check_row : PySem.W.keepIn K (.ref f_check_row) = true)
    (a_check_moves : PySem.W.nsIn K mainGlobals "check_moves" = some (some (.ref f_check_moves))) (l_check_moves : K.lookup f_check_moves = some ⟨oc_check_moves, od_check_moves, .func (PySem.W.fnOf "check_moves" "check_moves" (defArgs s_check_moves) (defBody s_check_moves) (defScope s_check_moves) .none kV_check_moves dc_check_moves pm_check_moves an_check_moves cd_check_moves ct_check_moves), sl_check_moves⟩) (c_check_moves : PySem.W.codeIn K cd_check_moves "check_moves" = true) (k_check_moves : PySem.W.keepIn K (.ref f_check_moves) = true)
    (a_deeds : PySem.W.nsIn K mainGlobals "_law_deeds" = some (some (.ref f_deeds))) (l_deeds : K.lookup f_deeds = some ⟨oc_deeds, od_deeds, .func (PySem.W.fnOf "_law_deeds" "_law_deeds" (defArgs s_deeds) (defBody s_deeds) (defScope s_deeds) .none kV_deeds dc_deeds pm_deeds an_deeds cd_deeds ct_deeds), sl_deeds⟩) (c_deeds : PySem.W.codeIn K cd_deeds "_law_deeds" = true) (k_deeds : PySem.W.keepIn K (.ref f_deeds) = true)
    (a_moved : PySem.W.nsIn K mainGlobals "moved" = some (some (.ref f_moved))) (l_moved : K.lookup f_moved = some ⟨oc_moved, od_moved, .func (PySem.W.fnOf "moved" "moved" (defArgs s_moved) (defBody s_moved) (defScope s_moved) .none kV_moved dc_moved pm_moved an_moved cd_moved ct_moved), sl_moved⟩) (c_moved : PySem.W.codeIn K cd_moved "moved" = true) (k_moved : PySem.W.keepIn K (.ref f_moved) = true)
    (a_row_after : PySem.W.nsIn K mainGlobals "row_after" = some (some (.ref f_row_after))) (l_row_after : K.lookup f_row_after = some ⟨oc_row_after, od_row_after, .func (PySem.W.fnOf "row_after" "row_after" (defArgs s_row_after) (defBody s_row_after) (defScope s_row_after) .none kV_row_after dc_row_after pm_row_after an_row_after cd_row_after ct_row_after), sl_row_after⟩) (c_row_after : PySem.W.codeIn K cd_row_after "row_after" = true) (k_row_after : PySem.W.keepIn K (.ref f_row_after) = true)
    (a_walk_rows : PySem.W.nsIn K mainGlobals "walk_rows" = some (some (.ref f_walk_rows))) (l_walk_rows : K.lookup f_walk_rows = some ⟨oc_walk_rows, od_walk_rows, .func (PySem.W.fnOf "walk_rows" "walk_rows" (defArgs s_walk_rows) (defBody s_walk_rows) (defScope s_walk_rows) .none kV_walk_rows dc_walk_rows pm_walk_rows an_walk_rows cd_walk_rows ct_walk_rows), sl_walk_rows⟩) (c_walk_rows : PySem.W.codeIn K cd_walk_rows "walk_rows" = true) (k_walk_rows : PySem.W.keepIn K (.ref f_walk_rows) = true)
    (a_merged : PySem.W.nsIn K mainGlobals "merged" = some (some (.ref f_merged))) (l_merged : K.lookup f_merged = some ⟨oc_merged, od_merged, .func (PySem.W.fnOf "merged" "merged" (defArgs s_merged) (defBody s_merged) (defScope s_merged) .none kV_merged dc_merged pm_merged an_merged cd_merged ct_merged), sl_merged⟩) (c_merged : PySem.W.codeIn K cd_merged "merged" = true) (k_merged : PySem.W.keepIn K (.ref f_merged) = true)
    (a_error40 : PySem.W.nsIn K mainGlobals "_law_error" = some (some (.ref f_error40))) (l_error40 : K.lookup f_error40 = some ⟨oc_error40, od_error40, .func (PySem.W.fnOf "_law_error" "_law_error" (defArgs s_error40) (defBody s_error40) (defScope s_error40) .none kV_error40 dc_error40 pm_error40 an_error40 cd_error40 ct_error40), sl_error40⟩) (c_error40 : PySem.W.codeIn K cd_error40 "_law_error" = true) (k_error40 : PySem.W.keepIn K (.ref f_error40) = true)
    (a_law40 : PySem.W.nsIn K mainGlobals "law" = some (some (.ref f_law40))) (l_law40 : K.lookup f_law40 = some ⟨oc_law40, od_law40, .func (PySem.W.fnOf "law" "law" (defArgs s_law40) (defBody s_law40) (defScope s_law40) .none kV_law40 dc_law40 pm_law40 an_law40 cd_law40 ct_law40), sl_law40⟩) (c_law40 : PySem.W.codeIn K cd_law40 "law" = true) (k_law40 : PySem.W.keepIn K (.ref f_law40) = true)
    (z_ValueError : PySem.W.nsIn K mainGlobals "ValueError" = some none)
    (z_all : PySem.W.nsIn K mainGlobals "all" = some none)
    (z_bool : PySem.W.nsIn K mainGlobals "bool" = some none)
    (z_enumerate : PySem.W.nsIn K mainGlobals "enumerate" = some none)
    (z_int : PySem.W.nsIn K mainGlobals "int" = some none)
    (z_isinstance : PySem.W.nsIn K mainGlobals "isinstance" = some none)
    (z_len : PySem.W.nsIn K mainGlobals "len" = some none)
    (z_list : PySem.W.nsIn K mainGlobals "list" = some none)
    (z_max : PySem.W.nsIn K mainGlobals "max" = some none)
    (z_min : PySem.W.nsIn K mainGlobals "min" = some none)
    (z_range : PySem.W.nsIn K mainGlobals "range" = some none)
    (z_repr : PySem.W.nsIn K mainGlobals "repr" = some none)
    (z_sum : PySem.W.nsIn K mainGlobals "sum" = some none)
    (z_tuple : PySem.W.nsIn K mainGlobals "tuple" = some none)
    (z_type : PySem.W.nsIn K mainGlobals "type" = some none)
    (n_FEWEST_SLIDERS : PySem.W.nsIn K mainGlobals "FEWEST_SLIDERS" = some (some (.int 2 v_FEWEST_SLIDERS)))
    (n_MOST_MOVES : PySem.W.nsIn K mainGlobals "MOST_MOVES" = some (some (.int 40 v_MOST_MOVES)))
    (n_MOST_SLIDERS : PySem.W.nsIn K mainGlobals "MOST_SLIDERS" = some (some (.int 8 v_MOST_SLIDERS)))
    (m_gcd : PySem.W.nsIn K mainGlobals "gcd" = some (some (.builtin "math.gcd")))
    (x_EmptyHistoryError : PySem.W.nsIn K mainGlobals "EmptyHistoryError" = some (some (.ref ax_EmptyHistoryError)))
    (x_FullError : PySem.W.nsIn K mainGlobals "FullError" = some (some (.ref ax_FullError)))
    (x_InvalidFormatError : PySem.W.nsIn K mainGlobals "InvalidFormatError" = some (some (.ref ax_InvalidFormatError)))
    (x_InvalidLocksError : PySem.W.nsIn K mainGlobals "InvalidLocksError" = some (some (.ref ax_InvalidLocksError)))
    (x_InvalidLogError : PySem.W.nsIn K mainGlobals "InvalidLogError" = some (some (.ref ax_InvalidLogError)))
    (x_InvalidMoveError : PySem.W.nsIn K mainGlobals "InvalidMoveError" = some (some (.ref ax_InvalidMoveError)))
    (x_InvalidMovesError : PySem.W.nsIn K mainGlobals "InvalidMovesError" = some (some (.ref ax_InvalidMovesError)))
    (x_InvalidNumberError : PySem.W.nsIn K mainGlobals "InvalidNumberError" = some (some (.ref ax_InvalidNumberError)))
    (x_InvalidRoundError : PySem.W.nsIn K mainGlobals "InvalidRoundError" = some (some (.ref ax_InvalidRoundError)))
    (x_InvalidRowError : PySem.W.nsIn K mainGlobals "InvalidRowError" = some (some (.ref ax_InvalidRowError)))
    (x_InvalidSharesError : PySem.W.nsIn K mainGlobals "InvalidSharesError" = some (some (.ref ax_InvalidSharesError)))
    (x_InvalidSliderError : PySem.W.nsIn K mainGlobals "InvalidSliderError" = some (some (.ref ax_InvalidSliderError)))
    (x_LockedError : PySem.W.nsIn K mainGlobals "LockedError" = some (some (.ref ax_LockedError)))
    (x_NoMoveError : PySem.W.nsIn K mainGlobals "NoMoveError" = some (some (.ref ax_NoMoveError)))
    (x_NoOriginError : PySem.W.nsIn K mainGlobals "NoOriginError" = some (some (.ref ax_NoOriginError)))
    (x_NotShortestError : PySem.W.nsIn K mainGlobals "NotShortestError" = some (some (.ref ax_NotShortestError)))
    (x_NotStartedError : PySem.W.nsIn K mainGlobals "NotStartedError" = some (some (.ref ax_NotStartedError)))
    (x_SliderError : PySem.W.nsIn K mainGlobals "SliderError" = some (some (.ref ax_SliderError)))
    (x_StartedError : PySem.W.nsIn K mainGlobals "StartedError" = some (some (.ref ax_StartedError)))
    (x_StepError : PySem.W.nsIn K mainGlobals "StepError" = some (some (.ref ax_StepError)))
    (x_TooMuchError : PySem.W.nsIn K mainGlobals "TooMuchError" = some (some (.ref ax_TooMuchError)))
    (x_moved : PySem.W.nsIn K mainGlobals "moved" = some (some (.ref ax_moved)))
    (x_row_after : PySem.W.nsIn K mainGlobals "row_after" = some (some (.ref ax_row_after)))
    (mk_InvalidMoveError : mkB K "InvalidMoveError" = true)
    (mk_InvalidMovesError : mkB K "InvalidMovesError" = true)
    (mk_InvalidRowError : mkB K "InvalidRowError" = true)
    (ex : clsB K nsE = true)
    (stp : stpB K nsE = true) :
    ∃ fd : FuncData, (∀ (s : Shared) (v : Value), BindsTo s fd ⟨[v], []⟩ [("script", v)]) ∧ ∀ base : Heap, K.In base → base.Ns mainGlobals mg → base.NoDigits → FnG l.prog w K mg base CX0 10 fa fd ["script"] (sp_law40 K) := by
  have e := hfa.symm.trans (PySem.W.mg_of X G a_law40)
  cases e
  have F_is_whole := fun_mk (st := s_is_whole) l_is_whole c_is_whole k_is_whole
  have b_is_whole := F_is_whole.binds (ps := ["value"]) fun _ _ _ _ _ _ us hl => match us, hl with | [_], _ => rfl
  have F_has_slider_length := fun_mk (st := s_has_slider_length) l_has_slider_length c_has_slider_length k_has_slider_length
  have b_has_slider_length := F_has_slider_length.binds (ps := ["value"]) fun _ _ _ _ _ _ us hl => match us, hl with | [_], _ => rfl
  have F_common_divisor := fun_mk (st := s_common_divisor) l_common_divisor c_common_divisor k_common_divisor
  have b_common_divisor := F_common_divisor.binds (ps := ["numbers"]) fun _ _ _ _ _ _ us hl => match us, hl with | [_], _ => rfl
  have F_are_there := fun_mk (st := s_are_there) l_are_there c_are_there k_are_there
  have b_are_there := F_are_there.binds (ps := ["moves", "sliders"]) fun _ _ _ _ _ _ us hl => match us, hl with | [_, _], _ => rfl
  have F_weights_after := fun_mk (st := s_weights_after) l_weights_after c_weights_after k_weights_after
  have b_weights_after := F_weights_after.binds (ps := ["weights", "move"]) fun _ _ _ _ _ _ us hl => match us, hl with | [_, _], _ => rfl
  have F_openSource := fun_mk (st := s_openSource) l_openSource c_openSource k_openSource
  have b_openSource := F_openSource.binds (ps := ["script", "k"]) fun _ _ _ _ _ _ us hl => match us, hl with | [_, _], _ => rfl
  have F_draw := fun_mk (st := s_draw) l_draw c_draw k_draw
  have b_draw := F_draw.binds (ps := ["source", "limit"]) fun _ _ _ _ _ _ us hl => match us, hl with | [_, _], _ => rfl
  have F_divisor := fun_mk (st := s_divisor) l_divisor c_divisor k_divisor
  have b_divisor := F_divisor.binds (ps := ["one", "other"]) fun _ _ _ _ _ _ us hl => match us, hl with | [_, _], _ => rfl
  have F_kind46 := fun_mk (st := s_kind46) l_kind46 c_kind46 k_kind46
  have b_kind46 := F_kind46.binds (ps := ["error"]) fun _ _ _ _ _ _ us hl => match us, hl with | [_], _ => rfl
  have F_are_weights := fun_mk (st := s_are_weights) l_are_weights c_are_weights k_are_weights
  have b_are_weights := F_are_weights.binds (ps := ["value"]) fun _ _ _ _ _ _ us hl => match us, hl with | [_], _ => rfl
  have F_reduced := fun_mk (st := s_reduced) l_reduced c_reduced k_reduced
  have b_reduced := F_reduced.binds (ps := ["numbers"]) fun _ _ _ _ _ _ us hl => match us, hl with | [_], _ => rfl
  have F_is_move := fun_mk (st := s_is_move) l_is_move c_is_move k_is_move
  have b_is_move := F_is_move.binds (ps := ["value"]) fun _ _ _ _ _ _ us hl => match us, hl with | [_], _ => rfl
  have F_plain := fun_mk (st := s_plain) l_plain c_plain k_plain
  have b_plain := F_plain.binds (ps := ["numbers"]) fun _ _ _ _ _ _ us hl => match us, hl with | [_], _ => rfl
  have F_width := fun_mk (st := s_width) l_width c_width k_width
  have b_width := F_width.binds (ps := ["source", "script"]) fun _ _ _ _ _ _ us hl => match us, hl with | [_, _], _ => rfl
  have F_any := fun_mk (st := s_any) l_any c_any k_any
  have b_any := F_any.binds (ps := ["source", "wide"]) fun _ _ _ _ _ _ us hl => match us, hl with | [_, _], _ => rfl
  have F_noRow := fun_mk (st := s_noRow) l_noRow c_noRow k_noRow
  have b_noRow := F_noRow.binds (ps := ["source", "weights_here"]) fun _ _ _ _ _ _ us hl => match us, hl with | [_, _], _ => rfl
  have F_noMove := fun_mk (st := s_noMove) l_noMove c_noMove k_noMove
  have b_noMove := F_noMove.binds (ps := ["source", "width"]) fun _ _ _ _ _ _ us hl => match us, hl with | [_, _], _ => rfl
  have F_is_row := fun_mk (st := s_is_row) l_is_row c_is_row k_is_row
  have b_is_row := F_is_row.binds (ps := ["value"]) fun _ _ _ _ _ _ us hl => match us, hl with | [_], _ => rfl
  have F_is_moves := fun_mk (st := s_is_moves) l_is_moves c_is_moves k_is_moves
  have b_is_moves := F_is_moves.binds (ps := ["value"]) fun _ _ _ _ _ _ us hl => match us, hl with | [_], _ => rfl
  have F_check_move := fun_mk (st := s_check_move) l_check_move c_check_move k_check_move
  have b_check_move := F_check_move.binds (ps := ["move", "sliders"]) fun _ _ _ _ _ _ us hl => match us, hl with | [_, _], _ => rfl
  have F_row_behind := fun_mk (st := s_row_behind) l_row_behind c_row_behind k_row_behind
  have b_row_behind := F_row_behind.binds (ps := ["row", "moves"]) fun _ _ _ _ _ _ us hl => match us, hl with | [_, _], _ => rfl
  have F_weights := fun_mk (st := s_weights) l_weights c_weights k_weights
  have b_weights := F_weights.binds (ps := ["source", "width", "wide"]) fun _ _ _ _ _ _ us hl => match us, hl with | [_, _, _], _ => rfl
  have F_share := fun_mk (st := s_share) l_share c_share k_share
  have b_share := F_share.binds (ps := ["source", "wide"]) fun _ _ _ _ _ _ us hl => match us, hl with | [_, _], _ => rfl
  have F_noMoves := fun_mk (st := s_noMoves) l_noMoves c_noMoves k_noMoves
  have b_noMoves := F_noMoves.binds (ps := ["source", "width", "deeds"]) fun _ _ _ _ _ _ us hl => match us, hl with | [_, _, _], _ => rfl
  have F_check_row := fun_mk (st := s_check_row) l_check_row c_check_row k_check_row
  have b_check_row := F_check_row.binds (ps := ["row"]) fun _ _ _ _ _ _ us hl => match us, hl with | [_], _ => rfl
  have F_check_moves := fun_mk (st := s_check_moves) l_check_moves c_check_moves k_check_moves
  have b_check_moves := F_check_moves.binds (ps := ["moves", "sliders"]) fun _ _ _ _ _ _ us hl => match us, hl with | [_, _], _ => rfl
  have F_deeds := fun_mk (st := s_deeds) l_deeds c_deeds k_deeds
  have b_deeds := F_deeds.binds (ps := ["source", "width", "many", "wide"]) fun _ _ _ _ _ _ us hl => match us, hl with | [_, _, _, _], _ => rfl
  have F_moved := fun_mk (st := s_moved) l_moved c_moved k_moved
  have b_moved := F_moved.binds (ps := ["row", "move"]) fun _ _ _ _ _ _ us hl => match us, hl with | [_, _], _ => rfl
  have F_row_after := fun_mk (st := s_row_after) l_row_after c_row_after k_row_after
  have b_row_after := F_row_after.binds (ps := ["row", "moves"]) fun _ _ _ _ _ _ us hl => match us, hl with | [_, _], _ => rfl
  have F_walk_rows := fun_mk (st := s_walk_rows) l_walk_rows c_walk_rows k_walk_rows
  have b_walk_rows := F_walk_rows.binds (ps := ["row", "moves"]) fun _ _ _ _ _ _ us hl => match us, hl with | [_, _], _ => rfl
  have F_merged := fun_mk (st := s_merged) l_merged c_merged k_merged
  have b_merged := F_merged.binds (ps := ["moves"]) fun _ _ _ _ _ _ us hl => match us, hl with | [_], _ => rfl
  have F_error40 := fun_mk (st := s_error40) l_error40 c_error40 k_error40
  have b_error40 := F_error40.binds (ps := ["door", "one", "two"]) fun _ _ _ _ _ _ us hl => match us, hl with | [_, _, _], _ => rfl
  have F_law40 := fun_mk (st := s_law40) l_law40 c_law40 k_law40
  have b_law40 := F_law40.binds (ps := ["script"]) fun _ _ _ _ _ _ us hl => match us, hl with | [_], _ => rfl
  let T : Tx K mg := { f_is_whole := _, d_is_whole := _, F_is_whole := F_is_whole, g_is_whole := PySem.W.mg_of X G a_is_whole, b_is_whole := b_is_whole, f_has_slider_length := _, d_has_slider_length := _, F_has_slider_length := F_has_slider_length, g_has_slider_length := PySem.W.mg_of X G a_has_slider_length, b_has_slider_length := b_has_slider_length, f_common_divisor := _, d_common_divisor := _, F_common_divisor := F_common_divisor, g_common_divisor := PySem.W.mg_of X G a_common_divisor, b_common_divisor := b_common_divisor, f_are_there := _, d_are_there := _, F_are_there := F_are_there, g_are_there := PySem.W.mg_of X G a_are_there, b_are_there := b_are_there, f_weights_after := _, d_weights_after := _, F_weights_after := F_weights_after, g_weights_after := PySem.W.mg_of X G a_weights_after, b_weights_after := b_weights_after, f_openSource := _, d_openSource := _, F_openSource := F_openSource, g_openSource := PySem.W.mg_of X G a_openSource, b_openSource := b_openSource, f_draw := _, d_draw := _, F_draw := F_draw, g_draw := PySem.W.mg_of X G a_draw, b_draw := b_draw, f_divisor := _, d_divisor := _, F_divisor := F_divisor, g_divisor := PySem.W.mg_of X G a_divisor, b_divisor := b_divisor, f_kind46 := _, d_kind46 := _, F_kind46 := F_kind46, g_kind46 := PySem.W.mg_of X G a_kind46, b_kind46 := b_kind46, f_are_weights := _, d_are_weights := _, F_are_weights := F_are_weights, g_are_weights := PySem.W.mg_of X G a_are_weights, b_are_weights := b_are_weights, f_reduced := _, d_reduced := _, F_reduced := F_reduced, g_reduced := PySem.W.mg_of X G a_reduced, b_reduced := b_reduced, f_is_move := _, d_is_move := _, F_is_move := F_is_move, g_is_move := PySem.W.mg_of X G a_is_move, b_is_move := b_is_move, f_plain := _, d_plain := _, F_plain := F_plain, g_plain := PySem.W.mg_of X G a_plain, b_plain := b_plain, f_width := _, d_width := _, F_width := F_width, g_width := PySem.W.mg_of X G a_width, b_width := b_width, f_any := _, d_any := _, F_any := F_any, g_any := PySem.W.mg_of X G a_any, b_any := b_any, f_noRow := _, d_noRow := _, F_noRow := F_noRow, g_noRow := PySem.W.mg_of X G a_noRow, b_noRow := b_noRow, f_noMove := _, d_noMove := _, F_noMove := F_noMove, g_noMove := PySem.W.mg_of X G a_noMove, b_noMove := b_noMove, f_is_row := _, d_is_row := _, F_is_row := F_is_row, g_is_row := PySem.W.mg_of X G a_is_row, b_is_row := b_is_row, f_is_moves := _, d_is_moves := _, F_is_moves := F_is_moves, g_is_moves := PySem.W.mg_of X G a_is_moves, b_is_moves := b_is_moves, f_check_move := _, d_check_move := _, F_check_move := F_check_move, g_check_move := PySem.W.mg_of X G a_check_move, b_check_move := b_check_move, f_row_behind := _, d_row_behind := _, F_row_behind := F_row_behind, g_row_behind := PySem.W.mg_of X G a_row_behind, b_row_behind := b_row_behind, f_weights := _, d_weights := _, F_weights := F_weights, g_weights := PySem.W.mg_of X G a_weights, b_weights := b_weights, f_share := _, d_share := _, F_share := F_share, g_share := PySem.W.mg_of X G a_share, b_share := b_share, f_noMoves := _, d_noMoves := _, F_noMoves := F_noMoves, g_noMoves := PySem.W.mg_of X G a_noMoves, b_noMoves := b_noMoves, f_check_row := _, d_check_row := _, F_check_row := F_check_row, g_check_row := PySem.W.mg_of X G a_check_row, b_check_row := b_check_row, f_check_moves := _, d_check_moves := _, F_check_moves := F_check_moves, g_check_moves := PySem.W.mg_of X G a_check_moves, b_check_moves := b_check_moves, f_deeds := _, d_deeds := _, F_deeds := F_deeds, g_deeds := PySem.W.mg_of X G a_deeds, b_deeds := b_deeds, f_moved := _, d_moved := _, F_moved := F_moved, g_moved := PySem.W.mg_of X G a_moved, b_moved := b_moved, f_row_after := _, d_row_after := _, F_row_after := F_row_after, g_row_after := PySem.W.mg_of X G a_row_after, b_row_after := b_row_after, f_walk_rows := _, d_walk_rows := _, F_walk_rows := F_walk_rows, g_walk_rows := PySem.W.mg_of X G a_walk_rows, b_walk_rows := b_walk_rows, f_merged := _, d_merged := _, F_merged := F_merged, g_merged := PySem.W.mg_of X G a_merged, b_merged := b_merged, f_error40 := _, d_error40 := _, F_error40 := F_error40, g_error40 := PySem.W.mg_of X G a_error40, b_error40 := b_error40, f_law40 := _, d_law40 := _, F_law40 := F_law40, g_law40 := PySem.W.mg_of X G a_law40, b_law40 := b_law40, z_ValueError := PySem.W.mg_none_of X G z_ValueError, z_all := PySem.W.mg_none_of X G z_all, z_bool := PySem.W.mg_none_of X G z_bool, z_enumerate := PySem.W.mg_none_of X G z_enumerate, z_int := PySem.W.mg_none_of X G z_int, z_isinstance := PySem.W.mg_none_of X G z_isinstance, z_len := PySem.W.mg_none_of X G z_len, z_list := PySem.W.mg_none_of X G z_list, z_max := PySem.W.mg_none_of X G z_max, z_min := PySem.W.mg_none_of X G z_min, z_range := PySem.W.mg_none_of X G z_range, z_repr := PySem.W.mg_none_of X G z_repr, z_sum := PySem.W.mg_none_of X G z_sum, z_tuple := PySem.W.mg_none_of X G z_tuple, z_type := PySem.W.mg_none_of X G z_type, v_FEWEST_SLIDERS := _, c_FEWEST_SLIDERS := PySem.W.mg_of X G n_FEWEST_SLIDERS, v_MOST_MOVES := _, c_MOST_MOVES := PySem.W.mg_of X G n_MOST_MOVES, v_MOST_SLIDERS := _, c_MOST_SLIDERS := PySem.W.mg_of X G n_MOST_SLIDERS, m_gcd := PySem.W.mg_of X G m_gcd, x_EmptyHistoryError := (PySem.W.mg_of X G x_EmptyHistoryError).trans (congrArg (fun a => some (Value.ref a)) (adE_of x_EmptyHistoryError).symm), x_FullError := (PySem.W.mg_of X G x_FullError).trans (congrArg (fun a => some (Value.ref a)) (adE_of x_FullError).symm), x_InvalidFormatError := (PySem.W.mg_of X G x_InvalidFormatError).trans (congrArg (fun a => some (Value.ref a)) (adE_of x_InvalidFormatError).symm), x_InvalidLocksError := (PySem.W.mg_of X G x_InvalidLocksError).trans (congrArg (fun a => some (Value.ref a)) (adE_of x_InvalidLocksError).symm), x_InvalidLogError := (PySem.W.mg_of X G x_InvalidLogError).trans (congrArg (fun a => some (Value.ref a)) (adE_of x_InvalidLogError).symm), x_InvalidMoveError := (PySem.W.mg_of X G x_InvalidMoveError).trans (congrArg (fun a => some (Value.ref a)) (adE_of x_InvalidMoveError).symm), x_InvalidMovesError := (PySem.W.mg_of X G x_InvalidMovesError).trans (congrArg (fun a => some (Value.ref a)) (adE_of x_InvalidMovesError).symm), x_InvalidNumberError := (PySem.W.mg_of X G x_InvalidNumberError).trans (congrArg (fun a => some (Value.ref a)) (adE_of x_InvalidNumberError).symm), x_InvalidRoundError := (PySem.W.mg_of X G x_InvalidRoundError).trans (congrArg (fun a => some (Value.ref a)) (adE_of x_InvalidRoundError).symm), x_InvalidRowError := (PySem.W.mg_of X G x_InvalidRowError).trans (congrArg (fun a => some (Value.ref a)) (adE_of x_InvalidRowError).symm), x_InvalidSharesError := (PySem.W.mg_of X G x_InvalidSharesError).trans (congrArg (fun a => some (Value.ref a)) (adE_of x_InvalidSharesError).symm), x_InvalidSliderError := (PySem.W.mg_of X G x_InvalidSliderError).trans (congrArg (fun a => some (Value.ref a)) (adE_of x_InvalidSliderError).symm), x_LockedError := (PySem.W.mg_of X G x_LockedError).trans (congrArg (fun a => some (Value.ref a)) (adE_of x_LockedError).symm), x_NoMoveError := (PySem.W.mg_of X G x_NoMoveError).trans (congrArg (fun a => some (Value.ref a)) (adE_of x_NoMoveError).symm), x_NoOriginError := (PySem.W.mg_of X G x_NoOriginError).trans (congrArg (fun a => some (Value.ref a)) (adE_of x_NoOriginError).symm), x_NotShortestError := (PySem.W.mg_of X G x_NotShortestError).trans (congrArg (fun a => some (Value.ref a)) (adE_of x_NotShortestError).symm), x_NotStartedError := (PySem.W.mg_of X G x_NotStartedError).trans (congrArg (fun a => some (Value.ref a)) (adE_of x_NotStartedError).symm), x_SliderError := (PySem.W.mg_of X G x_SliderError).trans (congrArg (fun a => some (Value.ref a)) (adE_of x_SliderError).symm), x_StartedError := (PySem.W.mg_of X G x_StartedError).trans (congrArg (fun a => some (Value.ref a)) (adE_of x_StartedError).symm), x_StepError := (PySem.W.mg_of X G x_StepError).trans (congrArg (fun a => some (Value.ref a)) (adE_of x_StepError).symm), x_TooMuchError := (PySem.W.mg_of X G x_TooMuchError).trans (congrArg (fun a => some (Value.ref a)) (adE_of x_TooMuchError).symm), x_moved := (PySem.W.mg_of X G x_moved).trans (congrArg (fun a => some (Value.ref a)) (adE_of x_moved).symm), x_row_after := (PySem.W.mg_of X G x_row_after).trans (congrArg (fun a => some (Value.ref a)) (adE_of x_row_after).symm), mk_InvalidMoveError := mkX_of mk_InvalidMoveError, mk_InvalidMovesError := mkX_of mk_InvalidMovesError, mk_InvalidRowError := mkX_of mk_InvalidRowError, ex := clsX_of ex, stp := stp_of stp, q_moved := adE_of a_moved, q_row_after := adE_of a_row_after }
  exact ⟨PySem.W.fnOf "law" "law" (defArgs s_law40) (defBody s_law40) (defScope s_law40) .none kV_law40 dc_law40 pm_law40 an_law40 cd_law40 ct_law40, fun s v => .of_eq rfl, fun base _ _ nd => ok_law40 T nd⟩
end PD
open PySem PySem.W PyProof.Rows
set_option maxHeartbeats 0 in
theorem PySem.Challenge.cw_sliders_k40_errors_of_moves_holds : PySem.Challenge.rw_sliders_k40_errors_of_moves.Holds := by
  w_on; o_law; k_head; (case hw => w_witness2)
  k_fill
  refine SL.walk_N (l := PySem.Challenge.rw_sliders_k40_errors_of_moves) (most := 63) (n := 10) (pn := "script") (sp := fun w => PD.sp_law40 _) rfl (by decide) rfl ⟨rfl, by decide, by decide⟩ (fun w h Y => PySem.W.kIn_of Y) ?F (fun _ _ a ns hl hS => PD.law_startD rfl (.inl rfl) (by decide) (PD.g_law40 hl rfl) hS)
  case F =>
    intro w mg fa h KX G hmg
    refine' PD.all_mk KX G hmg ?a_is_whole ?l_is_whole ?c_is_whole ?k_is_whole ?a_has_slider_length ?l_has_slider_length ?c_has_slider_length ?k_has_slider_length ?a_common_divisor ?l_common_divisor ?c_common_divisor ?k_common_divisor ?a_are_there ?l_are_there ?c_are_there ?k_are_there ?a_weights_after ?l_weights_after ?c_weights_after ?k_weights_after ?a_openSource ?l_openSource ?c_openSource ?k_openSource ?a_draw ?l_draw ?c_draw ?k_draw ?a_divisor ?l_divisor ?c_divisor ?k_divisor ?a_kind46 ?l_kind46 ?c_kind46 ?k_kind46 ?a_are_weights ?l_are_weights ?c_are_weights ?k_are_weights ?a_reduced ?l_reduced ?c_reduced ?k_reduced ?a_is_move ?l_is_move ?c_is_move ?k_is_move ?a_plain ?l_plain ?c_plain ?k_plain ?a_width ?l_width ?c_width ?k_width ?a_any ?l_any ?c_any ?k_any ?a_noRow ?l_noRow ?c_noRow ?k_noRow ?a_noMove ?l_noMove ?c_noMove ?k_noMove ?a_is_row ?l_is_row ?c_is_row ?k_is_row ?a_is_moves ?l_is_moves ?c_is_moves ?k_is_moves ?a_check_move ?l_check_move ?c_check_move ?k_check_move ?a_row_behind ?l_row_behind ?c_row_behind ?k_row_behind ?a_weights ?l_weights ?c_weights ?k_weights ?a_share ?l_share ?c_share ?k_share ?a_noMoves ?l_noMoves ?c_noMoves ?k_noMoves ?a_check_row ?l_check_row ?c_check_row ?k_check_row ?a_check_moves ?l_check_moves ?c_check_moves ?k_check_moves ?a_deeds ?l_deeds ?c_deeds ?k_deeds ?a_moved ?l_moved ?c_moved ?k_moved ?a_row_after ?l_row_after ?c_row_after ?k_row_after ?a_walk_rows ?l_walk_rows ?c_walk_rows ?k_walk_rows ?a_merged ?l_merged ?c_merged ?k_merged ?a_error40 ?l_error40 ?c_error40 ?k_error40 ?a_law40 ?l_law40 ?c_law40 ?k_law40 ?z_ValueError ?z_all ?z_bool ?z_enumerate ?z_int ?z_isinstance ?z_len ?z_list ?z_max ?z_min ?z_range ?z_repr ?z_sum ?z_tuple ?z_type ?n_FEWEST_SLIDERS ?n_MOST_MOVES ?n_MOST_SLIDERS ?m_gcd ?x_EmptyHistoryError ?x_FullError ?x_InvalidFormatError ?x_InvalidLocksError ?x_InvalidLogError ?x_InvalidMoveError ?x_InvalidMovesError ?x_InvalidNumberError ?x_InvalidRoundError ?x_InvalidRowError ?x_InvalidSharesError ?x_InvalidSliderError ?x_LockedError ?x_NoMoveError ?x_NoOriginError ?x_NotShortestError ?x_NotStartedError ?x_SliderError ?x_StartedError ?x_StepError ?x_TooMuchError ?x_moved ?x_row_after ?mk_InvalidMoveError ?mk_InvalidMovesError ?mk_InvalidRowError ?ex ?stp
    (case a_is_whole => k_is); (case l_is_whole => k_is); (case c_is_whole => k_is); (case k_is_whole => k_is); (case a_has_slider_length => k_is); (case l_has_slider_length => k_is); (case c_has_slider_length => k_is); (case k_has_slider_length => k_is); (case a_common_divisor => k_is); (case l_common_divisor => k_is); (case c_common_divisor => k_is); (case k_common_divisor => k_is); (case a_are_there => k_is); (case l_are_there => k_is); (case c_are_there => k_is); (case k_are_there => k_is); (case a_weights_after => k_is); (case l_weights_after => k_is); (case c_weights_after => k_is); (case k_weights_after => k_is); (case a_openSource => k_is); (case l_openSource => k_is); (case c_openSource => k_is); (case k_openSource => k_is); (case a_draw => k_is); (case l_draw => k_is); (case c_draw => k_is); (case k_draw => k_is); (case a_divisor => k_is); (case l_divisor => k_is); (case c_divisor => k_is); (case k_divisor => k_is); (case a_kind46 => k_is); (case l_kind46 => k_is); (case c_kind46 => k_is); (case k_kind46 => k_is); (case a_are_weights => k_is); (case l_are_weights => k_is); (case c_are_weights => k_is); (case k_are_weights => k_is); (case a_reduced => k_is); (case l_reduced => k_is); (case c_reduced => k_is); (case k_reduced => k_is); (case a_is_move => k_is); (case l_is_move => k_is); (case c_is_move => k_is); (case k_is_move => k_is); (case a_plain => k_is); (case l_plain => k_is); (case c_plain => k_is); (case k_plain => k_is); (case a_width => k_is); (case l_width => k_is); (case c_width => k_is); (case k_width => k_is); (case a_any => k_is); (case l_any => k_is); (case c_any => k_is); (case k_any => k_is); (case a_noRow => k_is); (case l_noRow => k_is); (case c_noRow => k_is); (case k_noRow => k_is); (case a_noMove => k_is); (case l_noMove => k_is); (case c_noMove => k_is); (case k_noMove => k_is); (case a_is_row => k_is); (case l_is_row => k_is); (case c_is_row => k_is); (case k_is_row => k_is); (case a_is_moves => k_is); (case l_is_moves => k_is); (case c_is_moves => k_is); (case k_is_moves => k_is); (case a_check_move => k_is); (case l_check_move => k_is); (case c_check_move => k_is); (case k_check_move => k_is); (case a_row_behind => k_is); (case l_row_behind => k_is); (case c_row_behind => k_is); (case k_row_behind => k_is); (case a_weights => k_is); (case l_weights => k_is); (case c_weights => k_is); (case k_weights => k_is); (case a_share => k_is); (case l_share => k_is); (case c_share => k_is); (case k_share => k_is); (case a_noMoves => k_is); (case l_noMoves => k_is); (case c_noMoves => k_is); (case k_noMoves => k_is); (case a_check_row => k_is); (case l_check_row => k_is); (case c_check_row => k_is); (case k_check_row => k_is); (case a_check_moves => k_is); (case l_check_moves => k_is); (case c_check_moves => k_is); (case k_check_moves => k_is); (case a_deeds => k_is); (case l_deeds => k_is); (case c_deeds => k_is); (case k_deeds => k_is); (case a_moved => k_is); (case l_moved => k_is); (case c_moved => k_is); (case k_moved => k_is); (case a_row_after => k_is); (case l_row_after => k_is); (case c_row_after => k_is); (case k_row_after => k_is); (case a_walk_rows => k_is); (case l_walk_rows => k_is); (case c_walk_rows => k_is); (case k_walk_rows => k_is); (case a_merged => k_is); (case l_merged => k_is); (case c_merged => k_is); (case k_merged => k_is); (case a_error40 => k_is); (case l_error40 => k_is); (case c_error40 => k_is); (case k_error40 => k_is); (case a_law40 => k_is); (case l_law40 => k_is); (case c_law40 => k_is); (case k_law40 => k_is); (case z_ValueError => k_is); (case z_all => k_is); (case z_bool => k_is); (case z_enumerate => k_is); (case z_int => k_is); (case z_isinstance => k_is); (case z_len => k_is); (case z_list => k_is); (case z_max => k_is); (case z_min => k_is); (case z_range => k_is); (case z_repr => k_is); (case z_sum => k_is); (case z_tuple => k_is); (case z_type => k_is); (case n_FEWEST_SLIDERS => k_is); (case n_MOST_MOVES => k_is); (case n_MOST_SLIDERS => k_is); (case m_gcd => k_is); (case x_EmptyHistoryError => k_is); (case x_FullError => k_is); (case x_InvalidFormatError => k_is); (case x_InvalidLocksError => k_is); (case x_InvalidLogError => k_is); (case x_InvalidMoveError => k_is); (case x_InvalidMovesError => k_is); (case x_InvalidNumberError => k_is); (case x_InvalidRoundError => k_is); (case x_InvalidRowError => k_is); (case x_InvalidSharesError => k_is); (case x_InvalidSliderError => k_is); (case x_LockedError => k_is); (case x_NoMoveError => k_is); (case x_NoOriginError => k_is); (case x_NotShortestError => k_is); (case x_NotStartedError => k_is); (case x_SliderError => k_is); (case x_StartedError => k_is); (case x_StepError => k_is); (case x_TooMuchError => k_is); (case x_moved => k_is); (case x_row_after => k_is); (case mk_InvalidMoveError => kernel_rfl); (case mk_InvalidMovesError => kernel_rfl); (case mk_InvalidRowError => kernel_rfl); (case ex => kernel_rfl); (case stp => kernel_rfl)
