import PyProof.Rows.All
import Wide.All
import OpenK.AllK
import Wide.FinOn
import HandS.ForMost
import HandS.Wide
import HandS.Gcd
import HandS.Style
import HandS.More
import HandS.IsInst
import HandS.Evl
import PySem.Challenge.RW_sliders_k37_moves_one_after_the_other
set_option Elab.async false
set_option linter.all false
set_option maxRecDepth 100000
set_option maxHeartbeats 4000000
namespace SL
open PySem PySem.Spec PyProof.Rows L2
/-! ### names for readings -/
def rAddI : R2 := rI0 fun i j => .int (i + j)
def rSubI : R2 := rI0 fun i j => .int (i - j)
def rMulI : R2 := rI CMulW fun i j => .int (i * j)
def rModI : R2 := rI (fun _ j => 0 < j) fun i j => .int (i % j)
def rDivI : R2 := rI CDivW fun i j => .int (i / j)
def CPowW (i j : Int) : Prop := 0 ≤ j ∧ (Builtin.Int.intBits i : Int) * j ≤ 2 ^ 27
def rPowI : R2 := rI CPowW fun i j => .int (i ^ j.toNat)
def rLtI : R2 := rI0 fun i j => .bl (decide (i < j))
def rLeI : R2 := rI0 fun i j => .bl (decide (i ≤ j))
def rGtI : R2 := rI0 fun i j => .bl (decide (j < i))
def rGeI : R2 := rI0 fun i j => .bl (decide (j ≤ i))
def rNegI : V → Hp → VK → Prop := rU fun i => .int (-i)
def rIsTyp : R2 := fun x y H Q => ∃ m n, x = .ty m ∧ y = .ty n ∧ Q (.bl (decide (m = n))) H
def rNotTyp : R2 := fun x y H Q => ∃ m n, x = .ty m ∧ y = .ty n ∧ Q (.bl (!decide (m = n))) H
def rIsNon : R2 := fun x y H Q => y = .non ∧ Q (.bl (decide (x = .non))) H
def rNotNon : R2 := fun x y H Q => y = .non ∧ Q (.bl (!decide (x = .non))) H
def rMin2 : List V → Hp → VK → Prop := fun xs H Q => ∃ i j, xs = [.int i, .int j] ∧ Q (.int (if j < i then j else i)) H
section
variable {X : Cx}
theorem op_powW : OpR X (binaryOp .Pow) rPowI := opI fun _ _ _ _ _ _ _ hc q => pow_int hc.1 hc.2 q
end
theorem intBits_le {i : Int} {a : Nat} (h : i.natAbs < 2 ^ a) (h0 : 0 < a) : Builtin.Int.intBits i ≤ a := by
  have x := PySem.Flt.log2_lt_of h0 h
  unfold Builtin.Int.intBits
  split <;> omega
theorem cpow_of {i j : Int} {a : Nat} (h : i.natAbs < 2 ^ a) (h0 : 0 < a) (hj : 0 ≤ j) (hs : (a : Int) * j ≤ 2 ^ 27) : CPowW i j := by
  refine ⟨hj, ?_⟩
  have := intBits_le h h0
  have h2 : (Builtin.Int.intBits i : Int) ≤ a := by omega
  exact Int.le_trans (Int.mul_le_mul_of_nonneg_right h2 hj) hs
/-! ### heaps -/
open Evl (Ex Ev EvL EvU EvT EvA EvO SpV SpL RetV RetL)
/-- a list of ints at a -/
def LI (H : Hp) (a : Addr) (ns : List Int) : Prop := H a = some (.lst (ns.map V.int))
/-- a tuple of ints at a -/
def TI3 (K : PySem.W.Frag) (H : Hp) (a : Addr) (ns : List Int) : Prop := SqT K H a (ns.map V.int)
theorem LI.ex {H H' : Hp} {a : Addr} {ns : List Int} (h : LI H a ns) (e : Ex H H') : LI H' a ns := e _ _ h
theorem LI.sq {K : PySem.W.Frag} {H : Hp} {a : Addr} {ns : List Int} (h : LI H a ns) : SqL K H a (ns.map V.int) := .inl (.inl h)
def RetU (xs : List V) (H : Hp) (Q : VK) : Prop := ∀ p H2, H p = none → Ex H H2 → H2 p = some (.tup xs) → Q (.ref p) H2
def SpU (sp : Sp) (vs : List V) (H : Hp) (xs : List V) : Prop := ∀ H1, Ex H H1 → ∀ Q : VK, (∀ p H2, H1 p = none → Ex H1 H2 → H2 p = some (.tup xs) → Q (.ref p) H2) → ∀ E : XK, sp vs H1 Q E
end SL

namespace SL
/-! ### the mathematics: greatest common divisors of lists, rows, moves -/
def gcdL (ns : List Int) : Int := ns.foldl (fun g x => ((Int.gcd g x : Nat) : Int)) 0
theorem gcd_foldl_dvd : ∀ (ns : List Int) (g : Int), (ns.foldl (fun g x => ((Int.gcd g x : Nat) : Int)) g) ∣ g ∧ ∀ x ∈ ns, (ns.foldl (fun g x => ((Int.gcd g x : Nat) : Int)) g) ∣ x
  | [], g => ⟨Int.dvd_refl g, fun _ h => by cases h⟩
  | y :: r, g => by
    have ih := gcd_foldl_dvd r ((Int.gcd g y : Nat) : Int)
    refine ⟨Int.dvd_trans ih.1 (Int.gcd_dvd_left g y), fun x hx => ?_⟩
    rcases List.mem_cons.mp hx with e | e
    · subst e
      exact Int.dvd_trans ih.1 (Int.gcd_dvd_right g x)
    · exact ih.2 x e
theorem gcd_foldl_greatest : ∀ (ns : List Int) (g d : Int), d ∣ g → (∀ x ∈ ns, d ∣ x) → d ∣ (ns.foldl (fun g x => ((Int.gcd g x : Nat) : Int)) g)
  | [], g, d, h, _ => h
  | y :: r, g, d, h, hx => gcd_foldl_greatest r _ d (Int.dvd_coe_gcd h (hx y (List.mem_cons_self ..))) fun x hm => hx x (List.mem_cons_of_mem _ hm)
theorem gcd_foldl_nn : ∀ (ns : List Int) (g : Int), 0 ≤ g → 0 ≤ (ns.foldl (fun g x => ((Int.gcd g x : Nat) : Int)) g)
  | [], g, h => h
  | y :: r, g, h => gcd_foldl_nn r _ (Int.natCast_nonneg _)
theorem gcdL_dvd {ns : List Int} {x : Int} (h : x ∈ ns) : gcdL ns ∣ x := (gcd_foldl_dvd ns 0).2 x h
theorem gcdL_greatest {ns : List Int} {d : Int} (h : ∀ x ∈ ns, d ∣ x) : d ∣ gcdL ns := gcd_foldl_greatest ns 0 d (Int.dvd_zero d) h
theorem gcdL_nn (ns : List Int) : 0 ≤ gcdL ns := gcd_foldl_nn ns 0 (Int.le_refl 0)
theorem gcdL_pos {ns : List Int} {x : Int} (h : x ∈ ns) (hx : x ≠ 0) : 0 < gcdL ns := by
  have h1 := gcdL_nn ns
  have h2 := gcdL_dvd h
  rcases Int.lt_or_eq_of_le h1 with h3 | h3
  · exact h3
  · rw [← h3] at h2
    exact absurd (Int.zero_dvd.mp h2) hx
theorem gcdL_le {ns : List Int} {x : Int} (h : x ∈ ns) (hx : 0 < x) : gcdL ns ≤ x := Int.le_of_dvd hx (gcdL_dvd h)
theorem dvd_antisymm' {a b : Int} (ha : 0 ≤ a) (hb : 0 ≤ b) (h1 : a ∣ b) (h2 : b ∣ a) : a = b := Int.dvd_antisymm ha hb h1 h2
/-- divided by the greatest common divisor -/
def red (ns : List Int) : List Int := ns.map fun x => x / gcdL ns
theorem red_len (ns : List Int) : (red ns).length = ns.length := by unfold red; rw [List.length_map]
theorem red_mul {ns : List Int} {x : Int} (h : x ∈ ns) : x / gcdL ns * gcdL ns = x := Int.ediv_mul_cancel (gcdL_dvd h)
theorem div_one' (x : Int) : x / 1 = x := Int.ediv_one x
theorem red_self {ns : List Int} (h : gcdL ns = 1) : red ns = ns := by
  unfold red
  rw [h]
  simp
theorem gcdL_smul {ns : List Int} {k : Int} (hk : 0 < k) : gcdL (ns.map fun x => k * x) = k * gcdL ns := by
  refine dvd_antisymm' (gcdL_nn _) (Int.mul_nonneg (by omega) (gcdL_nn _)) ?_ ?_
  · obtain ⟨c, hc⟩ : k ∣ gcdL (ns.map fun x => k * x) := gcdL_greatest fun x hx => by
      obtain ⟨y, _, rfl⟩ := List.mem_map.mp hx
      exact Int.dvd_mul_right k y
    rw [hc]
    refine Int.mul_dvd_mul_left k (gcdL_greatest fun y hy => ?_)
    have := gcdL_dvd (ns := ns.map fun x => k * x) (List.mem_map.mpr ⟨y, hy, rfl⟩)
    rw [hc] at this
    exact Int.dvd_of_mul_dvd_mul_left (by omega) this
  · refine gcdL_greatest fun x hx => ?_
    obtain ⟨y, hy, rfl⟩ := List.mem_map.mp hx
    exact Int.mul_dvd_mul_left k (gcdL_dvd hy)
theorem red_smul {ns : List Int} {k : Int} (hk : 0 < k) : red (ns.map fun x => k * x) = red ns := by
  unfold red
  rw [gcdL_smul hk, List.map_map]
  refine List.map_congr_left fun x _ => ?_
  show k * x / (k * gcdL ns) = x / gcdL ns
  exact Int.mul_ediv_mul_of_pos _ _ hk
theorem gcdL_red {ns : List Int} (h : 0 < gcdL ns) : gcdL (red ns) = 1 := by
  have e : (red ns).map (fun x => gcdL ns * x) = ns := by
    unfold red
    rw [List.map_map]
    conv => rhs; rw [← List.map_id ns]
    refine List.map_congr_left fun x hx => ?_
    show gcdL ns * (x / gcdL ns) = x
    rw [Int.mul_comm]
    exact red_mul hx
  have h2 := gcdL_smul (ns := red ns) h
  rw [e] at h2
  have : gcdL ns * gcdL (red ns) = gcdL ns * 1 := by rw [Int.mul_one]; exact h2.symm
  exact Int.eq_of_mul_eq_mul_left (by omega) this
theorem red_pos {ns : List Int} (h : ∀ x ∈ ns, 1 ≤ x) : ∀ x ∈ red ns, 1 ≤ x := by
  intro x hx
  obtain ⟨y, hy, rfl⟩ := List.mem_map.mp hx
  have h1 := h y hy
  have h2 := gcdL_le hy (by omega)
  have h3 := gcdL_pos hy (by omega)
  exact (Int.le_ediv_iff_mul_le h3).mpr (by omega)
theorem red_get {ns : List Int} {i : Nat} {x : Int} (h : ns[i]? = some x) : (red ns)[i]? = some (x / gcdL ns) := by
  unfold red
  rw [List.getElem?_map, h]
  rfl
/-- two lists that are proportional have the same reduced list -/
theorem red_prop {ns ms : List Int} {a b : Int} (ha : 0 < a) (hb : 0 < b) (h : ns.map (fun x => a * x) = ms.map (fun x => b * x)) : red ns = red ms := by
  rw [← red_smul (ns := ns) ha, h, red_smul hb]
/-! ### rows -/
structure IsRow (ns : List Int) : Prop where
  lo : 2 ≤ ns.length
  hi : ns.length ≤ 8
  pos : ∀ x ∈ ns, 1 ≤ x
  one : gcdL ns = 1
theorem isRow_red {ns : List Int} (h1 : 2 ≤ ns.length) (h2 : ns.length ≤ 8) (h3 : ∀ x ∈ ns, 1 ≤ x) : IsRow (red ns) := by
  refine ⟨by rw [red_len]; exact h1, by rw [red_len]; exact h2, red_pos h3, ?_⟩
  cases ns with
  | nil => exact absurd h1 (by simp)
  | cons x r =>
    have := h3 x (List.mem_cons_self ..)
    exact gcdL_red (gcdL_pos (List.mem_cons_self ..) (by omega))
theorem sum_pos_of : ∀ {ns : List Int}, (∀ x ∈ ns, 1 ≤ x) → (ns.length : Int) ≤ ns.sum
  | [], _ => by simp
  | x :: r, h => by
    have h1 := h x (List.mem_cons_self ..)
    have h2 := sum_pos_of (ns := r) fun y hy => h y (List.mem_cons_of_mem _ hy)
    rw [List.sum_cons, List.length_cons]
    omega
theorem mem_le_sum : ∀ {ns : List Int} {i : Nat} {x : Int}, (∀ x ∈ ns, 1 ≤ x) → ns[i]? = some x → x + ((ns.length : Int) - 1) ≤ ns.sum
  | [], i, x, _, h => by simp at h
  | y :: r, 0, x, hp, h => by
    have e : y = x := by simpa using h
    subst e
    have h2 := sum_pos_of (ns := r) fun z hz => hp z (List.mem_cons_of_mem _ hz)
    rw [List.sum_cons, List.length_cons]
    omega
  | y :: r, i + 1, x, hp, h => by
    have h1 := hp y (List.mem_cons_self ..)
    have h2 := mem_le_sum (ns := r) (i := i) (x := x) (fun z hz => hp z (List.mem_cons_of_mem _ hz)) (by simpa using h)
    rw [List.sum_cons, List.length_cons]
    omega
/-! ### moves -/
def wAfter (ns : List Int) (s : Nat) (t b : Int) : List Int := (ns.map fun x => x * (b - t)).set s (t * (ns.sum - ns.getD s 0))
def mv (ns : List Int) (s : Nat) (t b : Int) : List Int := red (wAfter ns s t b)
theorem wAfter_len (ns : List Int) (s : Nat) (t b : Int) : (wAfter ns s t b).length = ns.length := by unfold wAfter; rw [List.length_set, List.length_map]
theorem wAfter_at {ns : List Int} {s : Nat} {t b : Int} (h : s < ns.length) : (wAfter ns s t b)[s]? = some (t * (ns.sum - ns.getD s 0)) := by
  unfold wAfter
  rw [List.getElem?_set_self (by rw [List.length_map]; exact h)]
theorem wAfter_ne {ns : List Int} {s i : Nat} {t b x : Int} (h : i ≠ s) (hx : ns[i]? = some x) : (wAfter ns s t b)[i]? = some (x * (b - t)) := by
  unfold wAfter
  rw [List.getElem?_set_ne (Ne.symm h), List.getElem?_map, hx]
  rfl
theorem wAfter_pos {ns : List Int} {s : Nat} {t b : Int} (hp : ∀ x ∈ ns, 1 ≤ x) (h2 : 2 ≤ ns.length) (hs : s < ns.length) (h1 : 1 ≤ t) (htb : t < b) : ∀ x ∈ wAfter ns s t b, 1 ≤ x := by
  intro x hx
  obtain ⟨i, hi, e⟩ := List.getElem_of_mem hx
  have e' : (wAfter ns s t b)[i]? = some x := by rw [List.getElem?_eq_getElem hi, e]
  have hi' : i < ns.length := by rw [← wAfter_len ns s t b]; exact hi
  by_cases c : i = s
  · subst c
    rw [wAfter_at hs] at e'
    have e2 := Option.some.inj e'
    have hg : ns[i]? = some (ns.getD i 0) := by rw [List.getD_eq_getElem?_getD, List.getElem?_eq_getElem hi']; rfl
    have := mem_le_sum hp hg
    have h3 : 1 ≤ ns.sum - ns.getD i 0 := by omega
    have := Int.mul_le_mul h1 h3 (by omega) (by omega)
    omega
  · rw [wAfter_ne c (List.getElem?_eq_getElem hi')] at e'
    have e2 := Option.some.inj e'
    have h3 := hp ns[i] (List.getElem_mem hi')
    have h4 : 1 ≤ b - t := by omega
    have := Int.mul_le_mul h3 h4 (by omega) (by omega)
    omega
theorem isRow_mv {ns : List Int} {s : Nat} {t b : Int} (h : IsRow ns) (hs : s < ns.length) (h1 : 1 ≤ t) (htb : t < b) : IsRow (mv ns s t b) :=
  isRow_red (by rw [wAfter_len]; exact h.lo) (by rw [wAfter_len]; exact h.hi) (wAfter_pos h.pos h.lo hs h1 htb)
theorem sum_map_mul (c : Int) : ∀ ns : List Int, (ns.map fun x => x * c).sum = ns.sum * c
  | [] => by simp
  | x :: r => by
    rw [List.map_cons, List.sum_cons, List.sum_cons, sum_map_mul c r, Int.add_mul]
theorem sum_set' : ∀ {l : List Int} {j : Nat} {z y : Int}, l[j]? = some z → (l.set j y).sum = l.sum - z + y
  | [], j, z, y, h => by simp at h
  | a :: r, 0, z, y, h => by
    have e : a = z := Option.some.inj h
    subst e
    show (y :: r).sum = (a :: r).sum - a + y
    rw [List.sum_cons, List.sum_cons]
    omega
  | a :: r, j + 1, z, y, h => by
    have ih := sum_set' (l := r) (j := j) (z := z) (y := y) h
    show (a :: r.set j y).sum = (a :: r).sum - z + y
    rw [List.sum_cons, List.sum_cons, ih]
    omega
theorem getD_some {ns : List Int} {s : Nat} (hs : s < ns.length) : ns[s]? = some (ns.getD s 0) := by
  rw [List.getD_eq_getElem?_getD, List.getElem?_eq_getElem hs]
  rfl
theorem wAfter_sum {ns : List Int} {s : Nat} {t b : Int} (hs : s < ns.length) : (wAfter ns s t b).sum = b * (ns.sum - ns.getD s 0) := by
  unfold wAfter
  rw [sum_set' (z := ns.getD s 0 * (b - t)) (by rw [List.getElem?_map, getD_some hs]; rfl), sum_map_mul]
  generalize ns.sum = S
  generalize ns.getD s 0 = x
  grind
/-- red is exact: each item times the common divisor is the item of before; the sums too -/
theorem red_sum (ns : List Int) : (red ns).sum * gcdL ns = ns.sum := by
  unfold red
  rw [← sum_map_mul, List.map_map]
  congr 1
  conv => rhs; rw [← List.map_id ns]
  exact List.map_congr_left fun x hx => red_mul hx
theorem mv_share {ns : List Int} {s : Nat} {t b : Int} (h : IsRow ns) (hs : s < ns.length) (h1 : 1 ≤ t) (htb : t < b) : (mv ns s t b).getD s 0 * b = t * (mv ns s t b).sum := by
  have hw : (wAfter ns s t b)[s]? = some (t * (ns.sum - ns.getD s 0)) := wAfter_at hs
  have hm := List.mem_of_getElem? hw
  have hpos := wAfter_pos h.pos h.lo hs h1 htb _ hm
  have g0 := gcdL_pos hm (by omega)
  have e1 : (mv ns s t b).getD s 0 * gcdL (wAfter ns s t b) = t * (ns.sum - ns.getD s 0) := by
    rw [List.getD_eq_getElem?_getD]
    unfold mv
    rw [red_get hw]
    exact red_mul hm
  have e2 : (mv ns s t b).sum * gcdL (wAfter ns s t b) = b * (ns.sum - ns.getD s 0) := by
    unfold mv
    rw [red_sum, wAfter_sum hs]
  generalize (mv ns s t b).getD s 0 = u at *
  generalize (mv ns s t b).sum = v at *
  generalize gcdL (wAfter ns s t b) = g at *
  generalize ns.sum - ns.getD s 0 = r at *
  have : (u * b) * g = (t * v) * g := by grind
  exact Int.eq_of_mul_eq_mul_right (by omega) this
theorem mv_get {ns : List Int} {s i : Nat} {t b x : Int} (hi : i ≠ s) (hx : ns[i]? = some x) : ∃ y, (mv ns s t b)[i]? = some y ∧ y * gcdL (wAfter ns s t b) = x * (b - t) := by
  have hw := wAfter_ne (t := t) (b := b) hi hx
  exact ⟨_, red_get hw, red_mul (List.mem_of_getElem? hw)⟩
theorem mv_ratio {ns : List Int} {s i j : Nat} {t b x y : Int} (h : IsRow ns) (hs : s < ns.length) (h1 : 1 ≤ t) (htb : t < b) (hi : i ≠ s) (hj : j ≠ s) (hx : ns[i]? = some x) (hy : ns[j]? = some y) :
    ∃ u v, (mv ns s t b)[i]? = some u ∧ (mv ns s t b)[j]? = some v ∧ u * y = v * x := by
  obtain ⟨u, hu, eu⟩ := mv_get (t := t) (b := b) hi hx
  obtain ⟨v, hv, ev⟩ := mv_get (t := t) (b := b) hj hy
  refine ⟨u, v, hu, hv, ?_⟩
  have hm := List.mem_of_getElem? (wAfter_at (t := t) (b := b) hs)
  have g0 := gcdL_pos hm (by have := wAfter_pos h.pos h.lo hs h1 htb _ hm; omega)
  generalize gcdL (wAfter ns s t b) = g at *
  have : (u * y) * g = (v * x) * g := by grind
  exact Int.eq_of_mul_eq_mul_right (by omega) this
/-- a move to the share that the slider has changes nothing -/
theorem mv_same {ns : List Int} {s : Nat} {t b : Int} (h : IsRow ns) (hs : s < ns.length) (htb : t < b) (e : ns.getD s 0 * b = t * ns.sum) : mv ns s t b = ns := by
  unfold mv
  have : wAfter ns s t b = ns.map fun x => (b - t) * x := by
    apply List.ext_getElem?
    intro i
    by_cases hi : i < ns.length
    · by_cases c : i = s
      · subst c
        rw [wAfter_at hs, List.getElem?_map, getD_some hs]
        show some _ = some _
        congr 1
        generalize ns.getD i 0 = x at *
        generalize ns.sum = S at *
        grind
      · rw [wAfter_ne c (List.getElem?_eq_getElem hi), List.getElem?_map, List.getElem?_eq_getElem hi]
        show some _ = some _
        rw [Int.mul_comm]
    · rw [List.getElem?_eq_none (by rw [wAfter_len]; omega), List.getElem?_eq_none (by rw [List.length_map]; omega)]
  rw [this, red_smul (by omega), red_self h.one]
/-! ### lowest terms -/
theorem gcd_pos_of {a b : Int} (h : 0 < b) : 0 < ((Int.gcd a b : Nat) : Int) := by
  have : Int.gcd a b ≠ 0 := fun z => by
    have := (Int.gcd_eq_zero_iff.mp z).2
    omega
  omega
theorem lowest_eq {a b : Int} : a / ((Int.gcd a b : Nat) : Int) * b = a * (b / ((Int.gcd a b : Nat) : Int)) := by
  obtain ⟨c, hc⟩ := Int.gcd_dvd_left a b
  obtain ⟨d, hd⟩ := Int.gcd_dvd_right a b
  by_cases h : ((Int.gcd a b : Nat) : Int) = 0
  · rw [h, Int.ediv_zero, Int.ediv_zero]; simp
  · have e1 : a / ((Int.gcd a b : Nat) : Int) = c := Int.ediv_eq_of_eq_mul_right h hc
    have e2 : b / ((Int.gcd a b : Nat) : Int) = d := Int.ediv_eq_of_eq_mul_right h hd
    rw [e1, e2]
    generalize ((Int.gcd a b : Nat) : Int) = g at *
    grind
/-- sizes -/
def Sz (k : Nat) (ns : List Int) : Prop := ∀ x ∈ ns, x.natAbs < 2 ^ k
end SL

namespace SL
open PySem PySem.Spec PyProof.Rows L2 Evl
/-! ### promises of the program's defs, their readings -/
abbrev Mv := Nat × Int × Int
def mvV (m : Mv) : List V := [.int (m.1 : Int), .int m.2.1, .int m.2.2]
/-- a move at a -/
def MI (H : Hp) (a : Addr) (m : Mv) : Prop := H a = some (.tup (mvV m))
theorem MI.ex {H H' : Hp} {a : Addr} {m : Mv} (h : MI H a m) (e : Ex H H') : MI H' a m := e _ _ h
/-- moves at a -/
def MsAt (H : Hp) (v : V) (m : Mv) : Prop := ∃ a, v = .ref a ∧ MI H a m
def MS (H : Hp) (a : Addr) (ms : List Mv) : Prop := ∃ vs, H a = some (.lst vs) ∧ Paired (MsAt H) vs ms
/-- a valid move of one of n sliders, its numbers below 2 ^ k -/
structure OkM (n k : Nat) (m : Mv) : Prop where
  s : m.1 < n
  t : 1 ≤ m.2.1
  tb : m.2.1 < m.2.2
  g : Int.gcd m.2.1 m.2.2 = 1
  z : m.2.2.natAbs < 2 ^ k
def areW (ns : List Int) : Bool := decide (2 ≤ ns.length ∧ ns.length ≤ 8) && ns.all fun x => decide (1 ≤ x)
def isRowB (ns : List Int) : Bool := areW ns && decide (gcdL ns = 1)
theorem isRowB_of {ns : List Int} (h : IsRow ns) : isRowB ns = true := by
  unfold isRowB areW
  rw [decide_eq_true ⟨h.lo, h.hi⟩, decide_eq_true h.one]
  simp only [Bool.true_and, Bool.and_true, List.all_eq_true, decide_eq_true_eq]
  exact h.pos
def mvM (r : List Int) (m : Mv) : List Int := mv r m.1 m.2.1 m.2.2
def mvs (r : List Int) (ms : List Mv) : List Int := ms.foldl mvM r
/-! sizes -/
theorem two_pow_le {a b : Nat} (h : a ≤ b) : (2 : Nat) ^ a ≤ 2 ^ b := Nat.pow_le_pow_right (by decide) h
theorem Sz.mono {j k : Nat} {ns : List Int} (h : Sz j ns) (e : j ≤ k) : Sz k ns := fun x hx => Nat.lt_of_lt_of_le (h x hx) (two_pow_le e)
theorem add_lt_pow {x y : Int} {a : Nat} (hx : x.natAbs < 2 ^ a) (hy : y.natAbs < 2 ^ a) : (x + y).natAbs < 2 ^ (a + 1) := by
  rw [Nat.pow_succ]
  omega
theorem sub_lt_pow {x y : Int} {a : Nat} (hx : x.natAbs < 2 ^ a) (hy : y.natAbs < 2 ^ a) : (x - y).natAbs < 2 ^ (a + 1) := by
  rw [Nat.pow_succ]
  omega
theorem sum_lt {k : Nat} : ∀ {ns : List Int}, Sz k ns → ns.sum.natAbs ≤ ns.length * 2 ^ k
  | [], _ => by simp
  | x :: r, h => by
    have h1 := h x (List.mem_cons_self ..)
    have h2 := sum_lt (ns := r) fun y hy => h y (List.mem_cons_of_mem _ hy)
    rw [List.sum_cons, List.length_cons, Nat.add_mul, Nat.one_mul]
    omega
theorem sum_lt8 {k : Nat} {ns : List Int} (h : Sz k ns) (h8 : ns.length ≤ 8) : ns.sum.natAbs < 2 ^ (k + 4) := by
  have h1 := sum_lt h
  have h2 : ns.length * 2 ^ k ≤ 8 * 2 ^ k := Nat.mul_le_mul_right _ h8
  have h3 : 0 < 2 ^ k := Nat.pow_pos (by decide)
  rw [Nat.pow_add]
  omega
theorem gcdL_lt {k : Nat} {ns : List Int} (h : Sz k ns) (hp : ∀ x ∈ ns, 1 ≤ x) (h1 : 1 ≤ ns.length) : 0 < gcdL ns ∧ (gcdL ns).natAbs < 2 ^ k := by
  cases ns with
  | nil => exact absurd h1 (by simp)
  | cons x r =>
    have a := hp x (List.mem_cons_self ..)
    have b := h x (List.mem_cons_self ..)
    have c := gcdL_le (ns := x :: r) (List.mem_cons_self ..) (by omega)
    have d := gcdL_pos (ns := x :: r) (List.mem_cons_self ..) (by omega)
    exact ⟨d, by omega⟩
theorem wAfter_sz {k j : Nat} {ns : List Int} {s : Nat} {t b : Int} (h : Sz k ns) (h8 : ns.length ≤ 8) (hs : s < ns.length) (ht : 1 ≤ t) (htb : t < b) (hb : b.natAbs < 2 ^ j) : Sz (k + j + 5) (wAfter ns s t b) := by
  intro x hx
  obtain ⟨i, hi, e⟩ := List.getElem_of_mem hx
  have e' : (wAfter ns s t b)[i]? = some x := by rw [List.getElem?_eq_getElem hi, e]
  have hi' : i < ns.length := by rw [← wAfter_len ns s t b]; exact hi
  by_cases c : i = s
  · subst c
    rw [wAfter_at hs] at e'
    have e2 := Option.some.inj e'
    subst e2
    have h1 : (ns.sum - ns.getD i 0).natAbs < 2 ^ (k + 5) := sub_lt_pow (sum_lt8 h h8) (Nat.lt_of_lt_of_le (h _ (List.mem_of_getElem? (getD_some hs))) (two_pow_le (by omega)))
    have h2 := wide_lt (a := j) (b := k + 5) (show t.natAbs < 2 ^ j by omega) h1
    rw [show k + j + 5 = j + (k + 5) by omega]
    exact h2
  · rw [wAfter_ne c (List.getElem?_eq_getElem hi')] at e'
    have e2 := Option.some.inj e'
    subst e2
    have h2 := wide_lt (a := k) (b := j) (h ns[i] (List.getElem_mem hi')) (show (b - t).natAbs < 2 ^ j by omega)
    exact Nat.lt_of_lt_of_le h2 (two_pow_le (by omega))
theorem red_sz {k : Nat} {ns : List Int} (h : Sz k ns) : Sz k (red ns) := by
  intro x hx
  obtain ⟨y, hy, rfl⟩ := List.mem_map.mp hx
  refine Nat.lt_of_le_of_lt ?_ (h y hy)
  rw [Int.natAbs_ediv_of_dvd (gcdL_dvd hy)]
  exact Nat.div_le_self _ _
theorem mv_sz {k j : Nat} {ns : List Int} {s : Nat} {t b : Int} (h : Sz k ns) (h8 : ns.length ≤ 8) (hs : s < ns.length) (ht : 1 ≤ t) (htb : t < b) (hb : b.natAbs < 2 ^ j) : Sz (k + j + 5) (mv ns s t b) := red_sz (wAfter_sz h h8 hs ht htb hb)
/-! Evl, further -/
section
variable {K : PySem.W.Frag} {σ : L2.St} {H H' : Hp} {ta tb tc te : TE} {t u : TT} {x y z v : V} {r r' : R2}
theorem eu_call {sp : Sp} {dvs vs xs : List V} {E : XK} {ta : TA} (h : EvA ta σ H vs) (hs : SpU sp (vs ++ dvs) H xs) : EvU (tCall sp dvs E ta) σ H xs := fun H1 e Q q =>
  h H1 e _ fun H2 e2 => hs H2 (e.trans e2) Q (fun p H3 hp e3 h3 => q p H3 (fresh_back e2 hp) (e2.trans e3) h3) E
theorem ev_addI {i j : Int} (ha : Ev ta σ H (.int i)) (hb : Ev tb σ H (.int j)) : Ev (tOp rAddI ta tb) σ H (.int (i + j)) := ev_op ha hb rv_I0
theorem ev_subI {i j : Int} (ha : Ev ta σ H (.int i)) (hb : Ev tb σ H (.int j)) : Ev (tOp rSubI ta tb) σ H (.int (i - j)) := ev_op ha hb rv_I0
theorem ev_mulI {i j : Int} (ha : Ev ta σ H (.int i)) (hb : Ev tb σ H (.int j)) (hc : CMulW i j) : Ev (tOp rMulI ta tb) σ H (.int (i * j)) := ev_op ha hb (rv_I hc)
theorem ev_divI {i j : Int} (ha : Ev ta σ H (.int i)) (hb : Ev tb σ H (.int j)) (hc : CDivW i j) : Ev (tOp rDivI ta tb) σ H (.int (i / j)) := ev_op ha hb (rv_I hc)
theorem ev_modI {i j : Int} (ha : Ev ta σ H (.int i)) (hb : Ev tb σ H (.int j)) (hc : 0 < j) : Ev (tOp rModI ta tb) σ H (.int (i % j)) := ev_op ha hb (rv_I hc)
theorem ev_powI {i j : Int} (ha : Ev ta σ H (.int i)) (hb : Ev tb σ H (.int j)) (hc : CPowW i j) : Ev (tOp rPowI ta tb) σ H (.int (i ^ j.toNat)) := ev_op ha hb (rv_I hc)
theorem ev_gtI {i j : Int} (ha : Ev ta σ H (.int i)) (hb : Ev tb σ H (.int j)) : Ev (tOp rGtI ta tb) σ H (.bl (decide (j < i))) := ev_op ha hb rv_I0
theorem ev_geI {i j : Int} (ha : Ev ta σ H (.int i)) (hb : Ev tb σ H (.int j)) : Ev (tOp rGeI ta tb) σ H (.bl (decide (j ≤ i))) := ev_op ha hb rv_I0
theorem ev_ltI {i j : Int} (ha : Ev ta σ H (.int i)) (hb : Ev tb σ H (.int j)) : Ev (tOp rLtI ta tb) σ H (.bl (decide (i < j))) := ev_op ha hb rv_I0
theorem ev_leI {i j : Int} (ha : Ev ta σ H (.int i)) (hb : Ev tb σ H (.int j)) : Ev (tOp rLeI ta tb) σ H (.bl (decide (i ≤ j))) := ev_op ha hb rv_I0
theorem ev_negI {i : Int} (ha : Ev ta σ H (.int i)) : Ev (tUn rNegI ta) σ H (.int (-i)) := ev_un ha ru_neg
theorem ev_eqI {i j : Int} (ha : Ev ta σ H (.int i)) (hb : Ev tb σ H (.int j)) : Ev (tOp rEq ta tb) σ H (.bl (decide (i = j))) := by
  have h : Ev (tOp rEq ta tb) σ H (.bl (decide (V.int i = V.int j))) := ev_op ha hb (rv_eq rfl)
  rw [show decide (V.int i = V.int j) = decide (i = j) by rw [dec_int, Bool.beq_eq_decide_eq]] at h
  exact h
theorem ev_neI {i j : Int} (ha : Ev ta σ H (.int i)) (hb : Ev tb σ H (.int j)) : Ev (tOp rNe ta tb) σ H (.bl (!decide (i = j))) := by
  have h : Ev (tOp rNe ta tb) σ H (.bl (!decide (V.int i = V.int j))) := ev_op ha hb (rv_ne rfl)
  rw [show decide (V.int i = V.int j) = decide (i = j) by rw [dec_int, Bool.beq_eq_decide_eq]] at h
  exact h
theorem ev_chain {a b : Bool} (ha : Ev ta σ H x) (hb : Ev tb σ H y) (hr : RV r x y H (.bl a)) (hc : Ev tc σ H z) (hr' : RV r' y z H (.bl b)) : Ev (tChain r r' ta tb tc) σ H (.bl (a && b)) := fun H1 e Q q =>
  ha H1 e _ fun H2 e2 => hb H2 (e.trans e2) _ fun H3 e3 => hr H3 ((e.trans e2).trans e3) _ fun H4 e4 => ⟨a, rfl, by
    cases a with
    | true =>
      show tc σ H4 _
      exact hc H4 (((e.trans e2).trans e3).trans e4) _ fun H5 e5 => hr' H5 ((((e.trans e2).trans e3).trans e4).trans e5) Q fun H6 e6 => q H6 ((((e2.trans e3).trans e4).trans e5).trans e6)
    | false =>
      show Q (.bl false) H4
      exact q H4 ((e2.trans e3).trans e4)⟩
theorem ev_gcd {i j : Int} (ha : Ev ta σ H (.int i)) (hb : Ev tb σ H (.int j)) : Ev (tCB rGcd (tCons ta (tCons tb tNil))) σ H (.int ((Int.gcd i j : Nat) : Int)) :=
  ev_cb (ea_cons ha (ea_cons hb ea_nil)) fun H1 _ _ q => ⟨i, j, rfl, q H1 (Ex.refl H1)⟩
theorem ev_sum {a : Addr} {ns : List Int} (ha : Ev ta σ H (.ref a)) (h : LI H a ns) : Ev (tCB (rSum K) (tCons ta tNil)) σ H (.int ns.sum) :=
  ev_cb (ea_cons ha ea_nil) fun H1 e _ q => ⟨a, ns, rfl, (h.ex e).sq, q H1 (Ex.refl H1)⟩
theorem ev_ixI {a : Addr} {ns : List Int} {i : Nat} {k x : Int} (ha : Ev ta σ H (.ref a)) (hb : Ev tb σ H (.int k)) (h : LI H a ns) (hk : k = (i : Int)) (hx : ns[i]? = some x) : Ev (tOp (rIxL K) ta tb) σ H (.int x) := by
  subst hk
  exact ev_op ha hb (rv_ixL h.sq (atI_nat (by rw [List.getElem?_map, hx]; rfl)))
theorem ev_lenI {a : Addr} {ns : List Int} (ha : Ev ta σ H (.ref a)) (h : LI H a ns) : Ev (tCB (rLenS K) (tCons ta tNil)) σ H (.int (ns.length : Int)) := by
  have := ev_len ha h.sq (K := K)
  rw [List.length_map] at this
  exact this
theorem ev_lenT {p : Addr} {xs : List V} (ha : Ev ta σ H (.ref p)) (h : H p = some (.tup xs)) : Ev (tCB (rLenS K) (tCons ta tNil)) σ H (.int (xs.length : Int)) := fun H1 e Q q =>
  ha H1 e _ fun H2 e2 => ⟨p, xs, rfl, Or.inr (.inl (.inl ((e.trans e2) _ _ h))), q H2 e2⟩
theorem ev_type {n : String} (ha : Ev ta σ H x) (h : ∀ H1, Ex H H1 → zTyV x H1 = some n) : Ev (tThenZ ta kTyp) σ H (.ty n) := fun H1 e Q q =>
  ha H1 e _ fun H2 e2 => ⟨n, h H2 (e.trans e2), q H2 e2⟩
theorem rv_isTyp {m n : String} : RV rIsTyp (.ty m) (.ty n) H (.bl (decide (m = n))) := fun H1 _ _ q => ⟨m, n, rfl, rfl, q H1 (Ex.refl H1)⟩
theorem rv_notTyp {m n : String} : RV rNotTyp (.ty m) (.ty n) H (.bl (!decide (m = n))) := fun H1 _ _ q => ⟨m, n, rfl, rfl, q H1 (Ex.refl H1)⟩
/-- all(..) of a new list of truths -/
theorem ev_all {xs : List V} {bs : List Bool} (ha : EvL ta σ H xs) (hb : xs = bs.map V.bl) : Ev (tCB (rAll K) (tCons ta tNil)) σ H (.bl (bs.all id)) := fun H1 e Q q =>
  ha H1 e _ fun p H2 _ e2 h2 => ⟨p, bs, rfl, by rw [← hb]; exact sq_of h2, q H2 e2⟩
/-- what a comprehension without a test gives -/
theorem given_all {n : Nat} {v : Nat → V} : given n (fun _ => true) v = (List.range n).map v := by
  unfold given
  rw [List.filter_eq_self.mpr (fun _ _ => rfl)]
theorem et_yes : EvT tYes σ H true := fun H1 _ _ q => q H1 (Ex.refl H1)
/-- [e for x in a list of ints] -/
theorem el_lcI {a : Addr} {ns : List Int} {tl : TE} {j : Nat} (f : Int → V) (h : Ev tl σ H (.ref a)) (hx : LI H a ns) (hz : ns.length ≤ 40000)
    (he : ∀ (x : Int) H1, Ex H H1 → x ∈ ns → Ev te ((wipe σ [j]).set j (some (.int x))) H1 (f x)) : EvL (tLc (iList K tl) (gName j) tYes te [j]) σ H (ns.map f) := by
  have h1 := el_lcL (K := K) (t := tYes) (te := te) (j := j) (vs := [j]) (σ := σ) (H := H) (fun _ => true) (fun i => match ns[i]? with | some x => f x | none => .non) h hx.sq (by rw [List.length_map]; exact hz)
    (fun x => by simp [wipe]) (fun i x H1 _ _ => et_yes) (fun i x H1 e hi _ => by
      rw [List.getElem?_map] at hi
      cases hn : ns[i]? with
      | none => rw [hn] at hi; cases hi
      | some y =>
        rw [hn] at hi
        have : V.int y = x := Option.some.inj hi
        subst this
        exact he y H1 e (List.mem_of_getElem? hn))
  rw [given_all] at h1
  have e : (List.range (ns.map V.int).length).map (fun i => match ns[i]? with | some x => f x | none => .non) = ns.map f := by
    apply List.ext_getElem?
    intro i
    rw [List.length_map, List.getElem?_map, List.getElem?_map]
    by_cases hi : i < ns.length
    · rw [List.getElem?_range hi, List.getElem?_eq_getElem hi]
      simp [hi]
    · rw [List.getElem?_eq_none (by rw [List.length_range]; omega), List.getElem?_eq_none (by omega)]
      rfl
  rw [e] at h1
  exact h1
end
theorem spv_of {sp : Sp} {vs : List V} {H : Hp} {z : V} (h : ∀ H1, Ex H H1 → ∀ (Q : VK) (E : XK), RetV z H1 Q → sp vs H1 Q E) : SpV sp vs H z := fun H1 e Q q E => h H1 e Q E q
theorem spl_of {sp : Sp} {vs xs : List V} {H : Hp} (h : ∀ H1, Ex H H1 → ∀ (Q : VK) (E : XK), RetL xs H1 Q → sp vs H1 Q E) : SpL sp vs H xs := fun H1 e Q q E => h H1 e Q E q
theorem spu_of {sp : Sp} {vs xs : List V} {H : Hp} (h : ∀ H1, Ex H H1 → ∀ (Q : VK) (E : XK), RetU xs H1 Q → sp vs H1 Q E) : SpU sp vs H xs := fun H1 e Q q E => h H1 e Q E q
section
variable {K : PySem.W.Frag} {vs : List V} {H : Hp} {Q : VK} {E : XK}
def fin (Q : VK) : Ends := { nx := fun _ H' => Q .non H', rt := Q }
/-! is_whole -/
def sp_is_whole (K : PySem.W.Frag) : Sp := fun vs H Q _ => ∃ i, vs = [.int i] ∧ RetV (.bl true) H Q
theorem ln_is_whole (h : sp_is_whole K vs H Q E) : vs.length = (["value"] : List Str).length := by obtain ⟨i, rfl, _⟩ := h; rfl
abbrev N_is_whole : List Str := ["value"]
def t_is_whole (K : PySem.W.Frag) : TS :=
  (tRet (tAndV (tCB (rIsi K) (tCons (tVar 0) (tCons (tC (.ty "int")) tNil))) (tNotV (tCB (rIsi K) (tCons (tVar 0) (tCons (tC (.ty "bool")) tNil))))))
theorem ev_isInt {σ : L2.St} {H : Hp} {ta tb : TE} {i : Int} {c : String} {b : Bool} (ha : Ev ta σ H (.int i)) (hb : Ev tb σ H (.ty c)) (hk : kitB "int" c = some b) : Ev (tCB (rIsi K) (tCons ta (tCons tb tNil))) σ H (.bl b) :=
  ev_cb (ea_cons ha (ea_cons hb ea_nil)) fun H1 _ _ q => ⟨.int i, .ty c, .type "int", .type c, b, rfl, .ty c, .base (.int i), kit_ty hk, q H1 (Ex.refl H1)⟩
theorem rd_is_whole (h : sp_is_whole K vs H Q E) : t_is_whole K (fin Q) (start N_is_whole vs) H := by
  obtain ⟨i, rfl, q⟩ := h
  exact s_ret (ev_andV (a := true) (b := true) (ev_isInt (ev_var rfl) ev_c (by decide +kernel)) fun _ => ev_notV (a := false) (ev_isInt (ev_var rfl) ev_c (by decide +kernel))) q
theorem spv_is_whole {i : Int} : SpV (sp_is_whole K) [.int i] H (.bl true) := spv_of fun _ _ _ _ q => ⟨i, rfl, q⟩
/-! has_slider_length -/
def sp_has_slider_length (K : PySem.W.Frag) : Sp := fun vs H Q _ => ∃ a ns, vs = [.ref a] ∧ LI H a ns ∧ RetV (.bl (decide (2 ≤ ns.length ∧ ns.length ≤ 8))) H Q
theorem ln_has_slider_length (h : sp_has_slider_length K vs H Q E) : vs.length = (["value"] : List Str).length := by obtain ⟨a, ns, rfl, _⟩ := h; rfl
abbrev N_has_slider_length : List Str := ["value"]
def t_has_slider_length (K : PySem.W.Frag) : TS :=
  (tRet (tAndV (tOp rIsTyp (tThenZ (tVar 0) kTyp) (tC (.ty "list"))) (tChain rLeI rLeI (tC (.int 2)) (tCB (Evl.rLenS K) (tCons (tVar 0) tNil)) (tC (.int 8)))))
theorem ty_lst {H : Hp} {a : Addr} {xs : List V} (h : H a = some (.lst xs)) : zTyV (.ref a) H = some "list" := by simp only [zTyV, h]
theorem ty_tup {H : Hp} {a : Addr} {xs : List V} (h : H a = some (.tup xs)) : zTyV (.ref a) H = some "tuple" := by simp only [zTyV, h]
theorem rd_has_slider_length (h : sp_has_slider_length K vs H Q E) : t_has_slider_length K (fin Q) (start N_has_slider_length vs) H := by
  obtain ⟨a, ns, rfl, hL, q⟩ := h
  refine s_ret (ev_is (ev_andV (ev_op (ev_type (ev_var rfl) fun H1 e => ty_lst (e _ _ hL)) ev_c rv_isTyp) fun _ => ev_chain ev_c (ev_lenI (ev_var rfl) hL) rv_I0 ev_c rv_I0) ?_) q
  simp only [decide_true, Bool.true_and]
  congr 1
  by_cases h1 : 2 ≤ ns.length <;> by_cases h2 : ns.length ≤ 8 <;> simp [h1, h2] <;> omega
theorem spv_has_slider_length {a : Addr} {ns : List Int} (hL : LI H a ns) : SpV (sp_has_slider_length K) [.ref a] H (.bl (decide (2 ≤ ns.length ∧ ns.length ≤ 8))) := spv_of fun _ e _ _ q => ⟨a, ns, rfl, hL.ex e, q⟩
/-! are_weights -/
def sp_are_weights (K : PySem.W.Frag) : Sp := fun vs H Q _ => ∃ a ns, vs = [.ref a] ∧ LI H a ns ∧ ns.length ≤ 40000 ∧ RetV (.bl (areW ns)) H Q
theorem ln_are_weights (h : sp_are_weights K vs H Q E) : vs.length = (["value"] : List Str).length := by obtain ⟨a, ns, rfl, _⟩ := h; rfl
abbrev N_are_weights : List Str := ["value", "weight"]
def t_are_weights (K : PySem.W.Frag) : TS :=
  (tRet (tAndV (tCall (sp_has_slider_length K) [] E0 (tCons (tVar 0) tNil)) (tCB (rAll K) (tCons (tLc (iList K (tVar 0)) (gName 1) tYes (tAndV (tCall (sp_is_whole K) [] E0 (tCons (tVar 1) tNil)) (tOp rGeI (tVar 1) (tC (.int 1)))) [1]) tNil))))
theorem rd_are_weights (h : sp_are_weights K vs H Q E) : t_are_weights K (fin Q) (start N_are_weights vs) H := by
  obtain ⟨a, ns, rfl, hL, hz, q⟩ := h
  refine s_ret (ev_is (ev_andV (ev_call (ea_cons (ev_var rfl) ea_nil) (spv_has_slider_length hL)) fun _ => ev_all (bs := ns.map fun x => decide (1 ≤ x)) (el_lcI (fun x => .bl (decide (1 ≤ x))) (ev_var rfl) hL hz fun x H1 e hx =>
    ev_is (ev_andV (ev_call (ea_cons (ev_var rfl) ea_nil) spv_is_whole) fun _ => ev_geI (ev_var rfl) ev_c) (by rw [Bool.true_and])) (by rw [List.map_map]; rfl)) ?_) q
  unfold areW
  rw [List.all_map]
  rfl
theorem spv_are_weights {a : Addr} {ns : List Int} (hL : LI H a ns) (hz : ns.length ≤ 40000) : SpV (sp_are_weights K) [.ref a] H (.bl (areW ns)) := spv_of fun _ e _ _ q => ⟨a, ns, rfl, hL.ex e, hz, q⟩
/-! common_divisor -/
def sp_common_divisor (K : PySem.W.Frag) : Sp := fun vs H Q _ => ∃ a ns, vs = [.ref a] ∧ LI H a ns ∧ RetV (.int (gcdL ns)) H Q
theorem ln_common_divisor (h : sp_common_divisor K vs H Q E) : vs.length = (["numbers"] : List Str).length := by obtain ⟨a, ns, rfl, _⟩ := h; rfl
abbrev N_common_divisor : List Str := ["numbers", "common", "number"]
def t_common_divisor (K : PySem.W.Frag) : TS :=
  (tSeq (tAsg (tC (.int 0)) (gName 1))
    (tSeq (tFor (iList K (tVar 0)) (gName 2) (tAsg (tCB rGcd (tCons (tVar 1) (tCons (tVar 2) tNil))) (gName 1)))
    (tRet (tVar 1))))
theorem gcdL_take {ns : List Int} {i : Nat} {x : Int} (h : ns[i]? = some x) : gcdL (ns.take (i + 1)) = ((Int.gcd (gcdL (ns.take i)) x : Nat) : Int) := by
  unfold gcdL
  rw [List.take_add_one, h, List.foldl_append]
  rfl
theorem int_at {ns : List Int} {i : Nat} {x : V} (h : (ns.map V.int)[i]? = some x) : ∃ y, x = .int y ∧ ns[i]? = some y := by
  rw [List.getElem?_map] at h
  cases hn : ns[i]? with
  | none => rw [hn] at h; cases h
  | some y =>
    rw [hn] at h
    exact ⟨y, (Option.some.inj h).symm, rfl⟩
theorem rd_common_divisor (h : sp_common_divisor K vs H Q E) : t_common_divisor K (fin Q) (start N_common_divisor vs) H := by
  obtain ⟨a, ns, rfl, hL, q⟩ := h
  refine q_asg ev_c fun H1 e1 => ?_
  refine q_forLn (xs := ns.map V.int) (ev_var rfl) (hL.ex e1).sq (fun i σ H' => ∃ y, σ = [some (.ref a), some (.int (gcdL (ns.take i))), y] ∧ Ex H H') (fun H2 e2 => ⟨_, rfl, e1.trans e2⟩) (fun i σ' H' _ ⟨y, _, e⟩ => (hL.ex e).sq) ?_ ?_
  · rintro i x σ' H' hi ⟨y, rfl, e⟩
    obtain ⟨z, rfl, hz⟩ := int_at hi
    refine s_asg (ev_gcd (i := gcdL (ns.take i)) (j := z) (ev_var rfl) (ev_var rfl)) fun H2 e2 => ⟨some (.int z), ?_, e.trans e2⟩
    rw [gcdL_take hz]
    rfl
  · rintro σ' H' ⟨y, rfl, e⟩
    rw [List.length_map, List.take_length]
    exact s_ret (ev_var rfl) fun H2 e2 => q H2 (e.trans e2)
theorem spv_common_divisor {a : Addr} {ns : List Int} (hL : LI H a ns) : SpV (sp_common_divisor K) [.ref a] H (.int (gcdL ns)) := spv_of fun _ e _ _ q => ⟨a, ns, rfl, hL.ex e, q⟩
/-! is_row, check_row -/
def sp_is_row (K : PySem.W.Frag) : Sp := fun vs H Q _ => ∃ a ns, vs = [.ref a] ∧ LI H a ns ∧ ns.length ≤ 40000 ∧ RetV (.bl (isRowB ns)) H Q
theorem ln_is_row (h : sp_is_row K vs H Q E) : vs.length = (["value"] : List Str).length := by obtain ⟨a, ns, rfl, _⟩ := h; rfl
abbrev N_is_row : List Str := ["value"]
def t_is_row (K : PySem.W.Frag) : TS :=
  (tRet (tAndV (tCall (sp_are_weights K) [] E0 (tCons (tVar 0) tNil)) (tOp rEq (tCall (sp_common_divisor K) [] E0 (tCons (tVar 0) tNil)) (tC (.int 1)))))
theorem rd_is_row (h : sp_is_row K vs H Q E) : t_is_row K (fin Q) (start N_is_row vs) H := by
  obtain ⟨a, ns, rfl, hL, hz, q⟩ := h
  exact s_ret (ev_andV (ev_call (ea_cons (ev_var rfl) ea_nil) (spv_are_weights hL hz)) fun _ => ev_eqI (ev_call (ea_cons (ev_var rfl) ea_nil) (spv_common_divisor hL)) ev_c) q
theorem spv_is_row {a : Addr} {ns : List Int} (hL : LI H a ns) (hz : ns.length ≤ 40000) : SpV (sp_is_row K) [.ref a] H (.bl (isRowB ns)) := spv_of fun _ e _ _ q => ⟨a, ns, rfl, hL.ex e, hz, q⟩
def sp_check_row (K : PySem.W.Frag) : Sp := fun vs H Q _ => ∃ a ns, vs = [.ref a] ∧ LI H a ns ∧ IsRow ns ∧ RetV .non H Q
theorem ln_check_row (h : sp_check_row K vs H Q E) : vs.length = (["row"] : List Str).length := by obtain ⟨a, ns, rfl, _⟩ := h; rfl
abbrev N_check_row : List Str := ["row"]
def t_check_row (K : PySem.W.Frag) : TS :=
  (tIfS (tNot (tB (tCall (sp_is_row K) [] E0 (tCons (tVar 0) tNil)))) tNever tNext)
theorem len40000 {n : Nat} (h : n ≤ 8) : n ≤ 40000 := by omega
theorem rd_check_row (h : sp_check_row K vs H Q E) : t_check_row K (fin Q) (start N_check_row vs) H := by
  obtain ⟨a, ns, rfl, hL, hR, q⟩ := h
  refine s_if (et_not (et_B (ev_call (ea_cons (ev_var rfl) ea_nil) (spv_is_row hL (len40000 hR.hi))))) (fun hb => ?_) fun _ H1 e => q H1 e
  rw [isRowB_of hR] at hb
  cases hb
theorem spv_check_row {a : Addr} {ns : List Int} (hL : LI H a ns) (hR : IsRow ns) : SpV (sp_check_row K) [.ref a] H .non := spv_of fun _ e _ _ q => ⟨a, ns, rfl, hL.ex e, hR, q⟩
/-! reduced -/
def sp_reduced (K : PySem.W.Frag) : Sp := fun vs H Q _ => ∃ a ns k, vs = [.ref a] ∧ LI H a ns ∧ ns.length ≤ 40000 ∧ 0 < gcdL ns ∧ (gcdL ns).natAbs < 2 ^ (k + 1) ∧ k < 9000 ∧ RetL ((red ns).map V.int) H Q
theorem ln_reduced (h : sp_reduced K vs H Q E) : vs.length = (["numbers"] : List Str).length := by obtain ⟨a, ns, k, rfl, _⟩ := h; rfl
abbrev N_reduced : List Str := ["numbers", "common", "number"]
def t_reduced (K : PySem.W.Frag) : TS :=
  (tSeq (tAsg (tCall (sp_common_divisor K) [] E0 (tCons (tVar 0) tNil)) (gName 1))
    (tRet (tLc (iList K (tVar 0)) (gName 2) tYes (tOp rDivI (tVar 2) (tVar 1)) [2])))
theorem rd_reduced (h : sp_reduced K vs H Q E) : t_reduced K (fin Q) (start N_reduced vs) H := by
  obtain ⟨a, ns, k, rfl, hL, hz, hg, hk, h9, q⟩ := h
  refine q_asg (ev_call (ea_cons (ev_var rfl) ea_nil) (spv_common_divisor hL)) fun H1 e1 => ?_
  refine s_retL (xs := (red ns).map V.int) ?_ fun p H2 hp e2 h2 => q p H2 (fresh_back e1 hp) (e1.trans e2) h2
  have := el_lcI (K := K) (te := tOp rDivI (tVar 2) (tVar 1)) (j := 2) (σ := [some (.ref a), some (.int (gcdL ns)), none]) (tl := tVar 0) (fun x => .int (x / gcdL ns)) (ev_var rfl) (hL.ex e1) hz fun x H2 e hx => ev_divI (ev_var rfl) (ev_var rfl) (wide_div hg hk (by omega) (by omega))
  unfold red
  rw [List.map_map]
  exact this
theorem spl_reduced {a : Addr} {ns : List Int} {k : Nat} (hL : LI H a ns) (hz : ns.length ≤ 40000) (hg : 0 < gcdL ns) (hk : (gcdL ns).natAbs < 2 ^ (k + 1)) (h9 : k < 9000) : SpL (sp_reduced K) [.ref a] H ((red ns).map V.int) := spl_of fun _ e _ _ q => ⟨a, ns, k, rfl, hL.ex e, hz, hg, hk, h9, q⟩
/-! lowest_terms -/
def sp_lowest_terms (K : PySem.W.Frag) : Sp := fun vs H Q _ => ∃ x y k, vs = [.int x, .int y] ∧ 0 < ((Int.gcd x y : Nat) : Int) ∧ Int.gcd x y < 2 ^ (k + 1) ∧ k < 9000 ∧ RetU [.int (x / ((Int.gcd x y : Nat) : Int)), .int (y / ((Int.gcd x y : Nat) : Int))] H Q
theorem ln_lowest_terms (h : sp_lowest_terms K vs H Q E) : vs.length = (["top", "bottom"] : List Str).length := by obtain ⟨x, y, k, rfl, _⟩ := h; rfl
abbrev N_lowest_terms : List Str := ["top", "bottom", "common"]
def t_lowest_terms (K : PySem.W.Frag) : TS :=
  (tSeq (tAsg (tCB rGcd (tCons (tVar 0) (tCons (tVar 1) tNil))) (gName 2))
    (tRet (tTup (tCons (tOp rDivI (tVar 0) (tVar 2)) (tCons (tOp rDivI (tVar 1) (tVar 2)) tNil)))))
theorem rd_lowest_terms (h : sp_lowest_terms K vs H Q E) : t_lowest_terms K (fin Q) (start N_lowest_terms vs) H := by
  obtain ⟨x, y, k, rfl, hg, hk, h9, q⟩ := h
  refine q_asg (ev_gcd (ev_var rfl) (ev_var rfl)) fun H1 e1 => ?_
  have hd : ∀ z, CDivW z ((Int.gcd x y : Nat) : Int) := fun z => wide_div hg (b := k + 1) (by rw [Int.natAbs_natCast]; exact hk) (by omega) (by omega)
  exact s_retU (eu_tup (ea_cons (ev_divI (ev_var rfl) (ev_var rfl) (hd _)) (ea_cons (ev_divI (ev_var rfl) (ev_var rfl) (hd _)) ea_nil)) (by show 2 ≤ 100000; decide)) fun p H2 hp e2 h2 => q p H2 (fresh_back e1 hp) (e1.trans e2) h2
theorem spu_lowest_terms {x y : Int} {k : Nat} (hg : 0 < ((Int.gcd x y : Nat) : Int)) (hk : Int.gcd x y < 2 ^ (k + 1)) (h9 : k < 9000) : SpU (sp_lowest_terms K) [.int x, .int y] H [.int (x / ((Int.gcd x y : Nat) : Int)), .int (y / ((Int.gcd x y : Nat) : Int))] := spu_of fun _ e _ _ q => ⟨x, y, k, rfl, hg, hk, h9, q⟩
/-! check_slider, share_of -/
def sp_check_slider (K : PySem.W.Frag) : Sp := fun vs H Q _ => ∃ a ns i, vs = [.ref a, .int i] ∧ LI H a ns ∧ 0 ≤ i ∧ i < ns.length ∧ RetV .non H Q
theorem ln_check_slider (h : sp_check_slider K vs H Q E) : vs.length = (["row", "slider"] : List Str).length := by obtain ⟨a, ns, k, rfl, _⟩ := h; rfl
abbrev N_check_slider : List Str := ["row", "slider"]
def t_check_slider (K : PySem.W.Frag) : TS :=
  (tIfS (tOr (tNot (tB (tCall (sp_is_whole K) [] E0 (tCons (tVar 1) tNil)))) (tNot (tTest (tChain rLeI rLtI (tC (.int 0)) (tVar 1) (tCB (Evl.rLenS K) (tCons (tVar 0) tNil)))))) tNever tNext)
theorem rd_check_slider (h : sp_check_slider K vs H Q E) : t_check_slider K (fin Q) (start N_check_slider vs) H := by
  obtain ⟨a, ns, i, rfl, hL, h0, hi, q⟩ := h
  refine s_if (et_or (et_not (et_B (ev_call (ea_cons (ev_var rfl) ea_nil) spv_is_whole))) fun _ => et_not (et_test (ev_chain ev_c (ev_var rfl) rv_I0 (ev_lenI (ev_var rfl) hL) rv_I0))) (fun hb => ?_) fun _ H1 e => q H1 e
  rw [decide_eq_true h0, decide_eq_true hi] at hb
  cases hb
theorem spv_check_slider {a : Addr} {ns : List Int} {i : Int} (hL : LI H a ns) (h0 : 0 ≤ i) (hi : i < ns.length) : SpV (sp_check_slider K) [.ref a, .int i] H .non := spv_of fun _ e _ _ q => ⟨a, ns, i, rfl, hL.ex e, h0, hi, q⟩
/-- the share of slider s -/
def shT (ns : List Int) (s : Nat) : Int := ns.getD s 0 / ((Int.gcd (ns.getD s 0) ns.sum : Nat) : Int)
def shB (ns : List Int) (s : Nat) : Int := ns.sum / ((Int.gcd (ns.getD s 0) ns.sum : Nat) : Int)
def sp_share_of (K : PySem.W.Frag) : Sp := fun vs H Q _ => ∃ a ns s k, vs = [.ref a, .int ((s : Nat) : Int)] ∧ LI H a ns ∧ IsRow ns ∧ s < ns.length ∧ Sz k ns ∧ k < 9000 ∧ RetU [.int (shT ns s), .int (shB ns s)] H Q
theorem ln_share_of (h : sp_share_of K vs H Q E) : vs.length = (["row", "slider"] : List Str).length := by obtain ⟨a, ns, s, k, rfl, _⟩ := h; rfl
abbrev N_share_of : List Str := ["row", "slider"]
def t_share_of (K : PySem.W.Frag) : TS :=
  (tSeq (tDrop (tCall (sp_check_row K) [] E0 (tCons (tVar 0) tNil)))
    (tSeq (tDrop (tCall (sp_check_slider K) [] E0 (tCons (tVar 0) (tCons (tVar 1) tNil))))
    (tRet (tCall (sp_lowest_terms K) [] E0 (tCons (tOp (rIxL K) (tVar 0) (tVar 1)) (tCons (tCB (rSum K) (tCons (tVar 0) tNil)) tNil))))))
theorem gcd_share {ns : List Int} {s k : Nat} (hR : IsRow ns) (hs : s < ns.length) (hz : Sz k ns) : 0 < ((Int.gcd (ns.getD s 0) ns.sum : Nat) : Int) ∧ Int.gcd (ns.getD s 0) ns.sum < 2 ^ (k + 1) := by
  have h1 := hR.pos _ (List.mem_of_getElem? (getD_some hs))
  have h2 := hz _ (List.mem_of_getElem? (getD_some hs))
  have h3 : Int.gcd (ns.getD s 0) ns.sum ∣ (ns.getD s 0).natAbs := Nat.gcd_dvd_left _ _
  have h4 := Nat.le_of_dvd (by omega) h3
  have h5 : Int.gcd (ns.getD s 0) ns.sum ≠ 0 := fun z => by
    have := (Int.gcd_eq_zero_iff.mp z).1
    omega
  have h6 : 2 ^ k ≤ 2 ^ (k + 1) := two_pow_le (by omega)
  omega
theorem rd_share_of (h : sp_share_of K vs H Q E) : t_share_of K (fin Q) (start N_share_of vs) H := by
  obtain ⟨a, ns, s, k, rfl, hL, hR, hs, hz, h9, q⟩ := h
  refine q_drop (ev_call (ea_cons (ev_var rfl) ea_nil) (spv_check_row hL hR)) fun H1 e1 => ?_
  refine q_drop (ev_call (ea_cons (ev_var rfl) (ea_cons (ev_var rfl) ea_nil)) (spv_check_slider (hL.ex e1) (by omega) (by omega))) fun H2 e2 => ?_
  have hL2 := (hL.ex e1).ex e2
  obtain ⟨g1, g2⟩ := gcd_share hR hs hz
  refine s_retU (eu_call (ea_cons (ev_ixI (ev_var rfl) (ev_var rfl) hL2 rfl (getD_some hs)) (ea_cons (ev_sum (ev_var rfl) hL2) ea_nil)) (spu_lowest_terms g1 g2 h9)) fun p H3 hp e3 h3 => q p H3 (fresh_back (e1.trans e2) hp) ((e1.trans e2).trans e3) h3
theorem spu_share_of {a : Addr} {ns : List Int} {s k : Nat} (hL : LI H a ns) (hR : IsRow ns) (hs : s < ns.length) (hz : Sz k ns) (h9 : k < 9000) : SpU (sp_share_of K) [.ref a, .int ((s : Nat) : Int)] H [.int (shT ns s), .int (shB ns s)] :=
  spu_of fun _ e _ _ q => ⟨a, ns, s, k, rfl, hL.ex e, hR, hs, hz, h9, q⟩
/-! is_move, check_move -/
def isMvB (s t b : Int) : Bool := (decide (0 ≤ s) && decide (s < 8)) && ((decide (1 ≤ t) && decide (t < b)) && decide (((Int.gcd t b : Nat) : Int) = 1))
def sp_is_move (K : PySem.W.Frag) : Sp := fun vs H Q _ => ∃ a s t b, vs = [.ref a] ∧ H a = some (.tup [.int s, .int t, .int b]) ∧ RetV (.bl (isMvB s t b)) H Q
theorem ln_is_move (h : sp_is_move K vs H Q E) : vs.length = (["value"] : List Str).length := by obtain ⟨a, s, t, b, rfl, _⟩ := h; rfl
abbrev N_is_move : List Str := ["value", "slider", "top", "bottom", "part"]
def t_is_move (K : PySem.W.Frag) : TS :=
  (tSeq (tIfS (tOr (tTest (tOp rNotTyp (tThenZ (tVar 0) kTyp) (tC (.ty "tuple")))) (tOr (tTest (tOp rNe (tCB (Evl.rLenS K) (tCons (tVar 0) tNil)) (tC (.int 3)))) (tNot (tB (tCB (rAll K) (tCons (tLc (iTup K (tVar 0)) (gName 4) tYes (tCall (sp_is_whole K) [] E0 (tCons (tVar 4) tNil)) [4]) tNil)))))) (tRet (tC (.bl false))) tNext)
    (tSeq (tAsg (tVar 0) (gTup K 3 (gCons (gName 1) (gCons (gName 2) (gCons (gName 3) gNil)))))
    (tRet (tAndV (tChain rLeI rLtI (tC (.int 0)) (tVar 1) (tC (.int 8))) (tAndV (tChain rLeI rLtI (tC (.int 1)) (tVar 2) (tVar 3)) (tOp rEq (tCB rGcd (tCons (tVar 2) (tCons (tVar 3) tNil))) (tC (.int 1))))))))
/-- [e for x in a tuple of ints] -/
theorem el_lcT {σ : L2.St} {H : Hp} {te tl : TE} {a : Addr} {ns : List Int} {j : Nat} (f : Int → V) (h : Ev tl σ H (.ref a)) (hx : H a = some (.tup (ns.map V.int))) (hz : ns.length ≤ 40000)
    (he : ∀ (x : Int) H1, Ex H H1 → x ∈ ns → Ev te ((wipe σ [j]).set j (some (.int x))) H1 (f x)) : EvL (tLc (iTup K tl) (gName j) tYes te [j]) σ H (ns.map f) := fun H0 e Q q => h H0 e _ fun H1 e1 => by
  have hx1 : SqT K H1 a (ns.map V.int) := .inl (.inl (e1 _ _ (e _ _ hx)))
  refine ⟨a, rfl, ⟨_, hx1⟩, fun Dl hD => ?_⟩
  refine lc_tup (xs := ns.map V.int) (fun i H' => H1 Dl = none ∧ Ex H1 H' ∧ H' Dl = some (.lst ((ns.take i).map f))) ⟨hD, Ex.new hD, upd_same⟩ (fun i H' _ p => ex_t p.2.1 hx1) (fun i x H' hi p => ⟨by simp [wipe], ?_⟩) (fun H' p => ?_)
  · obtain ⟨y, rfl, hy⟩ := int_at hi
    obtain ⟨p1, p2, p3⟩ := p
    refine iteT (B := H1 Dl = none ∧ Ex H1 H' ∧ H' Dl = some (HO.lst (List.map f (List.take (i + 1) ns)))) ?_
    refine he y H1 (e.trans e1) (List.mem_of_getElem? hy) H' p2 _ fun H4 e4 => ⟨_, e4 Dl _ p3, sz_lt ?_, p1, Ex.mut (p2.trans e4) p1, ?_⟩
    · rw [List.length_map, List.length_take]; omega
    · rw [List.take_add_one, hy, List.map_append]
      exact upd_same
  · obtain ⟨p1, p2, p3⟩ := p
    rw [List.length_map, List.take_length] at p3
    exact q Dl H' (fresh_back e1 p1) (e1.trans p2) p3
theorem q_asgT3 {σ : L2.St} {H : Hp} {te : TE} {tz : TS} {D : Ends} {a : Addr} {x y z : V} {i j k : Nat} (h : Ev te σ H (.ref a)) (ha : H a = some (.tup [x, y, z])) (kk : ∀ H1, Ex H H1 → tz D (((σ.set i (some x)).set j (some y)).set k (some z)) H1) :
    tSeq (tAsg te (gTup K 3 (gCons (gName i) (gCons (gName j) (gCons (gName k) gNil))))) tz D σ H := h H (Ex.refl H) _ fun H1 e1 => ⟨a, _, rfl, .inl (.inl (e1 _ _ ha)), rfl, _, _, rfl, _, _, rfl, _, _, rfl, rfl, kk H1 e1⟩
theorem rd_is_move (h : sp_is_move K vs H Q E) : t_is_move K (fin Q) (start N_is_move vs) H := by
  obtain ⟨a, s, t, b, rfl, hT, q⟩ := h
  refine q_when (b := false) (et_is (et_or (et_test (ev_op (ev_type (ev_var rfl) fun H1 e => ty_tup (e _ _ hT)) ev_c rv_notTyp)) fun _ => et_or (et_test (ev_neI (ev_lenT (ev_var rfl) hT) ev_c)) fun _ =>
    et_not (et_B (ev_all (bs := [s, t, b].map fun _ => true) (el_lcT (ns := [s, t, b]) (fun _ => .bl true) (ev_var rfl) hT (by show 3 ≤ 40000; decide) fun x H1 e hx => ev_call (ea_cons (ev_var rfl) ea_nil) spv_is_whole) rfl))) rfl) (fun hb => by cases hb) fun _ H1 e1 => ?_
  refine q_asgT3 (ev_var rfl) (e1 _ _ hT) fun H2 e2 => ?_
  exact s_ret (ev_andV (ev_chain ev_c (ev_var rfl) rv_I0 ev_c rv_I0) fun _ => ev_andV (ev_chain ev_c (ev_var rfl) rv_I0 (ev_var rfl) rv_I0) fun _ => ev_eqI (ev_gcd (ev_var rfl) (ev_var rfl)) ev_c) fun H3 e3 => q H3 ((e1.trans e2).trans e3)
theorem spv_is_move {a : Addr} {s t b : Int} (hT : H a = some (.tup [.int s, .int t, .int b])) : SpV (sp_is_move K) [.ref a] H (.bl (isMvB s t b)) := spv_of fun _ e _ _ q => ⟨a, s, t, b, rfl, e _ _ hT, q⟩
theorem isMvB_of {n k : Nat} {m : Mv} (h : OkM n k m) (hn : n ≤ 8) : isMvB (m.1 : Int) m.2.1 m.2.2 = true := by
  unfold isMvB
  have h1 := h.s
  rw [decide_eq_true (by omega : (0 : Int) ≤ m.1), decide_eq_true (by omega : (m.1 : Int) < 8), decide_eq_true h.t, decide_eq_true h.tb, h.g]
  rfl
def sp_check_move (K : PySem.W.Frag) : Sp := fun vs H Q _ => ∃ a m n k, vs = [.ref a, .int ((n : Nat) : Int)] ∧ MI H a m ∧ OkM n k m ∧ n ≤ 8 ∧ RetV .non H Q
theorem ln_check_move (h : sp_check_move K vs H Q E) : vs.length = (["move", "sliders"] : List Str).length := by obtain ⟨a, m, n, k, rfl, _⟩ := h; rfl
abbrev N_check_move : List Str := ["move", "sliders"]
def t_check_move (K : PySem.W.Frag) : TS :=
  (tIfS (tOr (tNot (tB (tCall (sp_is_move K) [] E0 (tCons (tVar 0) tNil)))) (tTest (tOp rGeI (tOp (rIxT K) (tVar 0) (tC (.int 0))) (tVar 1)))) tNever tNext)
theorem ev_ixT {σ : L2.St} {H : Hp} {ta tb : TE} {a : Addr} {xs : List V} {i : Nat} {k : Int} {x : V} (ha : Ev ta σ H (.ref a)) (hb : Ev tb σ H (.int k)) (h : H a = some (.tup xs)) (hk : k = (i : Int)) (hx : xs[i]? = some x) : Ev (tOp (rIxT K) ta tb) σ H x := by
  subst hk
  exact ev_op ha hb (rv_ixT (.inl (.inl h)) (atI_nat hx))
theorem rd_check_move (h : sp_check_move K vs H Q E) : t_check_move K (fin Q) (start N_check_move vs) H := by
  obtain ⟨a, m, n, k, rfl, hM, hO, hn, q⟩ := h
  refine s_if (b := false) (et_is (et_or (et_not (et_B (ev_call (ea_cons (ev_var rfl) ea_nil) (spv_is_move hM)))) fun _ => et_test (ev_geI (ev_ixT (i := 0) (ev_var rfl) ev_c hM rfl rfl) (ev_var rfl))) ?_) (fun hb => by cases hb) fun _ H1 e => q H1 e
  rw [isMvB_of hO hn]
  have := hO.s
  show (false || _) = false
  rw [Bool.false_or]
  exact decide_eq_false (by omega)
theorem spv_check_move {a : Addr} {m : Mv} {n k : Nat} (hM : MI H a m) (hO : OkM n k m) (hn : n ≤ 8) : SpV (sp_check_move K) [.ref a, .int ((n : Nat) : Int)] H .non := spv_of fun _ e _ _ q => ⟨a, m, n, k, rfl, hM.ex e, hO, hn, q⟩
end
end SL

namespace SL
open PySem PySem.Spec PyProof.Rows L2 Evl
/-! ### arguments of several shapes -/
def EvX (te : TE) (σ : L2.St) (H : Hp) (P : V → Hp → Prop) : Prop := ∀ H1, Ex H H1 → ∀ Q : VK, (∀ v H2, Ex H1 H2 → P v H2 → Q v H2) → te σ H1 Q
def EvAX (ta : TA) (σ : L2.St) (H : Hp) (P : List V → Hp → Prop) : Prop := ∀ H1, Ex H H1 → ∀ Q : List V → Hp → Prop, (∀ vs H2, Ex H1 H2 → P vs H2 → Q vs H2) → ta σ H1 Q
def Stable (P : V → Hp → Prop) : Prop := ∀ v H H', Ex H H' → P v H → P v H'
def IsV (x : V) : V → Hp → Prop := fun v _ => v = x
def IsL (xs : List V) : V → Hp → Prop := fun v H => ∃ p, v = .ref p ∧ H p = some (.lst xs)
def IsU (xs : List V) : V → Hp → Prop := fun v H => ∃ p, v = .ref p ∧ H p = some (.tup xs)
theorem stV {x : V} : Stable (IsV x) := fun _ _ _ _ h => h
theorem stL {xs : List V} : Stable (IsL xs) := fun _ _ _ e ⟨p, h, q⟩ => ⟨p, h, e _ _ q⟩
theorem stU {xs : List V} : Stable (IsU xs) := fun _ _ _ e ⟨p, h, q⟩ => ⟨p, h, e _ _ q⟩
section
variable {K : PySem.W.Frag} {σ : L2.St} {H H' : Hp} {ta tb tc te : TE} {t u : TT} {x y z v : V} {r r' : R2} {xs ys : List V}
theorem xV (h : Ev te σ H x) : EvX te σ H (IsV x) := fun H1 e Q q => h H1 e Q fun H2 e2 => q x H2 e2 rfl
theorem xL (h : EvL te σ H xs) : EvX te σ H (IsL xs) := fun H1 e Q q => h H1 e Q fun p H2 _ e2 h2 => q _ H2 e2 ⟨p, rfl, h2⟩
theorem xU (h : EvU te σ H xs) : EvX te σ H (IsU xs) := fun H1 e Q q => h H1 e Q fun p H2 _ e2 h2 => q _ H2 e2 ⟨p, rfl, h2⟩
/-- a name that stands for a list that is known -/
theorem xLv {p : Addr} (h : Ev te σ H (.ref p)) (hp : H p = some (.lst xs)) : EvX te σ H (IsL xs) := fun H1 e Q q => h H1 e Q fun H2 e2 => q _ H2 e2 ⟨p, rfl, (e.trans e2) _ _ hp⟩
theorem xUv {p : Addr} (h : Ev te σ H (.ref p)) (hp : H p = some (.tup xs)) : EvX te σ H (IsU xs) := fun H1 e Q q => h H1 e Q fun H2 e2 => q _ H2 e2 ⟨p, rfl, (e.trans e2) _ _ hp⟩
def PNil : List V → Hp → Prop := fun vs _ => vs = []
def PCons (P : V → Hp → Prop) (R : List V → Hp → Prop) : List V → Hp → Prop := fun vs H => ∃ v r, vs = v :: r ∧ P v H ∧ R r H
theorem eax_nil : EvAX tNil σ H PNil := fun H1 _ _ q => q [] H1 (Ex.refl H1) rfl
theorem eax_cons {P : V → Hp → Prop} {R : List V → Hp → Prop} {tr : TA} (h : EvX te σ H P) (hP : Stable P) (hr : EvAX tr σ H R) : EvAX (tCons te tr) σ H (PCons P R) := fun H1 e Q q =>
  h H1 e _ fun v H2 e2 hv => hr H2 (e.trans e2) _ fun vs H3 e3 hvs => q _ H3 (e2.trans e3) ⟨v, vs, rfl, hP _ _ _ e3 hv, hvs⟩
theorem ev_callX {sp : Sp} {E : XK} {ta : TA} {R : List V → Hp → Prop} (h : EvAX ta σ H R) (hs : ∀ vs H1, Ex H H1 → R vs H1 → SpV sp vs H1 z) : Ev (tCall sp [] E ta) σ H z := fun H1 e Q q =>
  h H1 e _ fun vs H2 e2 hr => by
    show sp (vs ++ []) H2 Q E
    rw [List.append_nil]
    exact hs vs H2 (e.trans e2) hr H2 (Ex.refl H2) Q (fun H3 e3 => q H3 (e2.trans e3)) E
theorem el_callX {sp : Sp} {E : XK} {ta : TA} {R : List V → Hp → Prop} (h : EvAX ta σ H R) (hs : ∀ vs H1, Ex H H1 → R vs H1 → SpL sp vs H1 xs) : EvL (tCall sp [] E ta) σ H xs := fun H1 e Q q =>
  h H1 e _ fun vs H2 e2 hr => by
    show sp (vs ++ []) H2 Q E
    rw [List.append_nil]
    exact hs vs H2 (e.trans e2) hr H2 (Ex.refl H2) Q (fun p H3 hp e3 h3 => q p H3 (fresh_back e2 hp) (e2.trans e3) h3) E
theorem eu_callX {sp : Sp} {E : XK} {ta : TA} {R : List V → Hp → Prop} (h : EvAX ta σ H R) (hs : ∀ vs H1, Ex H H1 → R vs H1 → SpU sp vs H1 xs) : EvU (tCall sp [] E ta) σ H xs := fun H1 e Q q =>
  h H1 e _ fun vs H2 e2 hr => by
    show sp (vs ++ []) H2 Q E
    rw [List.append_nil]
    exact hs vs H2 (e.trans e2) hr H2 (Ex.refl H2) Q (fun p H3 hp e3 h3 => q p H3 (fresh_back e2 hp) (e2.trans e3) h3) E
theorem ev_opX {P P' : V → Hp → Prop} (ha : EvX ta σ H P) (hP : Stable P) (hb : EvX tb σ H P') (hr : ∀ x y H1, Ex H H1 → P x H1 → P' y H1 → RV r x y H1 z) : Ev (tOp r ta tb) σ H z := fun H1 e Q q =>
  ha H1 e _ fun x H2 e2 hx => hb H2 (e.trans e2) _ fun y H3 e3 hy => hr x y H3 ((e.trans e2).trans e3) (hP _ _ _ e3 hx) hy H3 (Ex.refl H3) Q fun H4 e4 => q H4 ((e2.trans e3).trans e4)
/-! ### data -/
theorem dpAll_ints {H : Hp} : ∀ ns : List Int, DpAll K H (ns.map V.int) (ns.map PyData.int)
  | [] => .nil
  | n :: r => .cons (.int n) (dpAll_ints r)
theorem dp_ints {H : Hp} {a : Addr} {ns : List Int} (h : H a = some (.lst (ns.map V.int))) : Dp K H (.ref a) (.list (ns.map PyData.int)) := .lst (.inl (.inl h)) (dpAll_ints ns)
theorem dp_intsT {H : Hp} {a : Addr} {ns : List Int} (h : H a = some (.tup (ns.map V.int))) : Dp K H (.ref a) (.tuple (ns.map PyData.int)) := .tup (.inl (.inl h)) (dpAll_ints ns)

theorem eqvAll_ints : ∀ ns ms : List Int, PyData.eqvAll (ns.map PyData.int) (ms.map PyData.int) = decide (ns = ms)
  | [], [] => by simp [PyData.eqvAll]
  | [], y :: r => by simp [PyData.eqvAll]
  | x :: r, [] => by simp [PyData.eqvAll]
  | x :: r, y :: r' => by
    simp only [List.map_cons, PyData.eqvAll, PyData.eqv, eqvAll_ints r r', List.cons.injEq]
    by_cases h1 : x = y <;> by_cases h2 : r = r' <;> simp [h1, h2]
theorem canLayAll_ints : ∀ ns : List Int, PyData.canLayAll0 (ns.map PyData.int) = true
  | [] => by simp [PyData.canLayAll0]
  | x :: r => by simp [PyData.canLayAll0, PyData.canLay0, canLayAll_ints r]
theorem depthAll_ints : ∀ ns : List Int, PyData.depthAll (ns.map PyData.int) ≤ 1
  | [] => by simp [PyData.depthAll]
  | x :: r => by
    have := depthAll_ints r
    simp only [List.map_cons, PyData.depthAll, PyData.depth]
    omega
theorem shaped_ints (ns : List Int) : SeqAt.shaped (.list (ns.map PyData.int)) = true := by
  have h := depthAll_ints ns
  refine Bool.and_eq_true_iff.mpr ⟨by rw [PyData.canLay0]; exact canLayAll_ints ns, decide_eq_true ?_⟩
  rw [PyData.depth]
  omega
theorem shaped_intsT (ns : List Int) : SeqAt.shaped (.tuple (ns.map PyData.int)) = true := by
  have h := depthAll_ints ns
  refine Bool.and_eq_true_iff.mpr ⟨by rw [PyData.canLay0]; exact canLayAll_ints ns, decide_eq_true ?_⟩
  rw [PyData.depth]
  omega
theorem ev_eqL {ns ms : List Int} (ha : EvX ta σ H (IsL (ns.map V.int))) (hb : EvX tb σ H (IsL (ms.map V.int))) : Ev (tOp (rEqD K) ta tb) σ H (.bl (decide (ns = ms))) :=
  ev_opX ha stL hb fun x y H1 _ ⟨p, ex, hp⟩ ⟨q, ey, hq⟩ H2 e2 Q k => by
    subst ex ey
    refine ⟨_, _, dp_ints (e2 _ _ hp), dp_ints (e2 _ _ hq), shaped_ints ns, shaped_ints ms, ?_⟩
    rw [show PyData.eqv (.list (ns.map PyData.int)) (.list (ms.map PyData.int)) = decide (ns = ms) by rw [PyData.eqv, eqvAll_ints]]
    exact k H2 (Ex.refl H2)
theorem ev_neL {ns ms : List Int} (ha : EvX ta σ H (IsL (ns.map V.int))) (hb : EvX tb σ H (IsL (ms.map V.int))) : Ev (tOp (rNeD K) ta tb) σ H (.bl (!decide (ns = ms))) :=
  ev_opX ha stL hb fun x y H1 _ ⟨p, ex, hp⟩ ⟨q, ey, hq⟩ H2 e2 Q k => by
    subst ex ey
    refine ⟨_, _, dp_ints (e2 _ _ hp), dp_ints (e2 _ _ hq), shaped_ints ns, shaped_ints ms, ?_⟩
    rw [show PyData.eqv (.list (ns.map PyData.int)) (.list (ms.map PyData.int)) = decide (ns = ms) by rw [PyData.eqv, eqvAll_ints]]
    exact k H2 (Ex.refl H2)
end
/-! ### weights_after -/
section
variable {K : PySem.W.Frag} {vs : List V} {H : Hp} {Q : VK} {E : XK}
def sp_weights_after (K : PySem.W.Frag) : Sp := fun vs H Q _ => ∃ a b ns m k j, vs = [.ref a, .ref b] ∧ LI H a ns ∧ MI H b m ∧ ns.length ≤ 8 ∧ m.1 < ns.length ∧ (1 ≤ m.2.1 ∧ m.2.1 < m.2.2) ∧ Sz k ns ∧ m.2.2.natAbs < 2 ^ j ∧ k + j ≤ 100000 ∧ RetL ((wAfter ns m.1 m.2.1 m.2.2).map V.int) H Q
theorem ln_weights_after (h : sp_weights_after K vs H Q E) : vs.length = (["weights", "move"] : List Str).length := by obtain ⟨a, b, ns, m, k, j, rfl, _⟩ := h; rfl
abbrev N_weights_after : List Str := ["weights", "move", "slider", "top", "bottom", "others", "after", "weight"]
def t_weights_after (K : PySem.W.Frag) : TS :=
  (tSeq (tAsg (tVar 1) (gTup K 3 (gCons (gName 2) (gCons (gName 3) (gCons (gName 4) gNil)))))
    (tSeq (tAsg (tOp rSubI (tCB (rSum K) (tCons (tVar 0) tNil)) (tOp (rIxL K) (tVar 0) (tVar 2))) (gName 5))
    (tSeq (tAsg (tLc (iList K (tVar 0)) (gName 7) tYes (tOp rMulI (tVar 7) (tOp rSubI (tVar 4) (tVar 3))) [7]) (gName 6))
    (tSeq (tAsg (tOp rMulI (tVar 3) (tVar 5)) (gSub (tVar 6) (tVar 2) rSetL))
    (tRet (tVar 6))))))
theorem wide_mul' {i j : Int} {a b : Nat} (ha : i.natAbs < 2 ^ a) (hb : j.natAbs < 2 ^ b) (h : a + b ≤ 900000) : CMulW i j :=
  wide_mul (a := a + 1) (b := b + 1) (Nat.lt_of_lt_of_le ha (two_pow_le (by omega))) (Nat.lt_of_lt_of_le hb (two_pow_le (by omega))) (by omega) (by omega) (by omega)
theorem rd_weights_after (h : sp_weights_after K vs H Q E) : t_weights_after K (fin Q) (start N_weights_after vs) H := by
  obtain ⟨a, b, ns, ⟨s, t, bt⟩, k, j, rfl, hL, hM, h8, hs, ⟨ht, htb⟩, hz, hb, hkj, q⟩ := h
  simp only at hs ht htb hb q
  refine q_asgT3 (ev_var rfl) hM fun H1 e1 => ?_
  have hL1 := hL.ex e1
  refine q_asg (ev_subI (ev_sum (ev_var rfl) hL1) (ev_ixI (i := s) (ev_var rfl) (ev_var rfl) hL1 rfl (getD_some hs))) fun H2 e2 => ?_
  have hL2 := hL1.ex e2
  refine q_asgL (xs := (ns.map fun x => x * (bt - t)).map V.int) ?_ fun p H3 hp e3 h3 => ?_
  · rw [List.map_map]
    refine el_lcI (fun x => .int (x * (bt - t))) (ev_var rfl) hL2 (by omega) fun x H4 e hx => ?_
    exact ev_mulI (ev_var rfl) (ev_subI (ev_var rfl) (ev_var rfl)) (wide_mul' (hz x hx) (show (bt - t).natAbs < 2 ^ j by omega) (by omega))
  · have hsum : (ns.sum - ns.getD s 0).natAbs < 2 ^ (k + 5) := sub_lt_pow (sum_lt8 hz h8) (Nat.lt_of_lt_of_le (hz _ (List.mem_of_getElem? (getD_some hs))) (two_pow_le (by omega)))
    refine q_setL (j := s) h3 (ev_mulI (ev_var rfl) (ev_var rfl) (wide_mul' (show t.natAbs < 2 ^ j by omega) hsum (by omega))) (ev_var rfl) (ev_var rfl) (by rw [List.length_map, List.length_map]; exact hs) fun H4 e4 => ?_
    refine s_ret (v := .ref p) (ev_var rfl) fun H5 e5 => ?_
    refine q p H5 ?_ ?_ ?_
    · exact fresh_back (e1.trans e2) hp
    · exact Ex.trans (Ex.mut (((e1.trans e2).trans e3).trans e4) (fresh_back (e1.trans e2) hp)) e5
    · rw [e5 p _ upd_same, ← List.map_set]
      rfl
theorem spl_weights_after {a b : Addr} {ns : List Int} {m : Mv} {k j : Nat} (hL : LI H a ns) (hM : MI H b m) (h8 : ns.length ≤ 8) (hs : m.1 < ns.length) (ht : 1 ≤ m.2.1 ∧ m.2.1 < m.2.2) (hz : Sz k ns) (hb : m.2.2.natAbs < 2 ^ j) (hkj : k + j ≤ 100000) :
    SpL (sp_weights_after K) [.ref a, .ref b] H ((wAfter ns m.1 m.2.1 m.2.2).map V.int) := spl_of fun _ e _ _ q => ⟨a, b, ns, m, k, j, rfl, hL.ex e, hM.ex e, h8, hs, ht, hz, hb, hkj, q⟩
/-! ### row_behind -/
theorem paired_mono {H H' : Hp} (e : Ex H H') : ∀ {vs : List V} {ms : List Mv}, Paired (MsAt H) vs ms → Paired (MsAt H') vs ms
  | _, _, .nil => .nil
  | _, _, .cons ⟨a, h, g⟩ r => .cons ⟨a, h, g.ex e⟩ (paired_mono e r)
theorem MS.ex {H H' : Hp} {a : Addr} {ms : List Mv} (h : MS H a ms) (e : Ex H H') : MS H' a ms := by
  obtain ⟨vs, h1, h2⟩ := h
  exact ⟨vs, e _ _ h1, paired_mono e h2⟩
theorem paired_len {H : Hp} : ∀ {vs : List V} {ms : List Mv}, Paired (MsAt H) vs ms → vs.length = ms.length
  | _, _, .nil => rfl
  | _, _, .cons _ r => by rw [List.length_cons, List.length_cons, paired_len r]
theorem paired_at {H : Hp} : ∀ {vs : List V} {ms : List Mv} {i : Nat} {x : V}, Paired (MsAt H) vs ms → vs[i]? = some x → ∃ m, ms[i]? = some m ∧ MsAt H x m
  | _, _, i, x, .nil, h => by simp at h
  | _, _, 0, x, .cons p _, h => by
    have e := Option.some.inj h
    subst e
    exact ⟨_, rfl, p⟩
  | _, _, i + 1, x, .cons _ r, h => by
    obtain ⟨m, h1, h2⟩ := paired_at (i := i) r h
    exact ⟨m, h1, h2⟩
theorem mvs_take {r : List Int} {ms : List Mv} {i : Nat} {m : Mv} (h : ms[i]? = some m) : mvs r (ms.take (i + 1)) = mvM (mvs r (ms.take i)) m := by
  unfold mvs
  rw [List.take_add_one, h, List.foldl_append]
  rfl
theorem mvM_len (r : List Int) (m : Mv) : (mvM r m).length = r.length := by
  unfold mvM mv
  rw [red_len, wAfter_len]
theorem mvs_len : ∀ (ms : List Mv) (r : List Int), (mvs r ms).length = r.length
  | [], r => rfl
  | m :: ms, r => by
    show (mvs (mvM r m) ms).length = r.length
    rw [mvs_len ms, mvM_len]
theorem mvs_row : ∀ {ms : List Mv} {r : List Int} {n j : Nat}, IsRow r → r.length = n → (∀ m ∈ ms, OkM n j m) → IsRow (mvs r ms)
  | [], r, n, j, h, _, _ => h
  | m :: ms, r, n, j, h, hn, ho => by
    have o := ho m (List.mem_cons_self ..)
    refine mvs_row (ms := ms) (r := mvM r m) (n := n) (j := j) (isRow_mv h (by rw [hn]; exact o.s) o.t o.tb) (by rw [mvM_len, hn]) fun x hx => ho x (List.mem_cons_of_mem _ hx)
theorem mvs_sz : ∀ {ms : List Mv} {r : List Int} {n j k : Nat}, IsRow r → r.length = n → (∀ m ∈ ms, OkM n j m) → Sz k r → Sz (k + ms.length * (j + 5)) (mvs r ms)
  | [], r, n, j, k, h, _, _, z => by
    rw [List.length_nil, Nat.zero_mul]
    exact z
  | m :: ms, r, n, j, k, h, hn, ho, z => by
    have o := ho m (List.mem_cons_self ..)
    have h1 := mvs_sz (ms := ms) (r := mvM r m) (n := n) (j := j) (k := k + j + 5) (isRow_mv h (by rw [hn]; exact o.s) o.t o.tb) (by rw [mvM_len, hn]) (fun x hx => ho x (List.mem_cons_of_mem _ hx)) (mv_sz z h.hi (by rw [hn]; exact o.s) o.t o.tb o.z)
    rw [List.length_cons, Nat.add_mul, Nat.one_mul]
    refine h1.mono ?_
    omega
def sp_row_behind (K : PySem.W.Frag) : Sp := fun vs H Q _ => ∃ a c ns ms k j, vs = [.ref a, .ref c] ∧ LI H a ns ∧ MS H c ms ∧ IsRow ns ∧ (∀ m ∈ ms, OkM ns.length j m) ∧ Sz k ns ∧ k + ms.length * (j + 5) < 8000 ∧ j < 8000 ∧ RetL ((mvs ns ms).map V.int) H Q
theorem ln_row_behind (h : sp_row_behind K vs H Q E) : vs.length = (["row", "moves"] : List Str).length := by obtain ⟨a, c, ns, ms, k, j, rfl, _⟩ := h; rfl
abbrev N_row_behind : List Str := ["row", "moves", "behind", "move"]
def t_row_behind (K : PySem.W.Frag) : TS :=
  (tSeq (tAsg (tCB (Evl.rListS K) (tCons (tVar 0) tNil)) (gName 2))
    (tSeq (tFor (iList K (tVar 1)) (gName 3) (tAsg (tCall (sp_reduced K) [] E0 (tCons (tCall (sp_weights_after K) [] E0 (tCons (tVar 2) (tCons (tVar 3) tNil))) tNil)) (gName 2)))
    (tRet (tVar 2))))
theorem wA_gcd {ns : List Int} {m : Mv} {n k j : Nat} (h : IsRow ns) (hn : ns.length = n) (o : OkM n j m) (z : Sz k ns) : 0 < gcdL (wAfter ns m.1 m.2.1 m.2.2) ∧ (gcdL (wAfter ns m.1 m.2.1 m.2.2)).natAbs < 2 ^ (k + j + 5) := by
  have hs : m.1 < ns.length := by rw [hn]; exact o.s
  exact gcdL_lt (wAfter_sz z h.hi hs o.t o.tb o.z) (wAfter_pos h.pos h.lo hs o.t o.tb) (by rw [wAfter_len]; have := h.lo; omega)
theorem rd_row_behind (h : sp_row_behind K vs H Q E) : t_row_behind K (fin Q) (start N_row_behind vs) H := by
  obtain ⟨a, c, ns, ms, k, j, rfl, hL, hM, hR, hO, hz, hk, hj, q⟩ := h
  refine q_asgL (el_list (ev_var rfl) hL.sq) fun p H1 hp e1 h1 => ?_
  obtain ⟨mv, hc, hP⟩ := hM.ex e1
  refine q_forLn (xs := mv) (ev_var rfl) (sq_of hc) (fun i σ H' => ∃ p' y, σ = [some (.ref a), some (.ref c), some (.ref p'), y] ∧ Ex H H' ∧ Ex H1 H' ∧ H p' = none ∧ LI H' p' (mvs ns (ms.take i)))
    (fun H2 e2 => ⟨p, none, rfl, e1.trans e2, e2, hp, e2 _ _ h1⟩) (fun i σ' H' _ ⟨_, _, _, _, e, _, _⟩ => sq_of (e _ _ hc)) ?_ ?_
  · rintro i x σ' H' hi ⟨p', y, rfl, e, e', hp', hL'⟩
    obtain ⟨m, hm, b, rfl, hb⟩ := paired_at hP hi
    have hlt : i < ms.length := (List.getElem?_eq_some_iff.mp hm).1
    have hO' : ∀ m ∈ ms.take i, OkM ns.length j m := fun m h => hO m (List.mem_of_mem_take h)
    have hR' : IsRow (mvs ns (ms.take i)) := mvs_row hR rfl hO'
    have hn' : (mvs ns (ms.take i)).length = ns.length := mvs_len _ _
    have hz' := mvs_sz hR rfl hO' hz
    rw [List.length_take, Nat.min_eq_left (by omega)] at hz'
    have o := hO m (List.mem_of_getElem? hm)
    have hik : k + i * (j + 5) + j + 5 < 8000 := by
      have : (i + 1) * (j + 5) ≤ ms.length * (j + 5) := Nat.mul_le_mul_right _ hlt
      rw [Nat.add_mul, Nat.one_mul] at this
      omega
    obtain ⟨g1, g2⟩ := wA_gcd hR' hn' o hz'
    refine s_asgL (xs := (mvs ns (ms.take (i + 1))).map V.int) ?_ fun p2 H2 hp2 e2 h2 => ⟨p2, _, rfl, e.trans e2, e'.trans e2, fresh_back e hp2, h2⟩
    rw [mvs_take hm]
    refine el_callX (eax_cons (xL (el_callX (xs := (wAfter (mvs ns (ms.take i)) m.1 m.2.1 m.2.2).map V.int) (eax_cons (xV (ev_var rfl)) stV (eax_cons (xV (ev_var rfl)) stV eax_nil)) ?_)) stL eax_nil) ?_
    · rintro vs H3 e3 ⟨_, _, rfl, rfl, _, _, rfl, rfl, rfl⟩
      exact spl_weights_after (hL'.ex e3) ((hb.ex e').ex e3) hR'.hi (by rw [hn']; exact o.s) ⟨o.t, o.tb⟩ hz' o.z (by omega)
    · rintro vs H3 e3 ⟨_, _, rfl, ⟨p3, rfl, h3⟩, rfl⟩
      refine spl_reduced (k := k + i * (j + 5) + j + 5) h3 (by rw [wAfter_len]; have := hR'.hi; omega) g1 (Nat.lt_of_lt_of_le g2 (two_pow_le (by omega))) (by omega)
  · rintro σ' H' ⟨p', y, rfl, e, e', hp', hL'⟩
    rw [paired_len hP, List.take_length] at hL'
    exact s_ret (ev_var rfl) fun H2 e2 => q p' H2 hp' (e.trans e2) (hL'.ex e2)
theorem spl_row_behind {a c : Addr} {ns : List Int} {ms : List Mv} {k j : Nat} (hL : LI H a ns) (hM : MS H c ms) (hR : IsRow ns) (hO : ∀ m ∈ ms, OkM ns.length j m) (hz : Sz k ns) (hk : k + ms.length * (j + 5) < 8000) (hj : j < 8000) :
    SpL (sp_row_behind K) [.ref a, .ref c] H ((mvs ns ms).map V.int) := spl_of fun _ e _ _ q => ⟨a, c, ns, ms, k, j, rfl, hL.ex e, hM.ex e, hR, hO, hz, hk, hj, q⟩
/-! ### moved -/
def sp_moved (K : PySem.W.Frag) : Sp := fun vs H Q _ => ∃ a b ns m k j, vs = [.ref a, .ref b] ∧ LI H a ns ∧ MI H b m ∧ IsRow ns ∧ OkM ns.length j m ∧ Sz k ns ∧ k + j + 5 < 8000 ∧ RetL ((mvM ns m).map V.int) H Q
theorem ln_moved (h : sp_moved K vs H Q E) : vs.length = (["row", "move"] : List Str).length := by obtain ⟨a, c, ns, ms, k, j, rfl, _⟩ := h; rfl
abbrev N_moved : List Str := ["row", "move"]
def t_moved (K : PySem.W.Frag) : TS :=
  (tSeq (tDrop (tCall (sp_check_row K) [] E0 (tCons (tVar 0) tNil)))
    (tSeq (tDrop (tCall (sp_check_move K) [] E0 (tCons (tVar 1) (tCons (tCB (Evl.rLenS K) (tCons (tVar 0) tNil)) tNil))))
    (tRet (tCall (sp_row_behind K) [] E0 (tCons (tVar 0) (tCons (tLst (tCons (tVar 1) tNil)) tNil))))))
theorem rd_moved (h : sp_moved K vs H Q E) : t_moved K (fin Q) (start N_moved vs) H := by
  obtain ⟨a, b, ns, m, k, j, rfl, hL, hM, hR, hO, hz, hk, q⟩ := h
  refine q_drop (ev_call (ea_cons (ev_var rfl) ea_nil) (spv_check_row hL hR)) fun H1 e1 => ?_
  refine q_drop (ev_call (ea_cons (ev_var rfl) (ea_cons (ev_lenI (ev_var rfl) (hL.ex e1)) ea_nil)) (spv_check_move (hM.ex e1) hO hR.hi)) fun H2 e2 => ?_
  refine s_retL (xs := (mvM ns m).map V.int) ?_ fun p H3 hp e3 h3 => q p H3 (fresh_back (e1.trans e2) hp) ((e1.trans e2).trans e3) h3
  refine el_callX (eax_cons (xV (ev_var rfl)) stV (eax_cons (xL (el_lst (ea_cons (ev_var rfl) ea_nil) (by show 1 ≤ 100000; decide))) stL eax_nil)) ?_
  rintro vs H3 e3 ⟨_, _, rfl, rfl, _, _, rfl, ⟨p3, rfl, h3⟩, rfl⟩
  have hM3 : MS H3 p3 [m] := ⟨_, h3, .cons ⟨b, rfl, ((hM.ex e1).ex e2).ex e3⟩ .nil⟩
  exact spl_row_behind (K := K) (((hL.ex e1).ex e2).ex e3) hM3 hR (fun m' hm' => by rw [List.mem_singleton.mp hm']; exact hO) hz (by show k + 1 * (j + 5) < 8000; omega) (by omega)
theorem spl_moved {a b : Addr} {ns : List Int} {m : Mv} {k j : Nat} (hL : LI H a ns) (hM : MI H b m) (hR : IsRow ns) (hO : OkM ns.length j m) (hz : Sz k ns) (hk : k + j + 5 < 8000) : SpL (sp_moved K) [.ref a, .ref b] H ((mvM ns m).map V.int) :=
  spl_of fun _ e _ _ q => ⟨a, b, ns, m, k, j, rfl, hL.ex e, hM.ex e, hR, hO, hz, hk, q⟩
end
end SL

namespace SL
open PySem PySem.Spec PyProof.Rows L2 Evl
/-! ### the source of draws: a list of three ints at a, drawn at most n times -/
def Src (a : Addr) (n : Nat) (H : Hp) : Prop := ∃ s0 s1 s2 : Int, H a = some (.lst [.int s0, .int s1, .int s2]) ∧ 0 ≤ s1 ∧ s1.natAbs < 2 ^ 220 ∧ 0 ≤ s2 ∧ s2 ≤ n
theorem Src.ex {a : Addr} {n : Nat} {H H' : Hp} (h : Src a n H) (e : Ex H H') : Src a n H' := by
  obtain ⟨s0, s1, s2, h1, h2⟩ := h
  exact ⟨s0, s1, s2, e _ _ h1, h2⟩
theorem Src.mono {a : Addr} {n m : Nat} {H : Hp} (h : Src a n H) (e : n ≤ m) : Src a m H := by
  obtain ⟨s0, s1, s2, h1, h2, h3, h4, h5⟩ := h
  exact ⟨s0, s1, s2, h1, h2, h3, h4, by omega⟩
/-- all but the source stands -/
def ExB (a : Addr) (H H' : Hp) : Prop := ∀ b o, b ≠ a → H b = some o → H' b = some o
theorem ExB.refl {a : Addr} (H : Hp) : ExB a H H := fun _ _ _ h => h
theorem ExB.trans {a : Addr} {H H1 H2 : Hp} (x : ExB a H H1) (y : ExB a H1 H2) : ExB a H H2 := fun b o n h => y b o n (x b o n h)
theorem ExB.of {a : Addr} {H H' : Hp} (e : Ex H H') : ExB a H H' := fun b o _ h => e b o h
structure Stp (a : Addr) (n : Nat) (H H' : Hp) : Prop where
  src : Src a n H'
  ex : ExB a H H'
theorem Stp.next {a : Addr} {n m : Nat} {H H1 H2 : Hp} (x : Stp a n H H1) (y : Stp a m H1 H2) : Stp a m H H2 := ⟨y.src, x.ex.trans y.ex⟩
theorem Stp.then {a : Addr} {n : Nat} {H H1 H2 : Hp} (x : Stp a n H H1) (y : Ex H1 H2) : Stp a n H H2 := ⟨x.src.ex y, x.ex.trans (.of y)⟩
theorem Stp.mono {a : Addr} {n m : Nat} {H H1 : Hp} (x : Stp a n H H1) (h : n ≤ m) : Stp a m H H1 := ⟨x.src.mono h, x.ex⟩
theorem Src.stp {a : Addr} {n : Nat} {H H1 : Hp} (x : Src a n H) (y : Ex H H1) : Stp a n H H1 := ⟨x.ex y, .of y⟩
theorem Src.ne {a p : Addr} {n : Nat} {H : Hp} (x : Src a n H) (h : H p = none) : p ≠ a := by
  obtain ⟨s0, s1, s2, h1, _⟩ := x
  exact fun z => by rw [z, h1] at h; cases h
theorem Stp.free {a p : Addr} {n m : Nat} {H H1 : Hp} (s : Src a m H) (x : Stp a n H H1) (h : H1 p = none) : H p = none := by
  cases h1 : H p with
  | none => rfl
  | some o =>
    have hp : p ≠ a := x.src.ne h
    rw [x.ex p o hp h1] at h
    cases h
theorem Stp.new {a p : Addr} {n : Nat} {H H1 : Hp} {o : HO} (x : Stp a n H H1) (h : H1 p = none) : Stp a n H (upd H1 p o) := x.then (Ex.new h)
theorem Stp.here {a p : Addr} {n : Nat} {H H1 : Hp} {o : HO} (x : Stp a n H H1) (hp : p ≠ a) (h : H p = some o) : H1 p = some o := x.ex p o hp h
section
variable {K : PySem.W.Frag} {vs : List V} {H : Hp} {Q : VK} {E : XK}
/-! draw -/
def sp_draw (K : PySem.W.Frag) : Sp := fun vs H Q _ => ∃ a n lim, vs = [.ref a, .int lim] ∧ Src a n H ∧ n < 1000000 ∧ 1 ≤ lim ∧ lim.natAbs < 2 ^ 220 ∧ ∀ d H', 0 ≤ d → d < lim → Stp a (n + 1) H H' → Q (.int d) H'
theorem ln_draw (h : sp_draw K vs H Q E) : vs.length = (["source", "limit"] : List Str).length := by obtain ⟨a, n, l, rfl, _⟩ := h; rfl
abbrev N_draw : List Str := ["source", "limit", "digit", "mixed"]
def t_draw (K : PySem.W.Frag) : TS :=
  (tSeq (tIfS (tTest (tOp rGtI (tOp (rIxL K) (tVar 0) (tC (.int 0))) (tC (.int 0)))) (tSeq (tAsg (tOp rModI (tOp (rIxL K) (tVar 0) (tC (.int 0))) (tVar 1)) (gName 2))
    (tSeq (tAsg (tOp rDivI (tOp (rIxL K) (tVar 0) (tC (.int 0))) (tVar 1)) (gSub (tVar 0) (tC (.int 0)) rSetL))
    (tRet (tVar 2)))) tNext)
    (tSeq (tAsg (tOp rAddI (tOp (rIxL K) (tVar 0) (tC (.int 2))) (tC (.int 1))) (gSub (tVar 0) (tC (.int 2)) rSetL))
    (tSeq (tAsg (tOp rModI (tOp rPowI (tOp rAddI (tOp rAddI (tOp (rIxL K) (tVar 0) (tC (.int 1))) (tOp rMulI (tOp rMulI (tC (.int 40503)) (tOp (rIxL K) (tVar 0) (tC (.int 2)))) (tOp (rIxL K) (tVar 0) (tC (.int 2))))) (tC (.int 11))) (tC (.int 3))) (tC (.int 2305843009213693951))) (gName 3))
    (tSeq (tAsg (tOp rModI (tOp rPowI (tOp rAddI (tVar 3) (tOp rMulI (tC (.int 69621)) (tOp (rIxL K) (tVar 0) (tC (.int 2))))) (tC (.int 3))) (tC (.int 2305843009213693921))) (gName 3))
    (tRet (tOp rModI (tOp rDivI (tVar 3) (tC (.int 65537))) (tVar 1)))))))
theorem small_pow {i : Int} {k : Nat} (h0 : 0 ≤ i) (h : i < 2 ^ k) : i.natAbs < 2 ^ k := by
  have e : ((i.natAbs : Nat) : Int) = i := Int.natAbs_of_nonneg h0
  have e2 : (((2 ^ k : Nat)) : Int) = (2 : Int) ^ k := by norm_cast
  omega
theorem rd_draw (h : sp_draw K vs H Q E) : t_draw K (fin Q) (start N_draw vs) H := by
  obtain ⟨a, n, lim, rfl, ⟨s0, s1, s2, hS, h1, h1', h2, h2'⟩, hn, hl, hl', q⟩ := h
  have i0 : ∀ {H1 : Hp} {σ : L2.St} {ta tb : TE} {x y z : Int}, H1 a = some (.lst [.int x, .int y, .int z]) → Ev ta σ H1 (.ref a) → Ev tb σ H1 (.int 0) → Ev (tOp (rIxL K) ta tb) σ H1 (.int x) := fun {H1 σ ta tb x y z} g ha hb => ev_ixI (ns := [x, y, z]) (i := 0) ha hb g rfl rfl
  have i1 : ∀ {H1 : Hp} {σ : L2.St} {ta tb : TE} {x y z : Int}, H1 a = some (.lst [.int x, .int y, .int z]) → Ev ta σ H1 (.ref a) → Ev tb σ H1 (.int 1) → Ev (tOp (rIxL K) ta tb) σ H1 (.int y) := fun {H1 σ ta tb x y z} g ha hb => ev_ixI (ns := [x, y, z]) (i := 1) ha hb g rfl rfl
  have i2 : ∀ {H1 : Hp} {σ : L2.St} {ta tb : TE} {x y z : Int}, H1 a = some (.lst [.int x, .int y, .int z]) → Ev ta σ H1 (.ref a) → Ev tb σ H1 (.int 2) → Ev (tOp (rIxL K) ta tb) σ H1 (.int z) := fun {H1 σ ta tb x y z} g ha hb => ev_ixI (ns := [x, y, z]) (i := 2) ha hb g rfl rfl
  refine q_when (et_test (ev_gtI (i0 hS (ev_var rfl) ev_c) ev_c)) (fun hb H1 e1 => ?_) (fun hb H1 e1 => ?_)
  · have g1 := e1 _ _ hS
    refine q_asg (ev_modI (i0 g1 (ev_var rfl) ev_c) (ev_var rfl) (by omega)) fun H2 e2 => ?_
    have g2 := e2 _ _ g1
    refine q_setL (j := 0) g2 (ev_divI (i0 g2 (ev_var rfl) ev_c) (ev_var rfl) (wide_div (by omega) hl' (by omega) (by omega))) (ev_var rfl) ev_c (by show 0 < 3; decide) fun H3 e3 => ?_
    refine s_ret (v := .int (s0 % lim)) (ev_var rfl) fun H4 e4 => q _ H4 (Int.emod_nonneg _ (by omega)) (Int.emod_lt_of_pos _ (by omega)) ⟨⟨s0 / lim, s1, s2, e4 _ _ upd_same, h1, h1', h2, by omega⟩, fun b o hba hb => e4 _ _ ?_⟩
    rw [upd_ne hba]
    exact e3 _ _ (e2 _ _ (e1 _ _ hb))
  · have g1 := e1 _ _ hS
    refine q_setL (j := 2) g1 (ev_addI (i2 g1 (ev_var rfl) ev_c) ev_c) (ev_var rfl) ev_c (by show 2 < 3; decide) fun H2 e2 => ?_
    have g2 : (upd H2 a (.lst ([V.int s0, .int s1, .int s2].set 2 (.int (s2 + 1))))) a = some (.lst [.int s0, .int s1, .int (s2 + 1)]) := upd_same
    have z2 : (s2 + 1).natAbs < 2 ^ 20 := by omega
    have p1 : (s1 + 40503 * (s2 + 1) * (s2 + 1) + 11).natAbs < 2 ^ 223 := by
      have a1 := wide_lt (a := 16) (b := 20) (show (40503 : Int).natAbs < 2 ^ 16 by decide) z2
      have a2 := wide_lt (a := 36) (b := 20) a1 z2
      have a3 : (40503 * (s2 + 1) * (s2 + 1) + 11).natAbs < 2 ^ 220 := by omega
      have a4 := add_lt_pow h1' a3
      rw [Int.add_assoc]
      exact Nat.lt_of_lt_of_le a4 (two_pow_le (by omega))
    refine q_asg (ev_modI (ev_powI (ev_addI (ev_addI (i1 g2 (ev_var rfl) ev_c) (ev_mulI (ev_mulI ev_c (i2 g2 (ev_var rfl) ev_c) (wide_mul' (a := 16) (b := 20) (by decide) z2 (by omega))) (i2 g2 (ev_var rfl) ev_c) (wide_mul' (a := 36) (b := 20) (wide_lt (a := 16) (b := 20) (by decide) z2) z2 (by omega)))) ev_c) ev_c (cpow_of (a := 223) p1 (by omega) (by omega) (by decide))) ev_c (by decide)) fun H3 e3 => ?_
    have g3 := e3 _ _ g2
    generalize hm1 : (s1 + 40503 * (s2 + 1) * (s2 + 1) + 11) ^ (Int.toNat 3) % 2305843009213693951 = m1
    have m1a : 0 ≤ m1 := by rw [← hm1]; exact Int.emod_nonneg _ (by decide)
    have m1b : m1 < 2305843009213693951 := by rw [← hm1]; exact Int.emod_lt_of_pos _ (by decide)
    have p2 : (m1 + 69621 * (s2 + 1)).natAbs < 2 ^ 62 := by omega
    refine q_asg (ev_modI (ev_powI (ev_addI (ev_var rfl) (ev_mulI ev_c (i2 g3 (ev_var rfl) ev_c) (wide_mul' (a := 17) (b := 20) (by decide) z2 (by omega)))) ev_c (cpow_of (a := 62) p2 (by omega) (by omega) (by decide))) ev_c (by decide)) fun H4 e4 => ?_
    refine s_ret (ev_modI (ev_divI (ev_var rfl) ev_c (wide_div (b := 17) (by decide) (by decide) (by omega) (by omega))) (ev_var rfl) (by omega)) fun H5 e5 => ?_
    refine q _ H5 (Int.emod_nonneg _ (by omega)) (Int.emod_lt_of_pos _ (by omega)) ⟨⟨s0, s1, s2 + 1, e5 _ _ (e4 _ _ g3), h1, h1', by omega, by omega⟩, fun b o hba hb => e5 _ _ (e4 _ _ (e3 _ _ ?_))⟩
    rw [upd_ne hba]
    exact e2 _ _ (e1 _ _ hb)
theorem dr_draw {a : Addr} {n : Nat} {lim : Int} (hS : Src a n H) (hn : n < 1000000) (hl : 1 ≤ lim) (hl' : lim.natAbs < 2 ^ 220) (k : ∀ d H', 0 ≤ d → d < lim → Stp a (n + 1) H H' → Q (.int d) H') : sp_draw K [.ref a, .int lim] H Q E := ⟨a, n, lim, rfl, hS, hn, hl, hl', k⟩
theorem c_draw {σ : L2.St} {ta tb : TE} {a : Addr} {n : Nat} {lim : Int} (ha : Ev ta σ H (.ref a)) (hb : Ev tb σ H (.int lim)) (hS : Src a n H) (hn : n < 1000000) (hl : 1 ≤ lim) (hl' : lim.natAbs < 2 ^ 220)
    (k : ∀ d H', 0 ≤ d → d < lim → Stp a (n + 1) H H' → Q (.int d) H') : tCall (sp_draw K) [] E0 (tCons ta (tCons tb tNil)) σ H Q :=
  (ea_cons ha (ea_cons hb ea_nil)) H (Ex.refl H) _ fun H1 e1 => dr_draw (hS.ex e1) hn hl hl' fun d H' d0 d1 s => k d H' d0 d1 ((hS.stp e1).next s)
theorem o_op {σ : L2.St} {ta tb : TE} {x : V} {r : R2} (ha : Ev ta σ H x) (k : ∀ H1, Ex H H1 → tb σ H1 fun y H2 => r x y H2 Q) : tOp r ta tb σ H Q := ha H (Ex.refl H) _ k
theorem q_asgX {σ : L2.St} {te : TE} {tz : TS} {D : Ends} {i : Nat} (h : te σ H fun x H1 => tz D (σ.set i (some x)) H1) : tSeq (tAsg te (gName i)) tz D σ H := h
theorem s_asgX {σ : L2.St} {te : TE} {D : Ends} {i : Nat} (h : te σ H fun x H1 => D.nx (σ.set i (some x)) H1) : tAsg te (gName i) D σ H := h
theorem s_retX {σ : L2.St} {te : TE} {D : Ends} (h : te σ H D.rt) : tRet te D σ H := h
theorem q_stX {σ : L2.St} {t tz : TS} {D : Ends} (h : t { D with nx := tz D } σ H) : tSeq t tz D σ H := h
theorem o_consV {σ : L2.St} {ta : TE} {tr : TA} {x : V} {Q : List V → Hp → Prop} (ha : Ev ta σ H x) (k : ∀ H1, Ex H H1 → tr σ H1 fun xs H2 => Q (x :: xs) H2) : tCons ta tr σ H Q := ha H (Ex.refl H) _ k
theorem o_consX {σ : L2.St} {ta : TE} {tr : TA} {Q : List V → Hp → Prop} (h : ta σ H fun x H1 => tr σ H1 fun xs H2 => Q (x :: xs) H2) : tCons ta tr σ H Q := h
theorem o_nil {σ : L2.St} {Q : List V → Hp → Prop} (q : Q [] H) : tNil σ H Q := q
theorem o_call {σ : L2.St} {sp : Sp} {ta : TA} (h : ta σ H fun vs H1 => sp vs H1 Q E) : tCall sp [] E ta σ H Q := by
  show ta σ H fun vs H1 => sp (vs ++ []) H1 Q E
  simp only [List.append_nil]
  exact h
theorem o_opX {σ : L2.St} {ta tb : TE} {r : R2} (h : ta σ H fun x H1 => tb σ H1 fun y H2 => r x y H2 Q) : tOp r ta tb σ H Q := h
theorem o_lst {σ : L2.St} {ta : TA} {vs : List V} (ha : EvA ta σ H vs) (hz : vs.length ≤ 100000) (k : ∀ p H1, H p = none → Ex H H1 → H1 p = some (.lst vs) → Q (.ref p) H1) : tLst ta σ H Q := (el_lst ha hz) H (Ex.refl H) _ fun p H1 hp e h => k p H1 hp e h
theorem o_tup {σ : L2.St} {ta : TA} {vs : List V} (ha : EvA ta σ H vs) (hz : vs.length ≤ 100000) (k : ∀ p H1, H p = none → Ex H H1 → H1 p = some (.tup vs) → Q (.ref p) H1) : tTup ta σ H Q := (eu_tup ha hz) H (Ex.refl H) _ fun p H1 hp e h => k p H1 hp e h
/-- a drawn item of a display of three values that hold R -/
theorem o_pick3 {σ : L2.St} {ta : TA} {ts : TE} {x y z : V} {a : Addr} {n : Nat} {R : V → Prop} (ha : EvA ta σ H [x, y, z]) (hs : ∀ H1, Ex H H1 → Ev ts σ H1 (.ref a)) (hS : Src a n H) (hn : n < 1000000) (hx : R x) (hy : R y) (hz : R z)
    (k : ∀ v H', R v → Stp a (n + 1) H H' → Q v H') : tOp (rIxL K) (tLst ta) (tCall (sp_draw K) [] E0 (tCons ts (tCons (tC (.int 3)) tNil))) σ H Q := by
  refine o_opX (o_lst ha (by show 3 ≤ 100000; decide) fun p H1 hp e1 h1 => ?_)
  refine c_draw (hs H1 e1) ev_c (hS.ex e1) hn (by decide) (by decide) fun d H2 d0 d1 s => ?_
  have h2 : H2 p = some (.lst [x, y, z]) := s.here (hS.ne hp) h1
  have : d = 0 ∨ d = 1 ∨ d = 2 := by omega
  rcases this with h | h | h
  · subst h; exact ⟨p, _, 0, x, rfl, rfl, .inl (.inl h2), rfl, k _ _ hx ((hS.stp e1).next s)⟩
  · subst h; exact ⟨p, _, 1, y, rfl, rfl, .inl (.inl h2), rfl, k _ _ hy ((hS.stp e1).next s)⟩
  · subst h; exact ⟨p, _, 2, z, rfl, rfl, .inl (.inl h2), rfl, k _ _ hz ((hS.stp e1).next s)⟩
/-! open_source -/
def sp_openSource (K : PySem.W.Frag) : Sp := fun vs H Q _ => ∃ (a : Addr) (ns : List Int) (k : Int), vs = [.ref a, .int k] ∧ SqL K H a (ns.map V.int) ∧ 0 ≤ k ∧ ∀ p H', H p = none → Ex H H' → Src p 0 H' → Q (.ref p) H'
theorem ln_openSource (h : sp_openSource K vs H Q E) : vs.length = (["script", "k"] : List Str).length := by obtain ⟨a, n, l, rfl, _⟩ := h; rfl
abbrev N_openSource : List Str := ["script", "k", "cell"]
def t_openSource (K : PySem.W.Frag) : TS :=
  (tSeq (tAsg (tC (.int 0)) (gName 2))
    (tSeq (tIfS (tTest (tOp rLtI (tVar 1) (tCB (Evl.rLenS K) (tCons (tVar 0) tNil)))) (tAsg (tOp (rIxL K) (tVar 0) (tVar 1)) (gName 2)) tNext)
    (tRet (tLst (tCons (tCB Evl.rMax2 (tCons (tC (.int 0)) (tCons (tOp rSubI (tVar 2) (tOp rPowI (tC (.int 10)) (tC (.int 18)))) tNil))) (tCons (tOp rAddI (tOp rMulI (tOp rModI (tVar 2) (tOp rAddI (tOp rPowI (tC (.int 10)) (tC (.int 60))) (tC (.int 7)))) (tC (.int 64))) (tOp rModI (tVar 1) (tC (.int 64)))) (tCons (tC (.int 0)) tNil)))))))
theorem rd_openSource (h : sp_openSource K vs H Q E) : t_openSource K (fin Q) (start N_openSource vs) H := by
  obtain ⟨a, ns, k, rfl, hS, hk, q⟩ := h
  refine q_asg ev_c fun H1 e1 => ?_
  have done : ∀ (c : Int) H2, Ex H H2 → (tRet (tLst (tCons (tCB Evl.rMax2 (tCons (tC (.int 0)) (tCons (tOp rSubI (tVar 2) (tOp rPowI (tC (.int 10)) (tC (.int 18)))) tNil))) (tCons (tOp rAddI (tOp rMulI (tOp rModI (tVar 2) (tOp rAddI (tOp rPowI (tC (.int 10)) (tC (.int 60))) (tC (.int 7)))) (tC (.int 64))) (tOp rModI (tVar 1) (tC (.int 64)))) (tCons (tC (.int 0)) tNil))))) (fin Q) [some (.ref a), some (.int k), some (.int c)] H2 := fun c H2 e2 => by
    have c10 : ∀ j : Int, 0 ≤ j → j ≤ 100 → CPowW 10 j := fun j h0 h1 => cpow_of (a := 4) (by decide) (by omega) h0 (by omega)
    have hp : (0 : Int) < 10 ^ (Int.toNat 60) + 7 := by decide
    have m0 := Int.emod_nonneg c (b := 10 ^ (Int.toNat 60) + 7) (by decide)
    have m1 := Int.emod_lt_of_pos c hp
    have m2 : (c % (10 ^ (Int.toNat 60) + 7)).natAbs < 2 ^ 201 := small_pow m0 (Int.lt_trans m1 (by decide))
    have k0 := Int.emod_nonneg k (b := 64) (by decide)
    have k1 := Int.emod_lt_of_pos k (b := 64) (by decide)
    refine s_retL (el_lst (ea_cons (ev_max2 ev_c (ev_subI (ev_var rfl) (ev_powI ev_c ev_c (c10 _ (by decide) (by decide))))) (ea_cons (ev_addI (ev_mulI (ev_modI (ev_var rfl) (ev_addI (ev_powI ev_c ev_c (c10 _ (by decide) (by decide))) ev_c) hp) ev_c (wide_mul' (a := 201) (b := 7) m2 (by decide) (by omega))) (ev_modI (ev_var rfl) ev_c (by decide))) (ea_cons ev_c ea_nil))) (by show 3 ≤ 100000; decide)) fun p H3 hp3 e3 h3 => ?_
    refine q p H3 (fresh_back e2 hp3) (e2.trans e3) ⟨_, _, _, h3, ?_, ?_, by decide, by decide⟩
    · omega
    · have a1 := wide_lt (a := 201) (b := 7) m2 (show (64 : Int).natAbs < 2 ^ 7 by decide)
      have a2 := add_lt_pow a1 (show (k % 64).natAbs < 2 ^ 208 by omega)
      exact Nat.lt_of_lt_of_le a2 (two_pow_le (by omega))
  have ln : Ev (tCB (rLenS K) (tCons (tVar 0) tNil)) [some (.ref a), some (.int k), some (.int 0)] H1 (.int (ns.length : Int)) := by
    have := ev_len (K := K) (σ := [some (.ref a), some (.int k), some (.int 0)]) (ta := tVar 0) (ev_var rfl) (ex_l e1 hS)
    rw [List.length_map] at this
    exact this
  refine q_when (et_test (ev_ltI (ev_var rfl) ln)) (fun hb H2 e2 => ?_) (fun hb H2 e2 => done 0 H2 (e1.trans e2))
  have hb' := of_decide_eq_true hb
  have hg : ns[k.toNat]? = some (ns.getD k.toNat 0) := getD_some (by omega)
  refine s_asg (v := .int (ns.getD k.toNat 0)) (ev_op (ev_var rfl) (ev_var rfl) (rv_ixL (ex_l (e1.trans e2) hS) ?_)) fun H3 e3 => done _ H3 ((e1.trans e2).trans e3)
  rw [show k = ((k.toNat : Nat) : Int) by omega]
  exact atI_nat (by rw [List.getElem?_map, Int.toNat_natCast, hg]; rfl)
/-! divisor -/
def sp_divisor (K : PySem.W.Frag) : Sp := fun vs H Q _ => ∃ x y, vs = [.int x, .int y] ∧ 0 ≤ x ∧ 0 ≤ y ∧ RetV (.int ((Int.gcd x y : Nat) : Int)) H Q
theorem ln_divisor (h : sp_divisor K vs H Q E) : vs.length = (["one", "other"] : List Str).length := by obtain ⟨a, n, rfl, _⟩ := h; rfl
abbrev N_divisor : List Str := ["one", "other"]
def t_divisor (K : PySem.W.Frag) : TS :=
  (tSeq (tWhile (tTest (tOp rGtI (tVar 1) (tC (.int 0)))) (tPar 0 1 (tCons (tVar 1) (tCons (tOp rModI (tVar 0) (tVar 1)) tNil))))
    (tRet (tVar 0)))
theorem gcd_step {x y : Int} (hy : 0 < y) : Int.gcd y (x % y) = Int.gcd x y := by
  have e : x % y + y * (x / y) = x := Int.emod_add_mul_ediv x y
  apply Nat.dvd_antisymm
  · refine Int.natCast_dvd_natCast.mp (Int.dvd_coe_gcd ?_ (Int.gcd_dvd_left ..))
    have h1 := Int.gcd_dvd_right y (x % y)
    have h2 := Int.dvd_mul_of_dvd_left (c := x / y) (Int.gcd_dvd_left y (x % y))
    have h3 := Int.dvd_add h1 h2
    rw [e] at h3
    exact h3
  · refine Int.natCast_dvd_natCast.mp (Int.dvd_coe_gcd (Int.gcd_dvd_right ..) ?_)
    have h1 := Int.gcd_dvd_left x y
    have h2 := Int.dvd_mul_of_dvd_left (c := x / y) (Int.gcd_dvd_right x y)
    have h3 := Int.dvd_sub h1 h2
    rw [show x - y * (x / y) = x % y by omega] at h3
    exact h3
theorem rd_divisor (h : sp_divisor K vs H Q E) : t_divisor K (fin Q) (start N_divisor vs) H := by
  obtain ⟨x, y, rfl, hx, hy, q⟩ := h
  refine q_while (fun m σ H' => ∃ u v : Int, σ = [some (.int u), some (.int v)] ∧ 0 ≤ u ∧ 0 ≤ v ∧ v.toNat = m ∧ Int.gcd u v = Int.gcd x y ∧ Ex H H') y.toNat ⟨x, y, rfl, hx, hy, rfl, rfl, Ex.refl H⟩ ?_
  rintro m σ' H' ⟨u, v, rfl, hu, hv, hm, hg, e⟩
  refine ⟨decide (0 < v), et_test (ev_gtI (ev_var rfl) ev_c), fun hb H1 e1 => ?_, fun hb H1 e1 => ?_⟩
  · have hv' := of_decide_eq_true hb
    have r0 := Int.emod_nonneg u (b := v) (by omega)
    have r1 := Int.emod_lt_of_pos u hv'
    refine ⟨fun σ2 H2 => σ2 = [some (.int v), some (.int (u % v))] ∧ Ex H H2, ?_, ?_⟩
    · rintro σ2 H2 ⟨rfl, e2⟩
      exact ⟨(u % v).toNat, by omega, v, u % v, rfl, by omega, r0, rfl, by rw [gcd_step hv', hg], e2⟩
    · refine ⟨_, rfl, ?_⟩
      exact (ev_modI (ev_var rfl) (ev_var rfl) hv') H1 (Ex.refl H1) _ fun H2 e2 => ⟨_, _, rfl, rfl, (e.trans e1).trans e2⟩
  · have hv' : ¬ 0 < v := of_decide_eq_false hb
    have : v = 0 := by omega
    subst this
    rw [Int.gcd_zero_right] at hg
    refine s_ret (ev_var rfl) fun H2 e2 => ?_
    have := q H2 ((e.trans e1).trans e2)
    rw [← hg] at this
    rwa [Int.natAbs_of_nonneg hu] at this
theorem spv_divisor {x y : Int} (hx : 0 ≤ x) (hy : 0 ≤ y) : SpV (sp_divisor K) [.int x, .int y] H (.int ((Int.gcd x y : Nat) : Int)) := spv_of fun _ e _ _ q => ⟨x, y, rfl, hx, hy, q⟩
end
end SL

namespace SL
open PySem PySem.Spec PyProof.Rows L2 Evl
section
variable {K : PySem.W.Frag} {vs : List V} {H : Hp} {Q : VK} {E : XK}
/-! plain -/
def sp_plain (K : PySem.W.Frag) : Sp := fun vs H Q _ => ∃ (a : Addr) (ns : List Int) (k : Nat), vs = [.ref a] ∧ LI H a ns ∧ (∀ x ∈ ns, 0 ≤ x) ∧ ns.length ≤ 40000 ∧ 0 < gcdL ns ∧ (gcdL ns).natAbs < 2 ^ k ∧ k < 9000 ∧ RetL ((red ns).map V.int) H Q
theorem ln_plain (h : sp_plain K vs H Q E) : vs.length = (["numbers"] : List Str).length := by obtain ⟨a, ns, k, rfl, _⟩ := h; rfl
abbrev N_plain : List Str := ["numbers", "shared", "number"]
def t_plain (K : PySem.W.Frag) : TS :=
  (tSeq (tAsg (tC (.int 0)) (gName 1))
    (tSeq (tFor (iList K (tVar 0)) (gName 2) (tAsg (tCall (sp_divisor K) [] E0 (tCons (tVar 1) (tCons (tVar 2) tNil))) (gName 1)))
    (tRet (tLc (iList K (tVar 0)) (gName 2) tYes (tOp rDivI (tVar 2) (tVar 1)) [2]))))
theorem gcdL_nn' (ns : List Int) : 0 ≤ gcdL ns := gcdL_nn ns
theorem rd_plain (h : sp_plain K vs H Q E) : t_plain K (fin Q) (start N_plain vs) H := by
  obtain ⟨a, ns, k, rfl, hL, hp, hz, hg, hk, h9, q⟩ := h
  refine q_asg ev_c fun H1 e1 => ?_
  refine q_forLn (xs := ns.map V.int) (ev_var rfl) (hL.ex e1).sq (fun i σ H' => ∃ y, σ = [some (.ref a), some (.int (gcdL (ns.take i))), y] ∧ Ex H H') (fun H2 e2 => ⟨_, rfl, e1.trans e2⟩) (fun i σ' H' _ ⟨y, _, e⟩ => (hL.ex e).sq) ?_ ?_
  · rintro i x σ' H' hi ⟨y, rfl, e⟩
    obtain ⟨z, rfl, hz⟩ := int_at hi
    refine s_asg (ev_call (ea_cons (ev_var rfl) (ea_cons (ev_var rfl) ea_nil)) (spv_divisor (gcdL_nn _) (hp z (List.mem_of_getElem? hz)))) fun H2 e2 => ⟨some (.int z), ?_, e.trans e2⟩
    rw [gcdL_take hz]
    rfl
  · rintro σ' H' ⟨y, rfl, e⟩
    rw [List.length_map, List.take_length]
    refine s_retL (xs := (red ns).map V.int) ?_ fun p H2 hp e2 h2 => q p H2 (fresh_back e hp) (e.trans e2) h2
    have := el_lcI (K := K) (te := tOp rDivI (tVar 2) (tVar 1)) (j := 2) (σ := [some (.ref a), some (.int (gcdL ns)), y]) (tl := tVar 0) (fun x => .int (x / gcdL ns)) (ev_var rfl) (hL.ex e) hz fun x H2 e hx => ev_divI (ev_var rfl) (ev_var rfl) (wide_div hg (b := k + 1) (Nat.lt_of_lt_of_le hk (two_pow_le (by omega))) (by omega) (by omega))
    unfold red
    rw [List.map_map]
    exact this
theorem spl_plain {a : Addr} {ns : List Int} {k : Nat} (hL : LI H a ns) (hp : ∀ x ∈ ns, 0 ≤ x) (hz : ns.length ≤ 40000) (hg : 0 < gcdL ns) (hk : (gcdL ns).natAbs < 2 ^ k) (h9 : k < 9000) : SpL (sp_plain K) [.ref a] H ((red ns).map V.int) :=
  spl_of fun _ e _ _ q => ⟨a, ns, k, rfl, hL.ex e, hp, hz, hg, hk, h9, q⟩
/-! any -/
def sp_any (K : PySem.W.Frag) : Sp := fun vs H Q _ => ∃ (a : Addr) (n : Nat) (wide : Int), vs = [.ref a, .int wide] ∧ Src a n H ∧ n < 990000 ∧ 1 ≤ wide ∧ wide.natAbs < 2 ^ 220 ∧ ∀ d H', 0 ≤ d → d < wide → Stp a (n + 2) H H' → Q (.int d) H'
theorem ln_any (h : sp_any K vs H Q E) : vs.length = (["source", "wide"] : List Str).length := by obtain ⟨a, n, l, rfl, _⟩ := h; rfl
abbrev N_any : List Str := ["source", "wide"]
def t_any (K : PySem.W.Frag) : TS :=
  (tSeq (tIfS (tTest (tOp rLtI (tVar 1) (tOp rPowI (tC (.int 10)) (tC (.int 15))))) (tRet (tCall (sp_draw K) [] E0 (tCons (tVar 0) (tCons (tVar 1) tNil)))) tNext)
    (tRet (tOp rModI (tOp rAddI (tOp rMulI (tCall (sp_draw K) [] E0 (tCons (tVar 0) (tCons (tOp rPowI (tC (.int 10)) (tC (.int 15))) tNil))) (tOp rPowI (tC (.int 10)) (tC (.int 16)))) (tCall (sp_draw K) [] E0 (tCons (tVar 0) (tCons (tOp rPowI (tC (.int 10)) (tC (.int 16))) tNil)))) (tVar 1))))
theorem c10 : ∀ j : Int, 0 ≤ j → j ≤ 100 → CPowW 10 j := fun j h0 h1 => cpow_of (a := 4) (by decide) (by omega) h0 (by omega)
theorem rd_any (h : sp_any K vs H Q E) : t_any K (fin Q) (start N_any vs) H := by
  obtain ⟨a, n, wide, rfl, hS, hn, h1, h1', q⟩ := h
  refine q_when (et_test (ev_ltI (ev_var rfl) (ev_powI ev_c ev_c (c10 _ (by decide) (by decide))))) (fun hb H1 e1 => ?_) (fun hb H1 e1 => ?_)
  · exact c_draw (ev_var rfl) (ev_var rfl) (hS.ex e1) (by omega) h1 h1' fun d H2 d0 d1 s => q d H2 d0 d1 (((hS.stp e1).next s).mono (by omega))
  · refine c_draw (K := K) (ta := tVar 0) (lim := 10 ^ (Int.toNat 15)) (tb := tOp rPowI (tC (.int 10)) (tC (.int 15))) (ev_var rfl) (ev_powI ev_c ev_c (c10 _ (by decide) (by decide))) (hS.ex e1) (by omega) (by decide) (by decide) fun d H2 d0 d1 s => ?_
    have dz : d.natAbs < 2 ^ 50 := by
      have : (10 : Int) ^ (Int.toNat 15) = 1000000000000000 := by decide
      omega
    refine ⟨10, 16, rfl, rfl, c10 _ (by decide) (by decide), d, _, rfl, rfl, wide_mul' (a := 50) (b := 60) dz (by decide) (by omega), ?_⟩
    refine c_draw (K := K) (ta := tVar 0) (lim := 10 ^ (Int.toNat 16)) (tb := tOp rPowI (tC (.int 10)) (tC (.int 16))) (ev_var rfl) (ev_powI ev_c ev_c (c10 _ (by decide) (by decide))) s.src (by omega) (by decide) (by decide) fun d' H3 d0' d1' s' => ?_
    exact ⟨_, _, rfl, rfl, _, rfl, _, _, rfl, rfl, by omega, q _ H3 (Int.emod_nonneg _ (by omega)) (Int.emod_lt_of_pos _ (by omega)) ((hS.stp e1).next (s.next s'))⟩
theorem dr_any {a : Addr} {n : Nat} {wide : Int} (hS : Src a n H) (hn : n < 990000) (hl : 1 ≤ wide) (hl' : wide.natAbs < 2 ^ 220) (k : ∀ d H', 0 ≤ d → d < wide → Stp a (n + 2) H H' → Q (.int d) H') : sp_any K [.ref a, .int wide] H Q E := ⟨a, n, wide, rfl, hS, hn, hl, hl', k⟩
theorem c_any {σ : L2.St} {ta tb : TE} {a : Addr} {n : Nat} {lim : Int} (ha : Ev ta σ H (.ref a)) (hb : Ev tb σ H (.int lim)) (hS : Src a n H) (hn : n < 990000) (hl : 1 ≤ lim) (hl' : lim.natAbs < 2 ^ 220)
    (k : ∀ d H', 0 ≤ d → d < lim → Stp a (n + 2) H H' → Q (.int d) H') : tCall (sp_any K) [] E0 (tCons ta (tCons tb tNil)) σ H Q :=
  (ea_cons ha (ea_cons hb ea_nil)) H (Ex.refl H) _ fun H1 e1 => dr_any (hS.ex e1) hn hl hl' fun d H' d0 d1 s => k d H' d0 d1 ((hS.stp e1).next s)
/-! a comprehension over a range whose turns draw -/
theorem lc_draws {ta : TA} {j : Nat} {w : Int} {te : TE} {σ : L2.St} {a : Addr} {n c : Nat} (P : Int → Prop) (h : EvA ta σ H [.int w]) (hw0 : 0 ≤ w) (hw : w ≤ 40000) (hS : Src a n H)
    (he : ∀ (i : Nat) H1, Stp a (n + i * c) H H1 → (i : Int) < w → ∀ Q' : VK, (∀ x H2, P x → Stp a (n + (i + 1) * c) H1 H2 → Q' (.int x) H2) → te ((wipe σ [j]).set j (some (.int (i : Int)))) H1 Q')
    (q : ∀ p H2 ns, H p = none → p ≠ a → Stp a (n + w.toNat * c) H H2 → LI H2 p ns → ns.length = w.toNat → (∀ x ∈ ns, P x) → Q (.ref p) H2) : tLc (iRng1 ta) (gName j) tYes te [j] σ H Q :=
  h H (Ex.refl H) _ fun H1 e1 => ⟨w, rfl, by omega, by omega, fun D hD => by
    have hD0 : H D = none := fresh_back e1 hD
    have hDa : D ≠ a := hS.ne hD0
    refine lc_range (lo := 0) (n := w.toNat) (fun i H' => ∃ ns : List Int, ns.length = i ∧ (∀ x ∈ ns, P x) ∧ LI H' D ns ∧ Stp a (n + i * c) H H') ⟨[], rfl, fun _ h => (List.not_mem_nil h).elim, upd_same, (by have := (hS.stp e1).then (Ex.new (o := .lst []) hD); simpa using this)⟩ ?_ ?_
    · rintro i H' hi ⟨ns, hl, hP, hL, hs⟩
      refine ⟨by simp [wipe], ?_⟩
      refine iteT (B := ∃ ns : List Int, ns.length = i + 1 ∧ (∀ x ∈ ns, P x) ∧ LI H' D ns ∧ Stp a (n + (i + 1) * c) H H') ?_
      show te ((wipe σ [j]).set j (some (.int ((0 : Int) + (i : Int))))) H' _
      rw [Int.zero_add]
      refine he i H' hs (by omega) _ fun x H2 hx s2 => ⟨ns.map V.int, s2.here hDa hL, ?_, ns ++ [x], by rw [List.length_append, hl]; rfl, ?_, ?_, ?_⟩
      · rw [List.length_map, hl]
        exact sz_lt (by omega)
      · intro y hy
        rcases List.mem_append.mp hy with h | h
        · exact hP y h
        · rw [List.mem_singleton.mp h]
          exact hx
      · show upd H2 D _ D = _
        rw [upd_same, List.map_append]
        rfl
      · have s3 := hs.next s2
        refine ⟨?_, fun b o hb hbo => ?_⟩
        · obtain ⟨u0, u1, u2, g, g'⟩ := s3.src
          exact ⟨u0, u1, u2, by rw [upd_ne (Ne.symm hDa)]; exact g, g'⟩
        · rw [upd_ne (ne_of_none hbo hD0)]
          exact s3.ex b o hb hbo
    · rintro H' ⟨ns, hl, hP, hL, hs⟩
      exact q D H' ns hD0 hDa hs hL hl hP⟩
/-! weights -/
def IsS (K : PySem.W.Frag) (xs : List V) : V → Hp → Prop := fun v H => ∃ p, v = .ref p ∧ SqL K H p xs
theorem stS {xs : List V} : Stable (IsS K xs) := fun _ _ _ e ⟨p, h, q⟩ => ⟨p, h, ex_l e q⟩
theorem xS {σ : L2.St} {te : TE} {xs : List V} {p : Addr} (h : Ev te σ H (.ref p)) (hp : SqL K H p xs) : EvX te σ H (IsS K xs) := fun H1 e Q q => h H1 e Q fun H2 e2 => q _ H2 e2 ⟨p, rfl, ex_l (e.trans e2) hp⟩
theorem ev_eqS {σ : L2.St} {ta tb : TE} {ns ms : List Int} (ha : EvX ta σ H (IsS K (ns.map V.int))) (hb : EvX tb σ H (IsL (ms.map V.int))) : Ev (tOp (rEqD K) ta tb) σ H (.bl (decide (ns = ms))) :=
  ev_opX ha stS hb fun x y H1 _ ⟨p, ex, hp⟩ ⟨q, ey, hq⟩ H2 e2 Q k => by
    subst ex ey
    refine ⟨_, _, .lst (ex_l e2 hp) (dpAll_ints ns), dp_ints (e2 _ _ hq), shaped_ints ns, shaped_ints ms, ?_⟩
    rw [show PyData.eqv (.list (ns.map PyData.int)) (.list (ms.map PyData.int)) = decide (ns = ms) by rw [PyData.eqv, eqvAll_ints]]
    exact k H2 (Ex.refl H2)
def sp_weights (K : PySem.W.Frag) : Sp := fun vs H Q _ => ∃ (a : Addr) (n : Nat) (w wide : Int) (k : Nat), vs = [.ref a, .int w, .int wide] ∧ Src a n H ∧ n < 900000 ∧ 2 ≤ w ∧ w ≤ 8 ∧ 1 ≤ wide ∧ wide.natAbs < 2 ^ k ∧ k ≤ 220 ∧
  ∀ p H' ns, H p = none → p ≠ a → Stp a (n + 20) H H' → LI H' p ns → IsRow ns → (ns.length : Int) = w → Sz k ns → Q (.ref p) H'
theorem ln_weights (h : sp_weights K vs H Q E) : vs.length = (["source", "width", "wide"] : List Str).length := by obtain ⟨a, n, l, w, k, rfl, _⟩ := h; rfl
abbrev N_weights : List Str := ["source", "width", "wide", "found", "way", "spot"]
def t_weights (K : PySem.W.Frag) : TS :=
  (tSeq (tAsg (tLc (iRng1 (tCons (tVar 1) tNil)) (gName 5) tYes (tOp rAddI (tC (.int 1)) (tCall (sp_any K) [] E0 (tCons (tVar 0) (tCons (tVar 2) tNil)))) [5]) (gName 3))
    (tSeq (tAsg (tCall (sp_draw K) [] E0 (tCons (tVar 0) (tCons (tC (.int 5)) tNil))) (gName 4))
    (tSeq (tIfS (tTest (tOp rEq (tVar 4) (tC (.int 0)))) (tAsg (tOp rRep (tLst (tCons (tC (.int 1)) tNil)) (tVar 1)) (gName 3)) tNext)
    (tSeq (tIfS (tTest (tOp rEq (tVar 4) (tC (.int 1)))) (tAsg (tVar 2) (gSub (tVar 3) (tCall (sp_draw K) [] E0 (tCons (tVar 0) (tCons (tVar 1) tNil))) rSetL)) tNext)
    (tRet (tCall (sp_plain K) [] E0 (tCons (tVar 3) tNil)))))))
theorem flat_one (n : Nat) : (List.replicate n [V.int 1]).flatten = (List.replicate n (1 : Int)).map V.int := by
  induction n with
  | zero => rfl
  | succ n ih => rw [List.replicate_succ, List.replicate_succ, List.flatten_cons, ih]; rfl
theorem rd_weights (h : sp_weights K vs H Q E) : t_weights K (fin Q) (start N_weights vs) H := by
  obtain ⟨a, n, w, wide, k, rfl, hS, hn, hw2, hw8, h1, h1', hk, q⟩ := h
  have hwd : wide.natAbs < 2 ^ 220 := Nat.lt_of_lt_of_le h1' (two_pow_le hk)
  -- the drawn ones
  refine q_asgX ?_
  refine lc_draws (c := 2) (w := w) (fun x => 1 ≤ x ∧ x ≤ wide) ?_ (by omega) (by omega) hS (fun i H1 s1 hi Q' q' => ?_) fun p H2 ns hp hpa s2 hL hl hP => ?_
  · exact ea_cons (ev_var rfl) ea_nil
  · refine o_op ev_c fun H1' e1 => c_any (ev_var rfl) (ev_var rfl) (s1.src.ex e1) (by omega) h1 hwd fun d H3 d0 d1 s3 => ?_
    exact ⟨_, _, rfl, rfl, q' _ H3 ⟨by omega, by omega⟩ (((s1.src.stp e1).next s3).mono (by rw [Nat.add_mul]; omega))⟩
  have s2 : Stp a (n + 16) H H2 := s2.mono (by omega)
  -- way
  refine c_draw (K := K) (ta := tVar 0) (tb := tC (.int 5)) (ev_var rfl) ev_c s2.src (by omega) (by decide) (by decide) fun way H3 w0 w1 s3 => ?_
  have s3' := s2.next s3
  have hL3 : LI H3 p ns := s3.here hpa hL
  -- behind the two ifs: a list of numbers from 1 to wide
  have last : ∀ (p' : Addr) (H' : Hp) (ns' : List Int) (z : Option V), H p' = none → p' ≠ a → Stp a (n + 20) H H' → LI H' p' ns' → (ns'.length : Int) = w → (∀ x ∈ ns', 1 ≤ x ∧ x ≤ wide) →
      (tRet (tCall (sp_plain K) [] E0 (tCons (tVar 3) tNil))) (fin Q) [some (.ref a), some (.int w), some (.int wide), some (.ref p'), some (.int way), z] H' := by
    intro p' H' ns' z hp' hpa' s' hL' hl' hP'
    have hz : Sz k ns' := fun x hx => by have := hP' x hx; omega
    have hpos : ∀ x ∈ ns', 1 ≤ x := fun x hx => (hP' x hx).1
    obtain ⟨g1, g2⟩ := gcdL_lt hz hpos (by omega)
    have hnn : ∀ x ∈ ns', (0 : Int) ≤ x := fun x hx => by have := hpos x hx; omega
    refine s_retL (el_call (ea_cons (ev_var rfl) ea_nil) (spl_plain (k := k) hL' hnn (by omega) g1 g2 (by omega))) fun p2 H4 hp2 e4 h4 => ?_
    have := hS
    exact q p2 H4 (red ns') (s'.free hS hp2) (s'.src.ne hp2) (s'.then e4) h4 (isRow_red (by omega) (by omega) hpos) (by rw [red_len]; exact hl') (red_sz hz)
  have mid : ∀ (p' : Addr) (H' : Hp) (ns' : List Int) (z : Option V), H p' = none → p' ≠ a → Stp a (n + 17) H H' → LI H' p' ns' → (ns'.length : Int) = w → (∀ x ∈ ns', 1 ≤ x ∧ x ≤ wide) →
      (tSeq (tIfS (tTest (tOp rEq (tVar 4) (tC (.int 1)))) (tAsg (tVar 2) (gSub (tVar 3) (tCall (sp_draw K) [] E0 (tCons (tVar 0) (tCons (tVar 1) tNil))) rSetL)) tNext)
        (tRet (tCall (sp_plain K) [] E0 (tCons (tVar 3) tNil)))) (fin Q) [some (.ref a), some (.int w), some (.int wide), some (.ref p'), some (.int way), z] H' := by
    intro p' H' ns' z hp' hpa' s' hL' hl' hP'
    refine q_when (et_test (ev_eqI (ev_var rfl) ev_c)) (fun hb H4 e4 => ?_) fun hb H4 e4 => last p' H4 ns' z hp' hpa' ((s'.then e4).mono (by omega)) (hL'.ex e4) hl' hP'
    refine ⟨_, rfl, _, rfl, ?_⟩
    refine c_draw (K := K) (ta := tVar 0) (tb := tVar 1) (ev_var rfl) (ev_var rfl) (s'.then e4).src (by omega) (by omega) (by omega) fun d H5 d0 d1 s5 => ?_
    have hL5 : LI H5 p' ns' := s5.here hpa' (hL'.ex e4)
    refine ⟨p', ns'.map V.int, d, d.toNat, rfl, rfl, hL5, ?_, ?_⟩
    · rw [show d = ((d.toNat : Nat) : Int) by omega]
      rw [Int.toNat_natCast]
      exact ixN_nat (by rw [List.length_map]; omega)
    · have s6 := (s'.then e4).next s5
      refine last p' _ (ns'.set d.toNat wide) z hp' hpa' ⟨?_, fun b o hb hbo => ?_⟩ ?_ (by rw [List.length_set]; exact hl') ?_
      · obtain ⟨u0, u1, u2, g, g1, g2, g3, g4⟩ := s6.src
        exact ⟨u0, u1, u2, by rw [upd_ne (Ne.symm hpa')]; exact g, g1, g2, g3, by omega⟩
      · rw [upd_ne (ne_of_none hbo hp')]
        exact s6.ex b o hb hbo
      · show upd H5 p' _ p' = _
        rw [upd_same, List.map_set]
      · intro x hx
        rcases List.mem_or_eq_of_mem_set hx with h | h
        · exact hP' x h
        · omega
  refine q_when (et_test (ev_eqI (ev_var rfl) ev_c)) (fun hb H4 e4 => ?_) fun hb H4 e4 => mid p H4 ns _ hp hpa ((s3'.then e4).mono (by omega)) (hL3.ex e4) (by omega) hP
  refine ⟨by show 1 ≤ sizeLine; decide, fun p1 hp1 => ⟨_, rfl, p1, w, _, rfl, rfl, upd_same, by omega, by omega, sz_of (by show 1 * w.toNat ≤ 100000; omega), fun p2 hp2 => ?_⟩⟩
  have s4 : Stp a (n + 17) H H4 := (s3'.then e4).mono (by omega)
  have s5 := s4.new (o := .lst [.int 1]) hp1
  refine mid p2 _ (List.replicate w.toNat 1) _ (s5.free hS hp2) (s5.src.ne hp2) (s5.new hp2) ?_ (by rw [List.length_replicate]; omega) ?_
  · show upd _ p2 _ p2 = _
    rw [upd_same, flat_one]
  · intro x hx
    rw [(List.mem_replicate.mp hx).2]
    omega
theorem dr_weights {a : Addr} {n : Nat} {w wide : Int} {k : Nat} (hS : Src a n H) (hn : n < 900000) (hw2 : 2 ≤ w) (hw8 : w ≤ 8) (h1 : 1 ≤ wide) (h1' : wide.natAbs < 2 ^ k) (hk : k ≤ 220)
    (q : ∀ p H' ns, H p = none → p ≠ a → Stp a (n + 20) H H' → LI H' p ns → IsRow ns → (ns.length : Int) = w → Sz k ns → Q (.ref p) H') : sp_weights K [.ref a, .int w, .int wide] H Q E := ⟨a, n, w, wide, k, rfl, hS, hn, hw2, hw8, h1, h1', hk, q⟩
/-! width -/
def sp_width (K : PySem.W.Frag) : Sp := fun vs H Q _ => ∃ (a c : Addr) (n : Nat) (ns : List Int), vs = [.ref a, .ref c] ∧ Src a n H ∧ n < 900000 ∧ SqL K H c (ns.map V.int) ∧ ∀ w H', 2 ≤ w → w ≤ 8 → (ns = [] → w = 3) → Stp a (n + 2) H H' → Q (.int w) H'
theorem ln_width (h : sp_width K vs H Q E) : vs.length = (["source", "script"] : List Str).length := by obtain ⟨a, n, l, w, rfl, _⟩ := h; rfl
abbrev N_width : List Str := ["source", "script"]
def t_width (K : PySem.W.Frag) : TS :=
  (tRet (tIf (tTest (tOp (rEqD K) (tVar 1) (tLst tNil))) (tC (.int 3)) (tOp (rIxL K) (tLst (tCons (tOp rAddI (tC (.int 2)) (tCall (sp_draw K) [] E0 (tCons (tVar 0) (tCons (tC (.int 7)) tNil)))) (tCons (tC (.int 3)) (tCons (tC (.int 8)) tNil)))) (tCall (sp_draw K) [] E0 (tCons (tVar 0) (tCons (tC (.int 3)) tNil))))))
/-- an item of a display of three, drawn -/
theorem at3 {x y z : V} {d : Int} {R : V → Prop} (d0 : 0 ≤ d) (d1 : d < 3) (hx : R x) (hy : R y) (hz : R z) : ∃ v, atI [x, y, z] d = some v ∧ R v := by
  have : d = 0 ∨ d = 1 ∨ d = 2 := by omega
  rcases this with h | h | h
  · subst h; exact ⟨x, rfl, hx⟩
  · subst h; exact ⟨y, rfl, hy⟩
  · subst h; exact ⟨z, rfl, hz⟩
theorem rd_width (h : sp_width K vs H Q E) : t_width K (fin Q) (start N_width vs) H := by
  obtain ⟨a, c, n, ns, rfl, hS, hn, hc, q⟩ := h
  refine (et_test (ev_eqS (K := K) (ns := ns) (ms := []) (xS (ev_var rfl) hc) (xL (el_lst ea_nil (by show 0 ≤ 100000; decide))))) H (Ex.refl H) _ fun H1 e1 => ?_
  refine ite2 (fun hb => ?_) fun hb => ?_
  · exact q 3 H1 (by decide) (by decide) (fun _ => rfl) ((hS.stp e1).mono (by omega))
  · have hne : ns ≠ [] := fun z => hb (decide_eq_true z)
    refine c_draw (K := K) (ta := tVar 0) (tb := tC (.int 7)) (ev_var rfl) ev_c (hS.ex e1) (by omega) (by decide) (by decide) fun d H2 d0 d1 s2 => ?_
    refine ⟨_, _, rfl, rfl, by show 3 ≤ sizeLine; decide, fun p hp => ?_⟩
    refine c_draw (K := K) (ta := tVar 0) (tb := tC (.int 3)) (ev_var rfl) ev_c (s2.new hp).src (by omega) (by decide) (by decide) fun d' H3 d0' d1' s3 => ?_
    obtain ⟨v, hv, w, rfl, hw1, hw2⟩ := at3 (x := .int (2 + d)) (y := .int 3) (z := .int 8) (R := fun v => ∃ w : Int, v = .int w ∧ 2 ≤ w ∧ w ≤ 8) d0' d1' ⟨_, rfl, by omega, by omega⟩ ⟨_, rfl, by decide, by decide⟩ ⟨_, rfl, by decide, by decide⟩
    refine ⟨p, _, d', _, rfl, rfl, .inl (.inl (s3.here ((s2.src).ne hp) upd_same)), hv, ?_⟩
    exact q w H3 hw1 hw2 (fun z => absurd z hne) ((hS.stp e1).next ((s2.new hp).next s3))
theorem dr_width {a c : Addr} {n : Nat} {ns : List Int} (hS : Src a n H) (hn : n < 900000) (hc : SqL K H c (ns.map V.int)) (q : ∀ w H', 2 ≤ w → w ≤ 8 → (ns = [] → w = 3) → Stp a (n + 2) H H' → Q (.int w) H') : sp_width K [.ref a, .ref c] H Q E := ⟨a, c, n, ns, rfl, hS, hn, hc, q⟩
/-! share -/
def sp_share (K : PySem.W.Frag) : Sp := fun vs H Q _ => ∃ (a : Addr) (n : Nat) (wide : Int), vs = [.ref a, .int wide] ∧ Src a n H ∧ n < 900000 ∧ 1 ≤ wide ∧ wide.natAbs < 2 ^ 219 ∧
  ∀ p H' t b, H p = none → p ≠ a → Stp a (n + 4) H H' → H' p = some (.tup [.int t, .int b]) → 1 ≤ t → t < b → Int.gcd t b = 1 → b ≤ wide + 1 → Q (.ref p) H'
theorem ln_share (h : sp_share K vs H Q E) : vs.length = (["source", "wide"] : List Str).length := by obtain ⟨a, n, l, rfl, _⟩ := h; rfl
abbrev N_share : List Str := ["source", "wide", "below", "above", "shared"]
def t_share (K : PySem.W.Frag) : TS :=
  (tSeq (tAsg (tOp rAddI (tC (.int 2)) (tCall (sp_any K) [] E0 (tCons (tVar 0) (tCons (tVar 1) tNil)))) (gName 2))
    (tSeq (tAsg (tOp rAddI (tC (.int 1)) (tCall (sp_any K) [] E0 (tCons (tVar 0) (tCons (tOp rSubI (tVar 2) (tC (.int 1))) tNil)))) (gName 3))
    (tSeq (tAsg (tCall (sp_divisor K) [] E0 (tCons (tVar 3) (tCons (tVar 2) tNil))) (gName 4))
    (tRet (tTup (tCons (tOp rDivI (tVar 3) (tVar 4)) (tCons (tOp rDivI (tVar 2) (tVar 4)) tNil)))))))
theorem gcd_quot {x y : Int} (h : 0 < Int.gcd x y) : Int.gcd (x / ((Int.gcd x y : Nat) : Int)) (y / ((Int.gcd x y : Nat) : Int)) = 1 := by
  have gx := Int.ediv_mul_cancel (Int.gcd_dvd_left x y)
  have gy := Int.ediv_mul_cancel (Int.gcd_dvd_right x y)
  have h1 : Int.gcd (x / ((Int.gcd x y : Nat) : Int) * ((Int.gcd x y : Nat) : Int)) (y / ((Int.gcd x y : Nat) : Int) * ((Int.gcd x y : Nat) : Int)) = Int.gcd x y := by rw [gx, gy]
  rw [Int.gcd_mul_right, Int.natAbs_natCast] at h1
  exact Nat.eq_of_mul_eq_mul_right h (by rw [Nat.one_mul]; exact h1)
theorem gcd_low {x y : Int} (hx : 1 ≤ x) (hxy : x < y) : 1 ≤ x / ((Int.gcd x y : Nat) : Int) ∧ x / ((Int.gcd x y : Nat) : Int) < y / ((Int.gcd x y : Nat) : Int) ∧ Int.gcd (x / ((Int.gcd x y : Nat) : Int)) (y / ((Int.gcd x y : Nat) : Int)) = 1 ∧ y / ((Int.gcd x y : Nat) : Int) ≤ y := by
  have g0 : 0 < ((Int.gcd x y : Nat) : Int) := gcd_pos_of (by omega)
  have gx := Int.gcd_dvd_left x y
  have gy := Int.gcd_dvd_right x y
  have hle : ((Int.gcd x y : Nat) : Int) ≤ x := Int.le_of_dvd (by omega) gx
  refine ⟨(Int.le_ediv_iff_mul_le g0).mpr (by omega), ?_, ?_, Int.ediv_le_self _ (by omega)⟩
  · have h1 := Int.ediv_mul_cancel gx
    have h2 := Int.ediv_mul_cancel gy
    exact Int.lt_of_mul_lt_mul_right (a := ((Int.gcd x y : Nat) : Int)) (by omega) (by omega)
  · exact gcd_quot (by omega)
theorem rd_share (h : sp_share K vs H Q E) : t_share K (fin Q) (start N_share vs) H := by
  obtain ⟨a, n, wide, rfl, hS, hn, h1, h1', q⟩ := h
  refine c_any (K := K) (ta := tVar 0) (tb := tVar 1) (ev_var rfl) (ev_var rfl) hS (by omega) h1 (Nat.lt_of_lt_of_le h1' (two_pow_le (by omega))) fun d H1 d0 d1 s1 => ?_
  refine ⟨_, _, rfl, rfl, ?_⟩
  refine c_any (K := K) (ta := tVar 0) (tb := tOp rSubI (tVar 2) (tC (.int 1))) (lim := 2 + d - 1) (ev_var rfl) (ev_subI (ev_var rfl) ev_c) s1.src (by omega) (by omega) (by omega) fun d' H2 d0' d1' s2 => ?_
  refine ⟨_, _, rfl, rfl, ?_⟩
  refine q_asg (ev_call (ea_cons (ev_var rfl) (ea_cons (ev_var rfl) ea_nil)) (spv_divisor (x := 1 + d') (y := 2 + d) (by omega) (by omega))) fun H3 e3 => ?_
  obtain ⟨g1, g2, g3, g4⟩ := gcd_low (x := 1 + d') (y := 2 + d) (by omega) (by omega)
  have g0 : 0 < ((Int.gcd (1 + d') (2 + d) : Nat) : Int) := gcd_pos_of (by omega)
  have gle : ((Int.gcd (1 + d') (2 + d) : Nat) : Int) ≤ 1 + d' := Int.le_of_dvd (by omega) (Int.gcd_dvd_left ..)
  have hd : ∀ z, CDivW z ((Int.gcd (1 + d') (2 + d) : Nat) : Int) := fun z => wide_div g0 (b := 221) (by
    have e2 : (2 : Nat) ^ 221 = 2 ^ 219 * 4 := by decide
    omega) (by omega) (by omega)
  refine s_retU (eu_tup (ea_cons (ev_divI (ev_var rfl) (ev_var rfl) (hd _)) (ea_cons (ev_divI (ev_var rfl) (ev_var rfl) (hd _)) ea_nil)) (by show 2 ≤ 100000; decide)) fun p H4 hp e4 h4 => ?_
  have s3 := (s1.next s2).then e3
  exact q p H4 _ _ (s3.free hS hp) (s3.src.ne hp) (s3.then e4) h4 g1 g2 g3 (by omega)
theorem dr_share {a : Addr} {n : Nat} {wide : Int} (hS : Src a n H) (hn : n < 900000) (h1 : 1 ≤ wide) (h1' : wide.natAbs < 2 ^ 219)
    (q : ∀ p H' t b, H p = none → p ≠ a → Stp a (n + 4) H H' → H' p = some (.tup [.int t, .int b]) → 1 ≤ t → t < b → Int.gcd t b = 1 → b ≤ wide + 1 → Q (.ref p) H') : sp_share K [.ref a, .int wide] H Q E := ⟨a, n, wide, rfl, hS, hn, h1, h1', q⟩
/-! calls that draw, further words -/
theorem c_openSource {σ : L2.St} {ta tb : TE} {a : Addr} {ns : List Int} {k : Int} (ha : Ev ta σ H (.ref a)) (hb : Ev tb σ H (.int k)) (hS : SqL K H a (ns.map V.int)) (hk : 0 ≤ k) (q : ∀ p H', H p = none → Ex H H' → Src p 0 H' → Q (.ref p) H') :
    tCall (sp_openSource K) [] E0 (tCons ta (tCons tb tNil)) σ H Q := o_call ((ea_cons ha (ea_cons hb ea_nil)) H (Ex.refl H) _ fun H1 e1 => ⟨a, ns, k, rfl, ex_l e1 hS, hk, fun p H' hp e h => q p H' (fresh_back e1 hp) (e1.trans e) h⟩)
theorem c_width {σ : L2.St} {ta tb : TE} {a c : Addr} {n : Nat} {ns : List Int} (ha : Ev ta σ H (.ref a)) (hb : Ev tb σ H (.ref c)) (hS : Src a n H) (hn : n < 900000) (hc : SqL K H c (ns.map V.int)) (q : ∀ w H', 2 ≤ w → w ≤ 8 → (ns = [] → w = 3) → Stp a (n + 2) H H' → Q (.int w) H') :
    tCall (sp_width K) [] E0 (tCons ta (tCons tb tNil)) σ H Q := o_call ((ea_cons ha (ea_cons hb ea_nil)) H (Ex.refl H) _ fun H1 e1 => dr_width (hS.ex e1) hn (ex_l e1 hc) fun w H' h1 h2 h3 s => q w H' h1 h2 h3 ((hS.stp e1).next s))
theorem c_share {σ : L2.St} {ta tb : TE} {a : Addr} {n : Nat} {wide : Int} (ha : Ev ta σ H (.ref a)) (hb : Ev tb σ H (.int wide)) (hS : Src a n H) (hn : n < 900000) (h1 : 1 ≤ wide) (h1' : wide.natAbs < 2 ^ 219)
    (q : ∀ p H' t b, H p = none → p ≠ a → Stp a (n + 4) H H' → H' p = some (.tup [.int t, .int b]) → 1 ≤ t → t < b → Int.gcd t b = 1 → b ≤ wide + 1 → Q (.ref p) H') :
    tCall (sp_share K) [] E0 (tCons ta (tCons tb tNil)) σ H Q := o_call ((ea_cons ha (ea_cons hb ea_nil)) H (Ex.refl H) _ fun H1 e1 => dr_share (hS.ex e1) hn h1 h1' fun p H' t b hp hpa s => q p H' t b (fresh_back e1 hp) hpa ((hS.stp e1).next s))
theorem s_ifX {σ : L2.St} {c : TT} {t u : TS} {D : Ends} (h : c σ H fun b H1 => if b = true then t D σ H1 else u D σ H1) : tIfS c t u D σ H := h
theorem o_not {σ : L2.St} {c : TT} {Q : Bool → Hp → Prop} (h : c σ H fun b H1 => Q (!b) H1) : tNot c σ H Q := h
theorem o_B {σ : L2.St} {t : TE} {Q : Bool → Hp → Prop} (h : t σ H fun x H1 => ∃ c, x = .bl c ∧ Q c H1) : tB t σ H Q := h
theorem ev_min2 {σ : L2.St} {ta tb : TE} {i j : Int} (ha : Ev ta σ H (.int i)) (hb : Ev tb σ H (.int j)) : Ev (tCB rMin2 (tCons ta (tCons tb tNil))) σ H (.int (if j < i then j else i)) := fun H1 e Q q =>
  ha H1 e _ fun H2 e2 => hb H2 (e.trans e2) _ fun H3 e3 => ⟨i, j, rfl, q H3 (e2.trans e3)⟩
theorem ev_lenS {σ : L2.St} {ta : TE} {a : Addr} {ns : List Int} (ha : Ev ta σ H (.ref a)) (h : SqL K H a (ns.map V.int)) : Ev (tCB (rLenS K) (tCons ta tNil)) σ H (.int (ns.length : Int)) := by
  have := ev_len ha h (K := K)
  rw [List.length_map] at this
  exact this
/-- a sequence that stands ahead of the source p stays -/
theorem sq_keep {a p : Addr} {xs : List V} {H2 : Hp} (h : SqL K H a xs) (hp : H p = none) (k : ∀ b o, b ≠ p → H b = some o → H2 b = some o) : SqL K H2 a xs := by
  rcases h with (h | ⟨o, h⟩) | h
  · exact .inl (.inl (k _ _ (ne_of_none h hp) h))
  · exact .inl (.inr ⟨o, k _ _ (ne_of_none h hp) h⟩)
  · exact .inr h
theorem ev_notB {σ : L2.St} {ta tb : TE} {a b : Bool} (ha : Ev ta σ H (.bl a)) (hb : Ev tb σ H (.bl b)) : Ev (tOp rNotB ta tb) σ H (.bl (!decide (a = b))) := ev_op ha hb fun H1 _ _ q => ⟨a, b, rfl, rfl, q H1 (Ex.refl H1)⟩
theorem eu_catT {σ : L2.St} {ta tb : TE} {xs ys : List V} (ha : EvU ta σ H xs) (hb : EvU tb σ H ys) (hx : xs ≠ []) (hy : ys ≠ []) (hz : xs.length + ys.length ≤ 100000) : EvU (tOp (rCatT K) ta tb) σ H (xs ++ ys) := fun H1 e Q q =>
  ha H1 e _ fun p H2 hp e2 h2 => hb H2 (e.trans e2) _ fun p' H3 hp' e3 h3 => ⟨p, p', xs, ys, rfl, rfl, .inl (.inl (e3 _ _ h2)), .inl (.inl h3), hx, sz_of hz, fun z => absurd z hy, fun _ p2 hp2 =>
    q p2 _ (fresh_back (e2.trans e3) hp2) ((e2.trans e3).trans (Ex.new hp2)) upd_same⟩
theorem sIx_m1 {n d : Nat} : HT.sIx n d (some (-1)) = n - 1 := by
  have h := HT.clip_eq (-1) n d
  rw [if_pos (by decide)] at h
  omega
theorem cut_last (ns : List Int) (x : Int) : cutV ((ns ++ [x]).map V.int) none (some (-1)) = ns.map V.int := by
  unfold cutV
  rw [HT.sIx_none, sIx_m1, List.length_map, List.length_append]
  show List.take (ns.length + 1 - 1 - 0) (List.drop 0 _) = _
  rw [List.drop_zero, List.map_append, Nat.sub_zero, Nat.add_sub_cancel]
  exact List.take_left' (by rw [List.length_map])
theorem mv_shareM {r : List Int} {s k : Nat} (h : IsRow r) (hs : s < r.length) (hz : Sz k r) : OkM r.length (k + 4) (s, shT r s, shB r s) ∧ mvM r (s, shT r s, shB r s) = r := by
  have hx := getD_some hs
  have h1 := h.pos _ (List.mem_of_getElem? hx)
  have h2 := mem_le_sum h.pos hx
  have h3 := h.lo
  obtain ⟨g1, g2, g3, g4⟩ := gcd_low (x := r.getD s 0) (y := r.sum) h1 (by omega)
  have h5 := sum_lt8 hz h.hi
  have hT : shT r s = r.getD s 0 / ((Int.gcd (r.getD s 0) r.sum : Nat) : Int) := rfl
  have hB : shB r s = r.sum / ((Int.gcd (r.getD s 0) r.sum : Nat) : Int) := rfl
  rw [← hT] at g1 g2 g3
  rw [← hB] at g2 g3 g4
  refine ⟨⟨hs, g1, g2, g3, by show (shB r s).natAbs < _; omega⟩, ?_⟩
  refine mv_same h hs g2 ?_
  show r.getD s 0 * shB r s = shT r s * r.sum
  rw [hT, hB]
  exact (lowest_eq (a := r.getD s 0) (b := r.sum)).symm
def oth (n s : Nat) : List Nat := (List.range n).filter fun i => !decide ((i : Int) = (s : Int))
theorem oth_mem {n s i : Nat} (h : i ∈ oth n s) : i < n ∧ i ≠ s := by
  unfold oth at h
  rw [List.mem_filter, List.mem_range] at h
  refine ⟨h.1, fun z => ?_⟩
  rw [z] at h
  simp at h
theorem oth_len (n s : Nat) : (oth n s).length ≤ n := by
  unfold oth
  have := List.length_filter_le (fun i : Nat => !decide ((i : Int) = (s : Int))) (List.range n)
  rw [List.length_range] at this
  exact this
theorem EvX.imp {σ : L2.St} {te : TE} {P P' : V → Hp → Prop} (h : EvX te σ H P) (i : ∀ v H', P v H' → P' v H') : EvX te σ H P' := fun H1 e Q q => h H1 e Q fun v H2 e2 p => q v H2 e2 (i v H2 p)
theorem xLS {σ : L2.St} {te : TE} {xs : List V} (h : EvL te σ H xs) : EvX te σ H (IsS K xs) := (xL h).imp fun v H' ⟨p, e, g⟩ => ⟨p, e, .inl (.inl g)⟩
/-- a loop over zip of two lists, of any lengths; each turn keeps Pv -/
theorem s_forZip {σ : L2.St} {ta : TA} {xs ys : List V} {g : TG} {tb : TS} {D : Ends} (Pv : Addr → Addr → L2.St → Hp → Prop) (h : EvAX ta σ H (PCons (IsS K xs) (PCons (IsS K ys) PNil))) (h0 : ∀ a b H1, Ex H H1 → SqL K H1 a xs → SqL K H1 b ys → Pv a b σ H1) (hq : ∀ a b σ' H', Pv a b σ' H' → SqL K H' a xs ∧ SqL K H' b ys)
    (hs : ∀ (a b : Addr) (i : Nat) (x y : V) (T : Addr) (σ' : L2.St) (H' : Hp), xs[i]? = some x → ys[i]? = some y → Pv a b σ' H' → H' T = none → g (.ref T) σ' (upd H' T (.tup [x, y])) fun σ2 H2 => tb { D with nx := Pv a b, ct := Pv a b, bk := D.nx } σ2 H2) (hd : ∀ a b σ' H', Pv a b σ' H' → D.nx σ' H') :
    tFor (iZip K ta) g tb D σ H := h H (Ex.refl H) _ fun vs H1 e1 ⟨_, _, ev, ⟨a, ea, hx⟩, _, _, er, ⟨b, eb, hy⟩, en⟩ => by
  subst ea eb
  have en' := en
  subst er
  subst ev
  rw [show _ = [] from en]
  refine ⟨a, b, xs, ys, rfl, hx, hy, ?_⟩
  refine ⟨fun i m σ' H' => m = xs.length - i ∧ Pv a b σ' H', ⟨xs.length, rfl, h0 a b H1 e1 hx hy⟩, ?_⟩
  rintro i m σ' H' ⟨rfl, p⟩
  obtain ⟨qx, qy⟩ := hq a b σ' H' p
  by_cases hlt : i < xs.length ∧ i < ys.length
  · have hx : xs[i]? = some xs[i] := List.getElem?_eq_getElem hlt.1
    have hy : ys[i]? = some ys[i] := List.getElem?_eq_getElem hlt.2
    refine .inr ⟨⟨xs, ys, _, _, qx, qy, hx, hy⟩, Pv a b, fun σ2 H2 p' => ⟨xs.length - (i + 1), by omega, rfl, p'⟩, fun v H2 y => ?_⟩
    obtain ⟨T, x', y', rfl, hT, rfl, f1, f2⟩ := y
    exact hs a b i x' y' T σ' H' (f1 xs qx) (f2 ys qy) p hT
  · exact .inl ⟨⟨xs, ys, qx, qy, by omega⟩, hd a b σ' H' p⟩
theorem q_forZip {σ : L2.St} {ta : TA} {xs ys : List V} {g : TG} {tb tz : TS} {D : Ends} (Pv : Addr → Addr → L2.St → Hp → Prop) (h : EvAX ta σ H (PCons (IsS K xs) (PCons (IsS K ys) PNil))) (h0 : ∀ a b H1, Ex H H1 → SqL K H1 a xs → SqL K H1 b ys → Pv a b σ H1) (hq : ∀ a b σ' H', Pv a b σ' H' → SqL K H' a xs ∧ SqL K H' b ys)
    (hs : ∀ (a b : Addr) (i : Nat) (x y : V) (T : Addr) (σ' : L2.St) (H' : Hp), xs[i]? = some x → ys[i]? = some y → Pv a b σ' H' → H' T = none → g (.ref T) σ' (upd H' T (.tup [x, y])) fun σ2 H2 => tb { D with nx := Pv a b, ct := Pv a b, bk := tz D } σ2 H2) (hd : ∀ a b σ' H', Pv a b σ' H' → tz D σ' H') :
    tSeq (tFor (iZip K ta) g tb) tz D σ H := s_forZip (D := { D with nx := tz D }) Pv h h0 hq hs hd
theorem nat_at {ns : List Nat} {i : Nat} {x : V} (h : (ns.map fun (n : Nat) => V.int (n : Int))[i]? = some x) : ∃ y : Nat, x = .int (y : Int) ∧ y ∈ ns := by
  rw [List.getElem?_map] at h
  cases hn : ns[i]? with
  | none => rw [hn] at h; cases h
  | some y =>
    rw [hn] at h
    exact ⟨y, (Option.some.inj h).symm, List.mem_of_getElem? hn⟩
end
end SL

namespace SL
open PySem PySem.Spec PyProof.Rows L2 Evl
/-! ### moves one after the other, without dividing between -/
theorem set_map_mul (c : Int) : ∀ (l : List Int) (i : Nat) (y : Int), (l.set i y).map (fun x => c * x) = (l.map fun x => c * x).set i (c * y)
  | [], i, y => rfl
  | x :: r, 0, y => rfl
  | x :: r, i + 1, y => by
    show c * x :: (r.set i y).map (fun x => c * x) = c * x :: (r.map fun x => c * x).set i (c * y)
    rw [set_map_mul c r i y]
theorem sum_smul (c : Int) : ∀ ns : List Int, (ns.map fun x => c * x).sum = c * ns.sum
  | [] => by simp
  | x :: r => by rw [List.map_cons, List.sum_cons, List.sum_cons, sum_smul c r, Int.mul_add]
theorem getD_smul (c : Int) (ns : List Int) (s : Nat) : (ns.map fun x => c * x).getD s 0 = c * ns.getD s 0 := by
  rw [List.getD_eq_getElem?_getD, List.getD_eq_getElem?_getD, List.getElem?_map]
  cases ns[s]? with
  | none => show (0 : Int) = c * 0; omega
  | some x => rfl
theorem wAfter_smul (c : Int) (ns : List Int) (s : Nat) (t b : Int) : wAfter (ns.map fun x => c * x) s t b = (wAfter ns s t b).map fun x => c * x := by
  unfold wAfter
  rw [set_map_mul, sum_smul, getD_smul, List.map_map, List.map_map]
  congr 1
  · refine List.map_congr_left fun x _ => ?_
    show c * x * (b - t) = c * (x * (b - t))
    rw [Int.mul_assoc]
  · generalize ns.sum = S
    generalize ns.getD s 0 = x
    grind
theorem red_back {ns : List Int} : (red ns).map (fun x => gcdL ns * x) = ns := by
  unfold red
  rw [List.map_map]
  conv => rhs; rw [← List.map_id ns]
  refine List.map_congr_left fun x hx => ?_
  show gcdL ns * (x / gcdL ns) = x
  rw [Int.mul_comm]
  exact red_mul hx
theorem gcdL_pos' {ns : List Int} (hp : ∀ x ∈ ns, 1 ≤ x) (h1 : 1 ≤ ns.length) : 0 < gcdL ns := by
  cases ns with
  | nil => exact absurd h1 (by simp)
  | cons x r =>
    have a := hp x (List.mem_cons_self ..)
    exact gcdL_pos (ns := x :: r) (List.mem_cons_self ..) (by omega)
theorem red_wAfter {ns : List Int} (hp : ∀ x ∈ ns, 1 ≤ x) (h1 : 1 ≤ ns.length) (m : Mv) : red (wAfter ns m.1 m.2.1 m.2.2) = mvM (red ns) m := by
  unfold mvM mv
  conv => lhs; rw [← red_back (ns := ns)]
  rw [wAfter_smul, red_smul (gcdL_pos' hp h1)]
def wAs (ns : List Int) (ms : List Mv) : List Int := ms.foldl (fun r m => wAfter r m.1 m.2.1 m.2.2) ns
theorem wAs_len : ∀ (ms : List Mv) (ns : List Int), (wAs ns ms).length = ns.length
  | [], ns => rfl
  | m :: ms, ns => by
    show (wAs (wAfter ns m.1 m.2.1 m.2.2) ms).length = ns.length
    rw [wAs_len ms, wAfter_len]
theorem wAs_take {r : List Int} {ms : List Mv} {i : Nat} {m : Mv} (h : ms[i]? = some m) : wAs r (ms.take (i + 1)) = wAfter (wAs r (ms.take i)) m.1 m.2.1 m.2.2 := by
  unfold wAs
  rw [List.take_add_one, h, List.foldl_append]
  rfl
theorem wAs_pos {n j : Nat} : ∀ {ms : List Mv} {ns : List Int}, (∀ x ∈ ns, 1 ≤ x) → 2 ≤ ns.length → ns.length = n → (∀ m ∈ ms, OkM n j m) → ∀ x ∈ wAs ns ms, 1 ≤ x
  | [], ns, hp, _, _, _ => hp
  | m :: ms, ns, hp, h2, hn, ho => by
    have o := ho m (List.mem_cons_self ..)
    refine wAs_pos (ms := ms) (ns := wAfter ns m.1 m.2.1 m.2.2) (wAfter_pos hp h2 (by rw [hn]; exact o.s) o.t o.tb) (by rw [wAfter_len]; exact h2) (by rw [wAfter_len]; exact hn) fun x hx => ho x (List.mem_cons_of_mem _ hx)
theorem wAs_sz {n j : Nat} : ∀ {ms : List Mv} {ns : List Int} {k : Nat}, Sz k ns → ns.length ≤ 8 → ns.length = n → (∀ m ∈ ms, OkM n j m) → Sz (k + ms.length * (j + 5)) (wAs ns ms)
  | [], ns, k, z, _, _, _ => by
    rw [List.length_nil, Nat.zero_mul]
    exact z
  | m :: ms, ns, k, z, h8, hn, ho => by
    have o := ho m (List.mem_cons_self ..)
    have h1 := wAs_sz (ms := ms) (ns := wAfter ns m.1 m.2.1 m.2.2) (k := k + j + 5) (wAfter_sz z h8 (by rw [hn]; exact o.s) o.t o.tb o.z) (by rw [wAfter_len]; exact h8) (by rw [wAfter_len]; exact hn) (fun x hx => ho x (List.mem_cons_of_mem _ hx))
    rw [List.length_cons, Nat.add_mul, Nat.one_mul]
    refine h1.mono ?_
    omega
theorem red_wAs {n j : Nat} : ∀ {ms : List Mv} {ns : List Int}, (∀ x ∈ ns, 1 ≤ x) → 2 ≤ ns.length → ns.length = n → (∀ m ∈ ms, OkM n j m) → red (wAs ns ms) = mvs (red ns) ms
  | [], ns, _, _, _, _ => rfl
  | m :: ms, ns, hp, h2, hn, ho => by
    have o := ho m (List.mem_cons_self ..)
    have h1 := red_wAs (ms := ms) (ns := wAfter ns m.1 m.2.1 m.2.2) (wAfter_pos hp h2 (by rw [hn]; exact o.s) o.t o.tb) (by rw [wAfter_len]; exact h2) (by rw [wAfter_len]; exact hn) fun x hx => ho x (List.mem_cons_of_mem _ hx)
    show red (wAs (wAfter ns m.1 m.2.1 m.2.2) ms) = mvs (mvM (red ns) m) ms
    rw [h1, red_wAfter hp (by omega)]
theorem mvs_app (r : List Int) (xs ys : List Mv) : mvs r (xs ++ ys) = mvs (mvs r xs) ys := by
  unfold mvs
  rw [List.foldl_append]
theorem mvs_cut (r : List Int) (ms : List Mv) (c : Nat) : mvs (mvs r (ms.take c)) (ms.drop c) = mvs r ms := by
  rw [← mvs_app, List.take_append_drop]
theorem euclid {b t S : Int} (h : b ∣ t * S) (hc : Int.gcd b t = 1) : b ∣ S := by
  have h1 := Int.natAbs_dvd_natAbs.mpr h
  rw [Int.natAbs_mul] at h1
  exact Int.natAbs_dvd_natAbs.mp (Nat.Coprime.dvd_of_dvd_mul_left hc h1)
/-- lowest terms are the only ones -/
theorem lowest_uniq {x S t b : Int} (hx : 1 ≤ x) (hS : 1 ≤ S) (hb : 1 ≤ b) (hg : Int.gcd t b = 1) (e : x * b = t * S) : x / ((Int.gcd x S : Nat) : Int) = t ∧ S / ((Int.gcd x S : Nat) : Int) = b := by
  have h1 : b ∣ t * S := ⟨x, by rw [← e, Int.mul_comm]⟩
  have h2 : b ∣ S := by
    have hc : Int.gcd b t = 1 := by rw [Int.gcd_comm]; exact hg
    exact euclid h1 hc
  obtain ⟨c, hc⟩ := h2
  subst hc
  have hx' : x = t * c := by
    have : x * b = (t * c) * b := by rw [e]; grind
    exact Int.eq_of_mul_eq_mul_right (by omega) this
  subst hx'
  have hc0 : 0 < c := by
    by_cases h : 0 < c
    · exact h
    · have h3 : c ≤ 0 := by omega
      have := Int.mul_nonpos_of_nonneg_of_nonpos (show 0 ≤ b by omega) h3
      omega
  have hg2 : Int.gcd (t * c) (b * c) = c.natAbs := by rw [Int.gcd_mul_right, hg, Nat.one_mul]
  rw [hg2]
  have : ((c.natAbs : Nat) : Int) = c := Int.natAbs_of_nonneg (by omega)
  rw [this]
  exact ⟨Int.mul_ediv_cancel t (by omega), Int.mul_ediv_cancel b (by omega)⟩
/-- the slider that is moved last shows its share -/
theorem mvs_last {r : List Int} {ms : List Mv} {m : Mv} {n j : Nat} (h : IsRow r) (hn : r.length = n) (ho : ∀ x ∈ ms ++ [m], OkM n j x) : shT (mvs r (ms ++ [m])) m.1 = m.2.1 ∧ shB (mvs r (ms ++ [m])) m.1 = m.2.2 := by
  have o := ho m (List.mem_append_right _ (List.mem_singleton.mpr rfl))
  have hr := mvs_row (ms := ms) h hn (fun x hx => ho x (List.mem_append_left _ hx))
  have hl : (mvs r ms).length = n := by rw [mvs_len, hn]
  rw [mvs_app]
  show shT (mvM (mvs r ms) m) m.1 = m.2.1 ∧ _
  have h2 : IsRow (mvM (mvs r ms) m) := isRow_mv hr (by rw [hl]; exact o.s) o.t o.tb
  have h3 : (mvM (mvs r ms) m).getD m.1 0 * m.2.2 = m.2.1 * (mvM (mvs r ms) m).sum := mv_share hr (by rw [hl]; exact o.s) o.t o.tb
  have hs : m.1 < (mvM (mvs r ms) m).length := by
    rw [mvM_len, hl]
    exact o.s
  have h4 := h2.pos _ (List.mem_of_getElem? (getD_some hs))
  have h5 := mem_le_sum h2.pos (getD_some hs)
  have h6 := h2.lo
  have ob := o.tb
  have ot := o.t
  exact lowest_uniq h4 (by omega) (by omega) o.g h3
/-- sliders that are never moved keep their ratio -/
theorem mvs_ratio {n j' i j : Nat} : ∀ {ms : List Mv} {r : List Int}, IsRow r → r.length = n → (∀ m ∈ ms, OkM n j' m) → i < n → j < n → (∀ m ∈ ms, i ≠ m.1 ∧ j ≠ m.1) → (mvs r ms).getD i 0 * r.getD j 0 = (mvs r ms).getD j 0 * r.getD i 0
  | [], r, _, _, _, _, _, _ => Int.mul_comm _ _
  | m :: ms, r, hr, hn, ho, hi, hj, hm => by
    have o := ho m (List.mem_cons_self ..)
    have hs : m.1 < r.length := by rw [hn]; exact o.s
    have h2 := isRow_mv hr hs o.t o.tb
    have ih := mvs_ratio (ms := ms) (r := mvM r m) h2 (by rw [mvM_len, hn]) (fun x hx => ho x (List.mem_cons_of_mem _ hx)) hi hj (fun x hx => hm x (List.mem_cons_of_mem _ hx))
    obtain ⟨u, v, e1, e2, e3⟩ := mv_ratio hr hs o.t o.tb (hm m (List.mem_cons_self ..)).1 (hm m (List.mem_cons_self ..)).2 (getD_some (by omega : i < r.length)) (getD_some (by omega : j < r.length))
    have hl : (mvM r m).length = n := by rw [mvM_len, hn]
    have u1 : (mvM r m).getD i 0 = u := by rw [List.getD_eq_getElem?_getD]; unfold mvM; rw [e1]; rfl
    have v1 : (mvM r m).getD j 0 = v := by rw [List.getD_eq_getElem?_getD]; unfold mvM; rw [e2]; rfl
    rw [u1, v1] at ih
    show (mvs (mvM r m) ms).getD i 0 * r.getD j 0 = (mvs (mvM r m) ms).getD j 0 * r.getD i 0
    have up : 1 ≤ u := by rw [← u1]; exact h2.pos _ (List.mem_of_getElem? (getD_some (by have := hl; unfold mvM at this; omega)))
    have vp : 1 ≤ v := by rw [← v1]; exact h2.pos _ (List.mem_of_getElem? (getD_some (by have := hl; unfold mvM at this; omega)))
    generalize (mvs (mvM r m) ms).getD i 0 = A at *
    generalize (mvs (mvM r m) ms).getD j 0 = B at *
    generalize r.getD i 0 = x at *
    generalize r.getD j 0 = y at *
    have : (A * y) * (u * v) = (B * x) * (u * v) := by grind
    exact Int.eq_of_mul_eq_mul_right (by have := Int.mul_le_mul up vp (by omega) (by omega); omega) this
end SL

namespace SL
open PySem PySem.Spec PyProof.Rows L2 Evl
section
variable {K : PySem.W.Frag} {vs : List V} {H : Hp} {Q : VK} {E : XK}
/-- [e for x in xs], item by item -/
theorem el_lcG {α : Type} {σ : L2.St} {te tl : TE} {a : Addr} {xs : List V} {ys : List α} {j : Nat} (f : α → V) (h : Ev tl σ H (.ref a)) (hx : SqL K H a xs) (hl : xs.length = ys.length) (hz : ys.length ≤ 40000)
    (he : ∀ (i : Nat) (x : V) (y : α) H1, Ex H H1 → xs[i]? = some x → ys[i]? = some y → Ev te ((wipe σ [j]).set j (some x)) H1 (f y)) : EvL (tLc (iList K tl) (gName j) tYes te [j]) σ H (ys.map f) := by
  have h1 := el_lcL (K := K) (t := tYes) (te := te) (j := j) (vs := [j]) (σ := σ) (H := H) (fun _ => true) (fun i => match ys[i]? with | some y => f y | none => .non) h hx (by omega)
    (fun x => by simp [wipe]) (fun i x H1 _ _ => et_yes) (fun i x H1 e hi _ => by
      have hlt : i < ys.length := by
        have := (List.getElem?_eq_some_iff.mp hi).1
        omega
      have hy : ys[i]? = some ys[i] := List.getElem?_eq_getElem hlt
      rw [hy]
      exact he i x ys[i] H1 e hi hy)
  rw [given_all] at h1
  have e : (List.range xs.length).map (fun i => match ys[i]? with | some y => f y | none => .non) = ys.map f := by
    apply List.ext_getElem?
    intro i
    rw [hl, List.getElem?_map, List.getElem?_map]
    by_cases hi : i < ys.length
    · rw [List.getElem?_range hi, List.getElem?_eq_getElem hi]
      simp [hi]
    · rw [List.getElem?_eq_none (by rw [List.length_range]; omega), List.getElem?_eq_none (by omega)]
      rfl
  rw [e] at h1
  exact h1
/-- [e for m in moves] -/
theorem el_lcM {σ : L2.St} {te tl : TE} {a : Addr} {ms : List Mv} {j : Nat} (f : Mv → V) (h : Ev tl σ H (.ref a)) (hx : MS H a ms) (hz : ms.length ≤ 40000)
    (he : ∀ (m : Mv) (b : Addr) H1, Ex H H1 → m ∈ ms → MI H1 b m → Ev te ((wipe σ [j]).set j (some (.ref b))) H1 (f m)) : EvL (tLc (iList K tl) (gName j) tYes te [j]) σ H (ms.map f) := by
  obtain ⟨xs, h1, h2⟩ := hx
  refine el_lcG f h (sq_of h1) (paired_len h2) hz fun i x y H1 e hi hy => ?_
  obtain ⟨m, hm, b, rfl, hb⟩ := paired_at h2 hi
  have : m = y := Option.some.inj (hm.symm.trans hy)
  subst this
  exact he m b H1 e (List.mem_of_getElem? hm) (hb.ex e)
theorem ev_lenM {σ : L2.St} {ta : TE} {a : Addr} {ms : List Mv} (ha : Ev ta σ H (.ref a)) (h : MS H a ms) : Ev (tCB (rLenS K) (tCons ta tNil)) σ H (.int (ms.length : Int)) := by
  obtain ⟨xs, h1, h2⟩ := h
  have := ev_len (K := K) ha (sq_of h1)
  rw [paired_len h2] at this
  exact this
theorem ty_ms {H : Hp} {a : Addr} {ms : List Mv} (h : MS H a ms) : zTyV (.ref a) H = some "list" := by
  obtain ⟨xs, h1, h2⟩ := h
  exact ty_lst h1
/-! is_moves, are_there, check_moves, row_after -/
def isMvsB (ms : List Mv) : Bool := decide (ms.length ≤ 40) && ms.all fun m => isMvB (m.1 : Int) m.2.1 m.2.2
def sp_is_moves (K : PySem.W.Frag) : Sp := fun vs H Q _ => ∃ (a : Addr) (ms : List Mv), vs = [.ref a] ∧ MS H a ms ∧ ms.length ≤ 40000 ∧ RetV (.bl (isMvsB ms)) H Q
theorem ln_is_moves (h : sp_is_moves K vs H Q E) : vs.length = (["value"] : List Str).length := by obtain ⟨a, b, rfl, _⟩ := h; rfl
abbrev N_is_moves : List Str := ["value", "move"]
def t_is_moves (K : PySem.W.Frag) : TS :=
  (tRet (tAndV (tOp rIsTyp (tThenZ (tVar 0) kTyp) (tC (.ty "list"))) (tAndV (tOp rLeI (tCB (Evl.rLenS K) (tCons (tVar 0) tNil)) (tC (.int 40))) (tCB (rAll K) (tCons (tLc (iList K (tVar 0)) (gName 1) tYes (tCall (sp_is_move K) [] E0 (tCons (tVar 1) tNil)) [1]) tNil)))))
theorem rd_is_moves (h : sp_is_moves K vs H Q E) : t_is_moves K (fin Q) (start N_is_moves vs) H := by
  obtain ⟨a, ms, rfl, hM, hz, q⟩ := h
  refine s_ret (ev_is (ev_andV (ev_op (ev_type (ev_var rfl) fun H1 e => ty_ms (hM.ex e)) ev_c rv_isTyp) fun _ => ev_andV (ev_leI (ev_lenM (ev_var rfl) hM) ev_c) fun _ => ev_all (bs := ms.map fun m => isMvB (m.1 : Int) m.2.1 m.2.2) (el_lcM (fun m => .bl (isMvB (m.1 : Int) m.2.1 m.2.2)) (ev_var rfl) hM hz fun m b H1 e hm hb =>
    ev_call (ea_cons (ev_var rfl) ea_nil) (spv_is_move hb)) (by rw [List.map_map]; rfl)) ?_) q
  unfold isMvsB
  rw [List.all_map, decide_eq_true rfl, Bool.true_and]
  congr 2
  by_cases h : ms.length ≤ 40
  · rw [decide_eq_true h, decide_eq_true (by omega)]
  · rw [decide_eq_false h, decide_eq_false (by omega)]
theorem spv_is_moves {a : Addr} {ms : List Mv} (hM : MS H a ms) (hz : ms.length ≤ 40000) : SpV (sp_is_moves K) [.ref a] H (.bl (isMvsB ms)) := spv_of fun _ e _ _ q => ⟨a, ms, rfl, hM.ex e, hz, q⟩
theorem isMvsB_of {n j : Nat} {ms : List Mv} (h : ms.length ≤ 40) (ho : ∀ m ∈ ms, OkM n j m) (h8 : n ≤ 8) : isMvsB ms = true := by
  unfold isMvsB
  rw [decide_eq_true h, Bool.true_and, List.all_eq_true]
  exact fun m hm => isMvB_of (ho m hm) h8
def sp_are_there (K : PySem.W.Frag) : Sp := fun vs H Q _ => ∃ (a : Addr) (ms : List Mv) (n : Int), vs = [.ref a, .int n] ∧ MS H a ms ∧ ms.length ≤ 40000 ∧ RetV (.bl (ms.all fun m => decide ((m.1 : Int) < n))) H Q
theorem ln_are_there (h : sp_are_there K vs H Q E) : vs.length = (["moves", "sliders"] : List Str).length := by obtain ⟨a, b, n, rfl, _⟩ := h; rfl
abbrev N_are_there : List Str := ["moves", "sliders", "move"]
def t_are_there (K : PySem.W.Frag) : TS :=
  (tRet (tCB (rAll K) (tCons (tLc (iList K (tVar 0)) (gName 2) tYes (tOp rLtI (tOp (rIxT K) (tVar 2) (tC (.int 0))) (tVar 1)) [2]) tNil)))
theorem rd_are_there (h : sp_are_there K vs H Q E) : t_are_there K (fin Q) (start N_are_there vs) H := by
  obtain ⟨a, ms, n, rfl, hM, hz, q⟩ := h
  refine s_ret (ev_is (ev_all (bs := ms.map fun m => decide ((m.1 : Int) < n)) (el_lcM (fun m => .bl (decide ((m.1 : Int) < n))) (ev_var rfl) hM hz fun m b H1 e hm hb => ev_ltI (ev_ixT (i := 0) (ev_var rfl) ev_c hb rfl rfl) (ev_var rfl)) (by rw [List.map_map]; rfl)) ?_) q
  rw [List.all_map]
  rfl
theorem spv_are_there {a : Addr} {ms : List Mv} {n : Int} (hM : MS H a ms) (hz : ms.length ≤ 40000) : SpV (sp_are_there K) [.ref a, .int n] H (.bl (ms.all fun m => decide ((m.1 : Int) < n))) := spv_of fun _ e _ _ q => ⟨a, ms, n, rfl, hM.ex e, hz, q⟩
def sp_check_moves (K : PySem.W.Frag) : Sp := fun vs H Q _ => ∃ (a : Addr) (ms : List Mv) (n j : Nat), vs = [.ref a, .int ((n : Nat) : Int)] ∧ MS H a ms ∧ ms.length ≤ 40 ∧ n ≤ 8 ∧ (∀ m ∈ ms, OkM n j m) ∧ RetV .non H Q
theorem ln_check_moves (h : sp_check_moves K vs H Q E) : vs.length = (["moves", "sliders"] : List Str).length := by obtain ⟨a, b, n, j, rfl, _⟩ := h; rfl
abbrev N_check_moves : List Str := ["moves", "sliders"]
def t_check_moves (K : PySem.W.Frag) : TS :=
  (tIfS (tOr (tNot (tB (tCall (sp_is_moves K) [] E0 (tCons (tVar 0) tNil)))) (tNot (tB (tCall (sp_are_there K) [] E0 (tCons (tVar 0) (tCons (tVar 1) tNil)))))) tNever tNext)
theorem there_of {n j : Nat} {ms : List Mv} (ho : ∀ m ∈ ms, OkM n j m) : (ms.all fun m => decide ((m.1 : Int) < (n : Int))) = true := by
  rw [List.all_eq_true]
  exact fun m hm => decide_eq_true (by have := (ho m hm).s; omega)
theorem rd_check_moves (h : sp_check_moves K vs H Q E) : t_check_moves K (fin Q) (start N_check_moves vs) H := by
  obtain ⟨a, ms, n, j, rfl, hM, hz, h8, ho, q⟩ := h
  refine s_if (b := false) (et_is (et_or (et_not (et_B (ev_call (ea_cons (ev_var rfl) ea_nil) (spv_is_moves hM (by omega))))) fun _ => et_not (et_B (ev_call (ea_cons (ev_var rfl) (ea_cons (ev_var rfl) ea_nil)) (spv_are_there hM (by omega))))) (by rw [isMvsB_of hz ho h8, there_of ho]; rfl)) (fun hb => by cases hb) fun _ H1 e => q H1 e
theorem spv_check_moves {a : Addr} {ms : List Mv} {n j : Nat} (hM : MS H a ms) (hz : ms.length ≤ 40) (h8 : n ≤ 8) (ho : ∀ m ∈ ms, OkM n j m) : SpV (sp_check_moves K) [.ref a, .int ((n : Nat) : Int)] H .non := spv_of fun _ e _ _ q => ⟨a, ms, n, j, rfl, hM.ex e, hz, h8, ho, q⟩
def sp_row_after (K : PySem.W.Frag) : Sp := fun vs H Q _ => ∃ (a c : Addr) (ns : List Int) (ms : List Mv) (k j : Nat), vs = [.ref a, .ref c] ∧ LI H a ns ∧ MS H c ms ∧ IsRow ns ∧ ms.length ≤ 40 ∧ (∀ m ∈ ms, OkM ns.length j m) ∧ Sz k ns ∧ k + ms.length * (j + 5) < 8000 ∧ j < 8000 ∧ RetL ((mvs ns ms).map V.int) H Q
theorem ln_row_after (h : sp_row_after K vs H Q E) : vs.length = (["row", "moves"] : List Str).length := by obtain ⟨a, c, n, m, k, j, rfl, _⟩ := h; rfl
abbrev N_row_after : List Str := ["row", "moves"]
def t_row_after (K : PySem.W.Frag) : TS :=
  (tSeq (tDrop (tCall (sp_check_row K) [] E0 (tCons (tVar 0) tNil)))
    (tSeq (tDrop (tCall (sp_check_moves K) [] E0 (tCons (tVar 1) (tCons (tCB (Evl.rLenS K) (tCons (tVar 0) tNil)) tNil))))
    (tRet (tCall (sp_row_behind K) [] E0 (tCons (tVar 0) (tCons (tVar 1) tNil))))))
theorem rd_row_after (h : sp_row_after K vs H Q E) : t_row_after K (fin Q) (start N_row_after vs) H := by
  obtain ⟨a, c, ns, ms, k, j, rfl, hL, hM, hR, h40, hO, hz, hk, hj, q⟩ := h
  refine q_drop (ev_call (ea_cons (ev_var rfl) ea_nil) (spv_check_row hL hR)) fun H1 e1 => ?_
  refine q_drop (ev_call (ea_cons (ev_var rfl) (ea_cons (ev_lenI (ev_var rfl) (hL.ex e1)) ea_nil)) (spv_check_moves (hM.ex e1) h40 hR.hi hO)) fun H2 e2 => ?_
  exact s_retL (el_call (ea_cons (ev_var rfl) (ea_cons (ev_var rfl) ea_nil)) (spl_row_behind ((hL.ex e1).ex e2) ((hM.ex e1).ex e2) hR hO hz hk hj)) fun p H3 hp e3 h3 => q p H3 (fresh_back (e1.trans e2) hp) ((e1.trans e2).trans e3) h3
theorem spl_row_after {a c : Addr} {ns : List Int} {ms : List Mv} {k j : Nat} (hL : LI H a ns) (hM : MS H c ms) (hR : IsRow ns) (h40 : ms.length ≤ 40) (hO : ∀ m ∈ ms, OkM ns.length j m) (hz : Sz k ns) (hk : k + ms.length * (j + 5) < 8000) (hj : j < 8000) :
    SpL (sp_row_after K) [.ref a, .ref c] H ((mvs ns ms).map V.int) := spl_of fun _ e _ _ q => ⟨a, c, ns, ms, k, j, rfl, hL.ex e, hM.ex e, hR, h40, hO, hz, hk, hj, q⟩
/-! moves under the source -/
theorem paired_exb {a : Addr} {n : Nat} {H H' : Hp} (hS : Src a n H) (e : ExB a H H') : ∀ {vs : List V} {ms : List Mv}, Paired (MsAt H) vs ms → Paired (MsAt H') vs ms
  | _, _, .nil => .nil
  | _, _, .cons ⟨b, h, g⟩ r => .cons ⟨b, h, e _ _ (fun z => by
      obtain ⟨s0, s1, s2, g', _⟩ := hS
      have g2 : H b = some (.tup (mvV _)) := g
      rw [z, g'] at g2
      cases g2) g⟩ (paired_exb hS e r)
theorem MS.exb {a p : Addr} {n : Nat} {H H' : Hp} {ms : List Mv} (h : MS H p ms) (hS : Src a n H) (hp : p ≠ a) (e : ExB a H H') : MS H' p ms := by
  obtain ⟨vs, h1, h2⟩ := h
  exact ⟨vs, e _ _ hp h1, paired_exb hS e h2⟩
/-! deeds -/
def sp_deeds (K : PySem.W.Frag) : Sp := fun vs H Q _ => ∃ (a : Addr) (n : Nat) (w many wide : Int) (k : Nat), vs = [.ref a, .int w, .int many, .int wide] ∧ Src a n H ∧ n < 800000 ∧ 2 ≤ w ∧ w ≤ 8 ∧ 0 ≤ many ∧ many ≤ 40 ∧ 1 ≤ wide ∧ wide.natAbs < 2 ^ k ∧ k ≤ 200 ∧
  ∀ p H' ms, H p = none → p ≠ a → Stp a (n + 241) H H' → MS H' p ms → (ms.length : Int) = many → (∀ m ∈ ms, OkM w.toNat (k + 1) m) → Q (.ref p) H'
theorem ln_deeds (h : sp_deeds K vs H Q E) : vs.length = (["source", "width", "many", "wide"] : List Str).length := by obtain ⟨a, n, w, m, wd, k, rfl, _⟩ := h; rfl
abbrev N_deeds : List Str := ["source", "width", "many", "wide", "way", "found", "turn", "spot"]
def t_deeds (K : PySem.W.Frag) : TS :=
  (tSeq (tPar 4 5 (tCons (tCall (sp_draw K) [] E0 (tCons (tVar 0) (tCons (tC (.int 4)) tNil))) (tCons (tLst tNil) tNil)))
    (tSeq (tFor (iRng1 (tCons (tVar 2) tNil)) (gName 6) (tSeq (tAsg (tOp (rIxL K) (tLst (tCons (tCall (sp_draw K) [] E0 (tCons (tVar 0) (tCons (tVar 1) tNil))) (tCons (tOp rModI (tVar 6) (tVar 1)) (tCons (tCall (sp_draw K) [] E0 (tCons (tVar 0) (tCons (tC (.int 2)) tNil))) (tCons (tOp rSubI (tOp rSubI (tVar 1) (tC (.int 1))) (tOp rModI (tVar 6) (tVar 1))) tNil))))) (tVar 4)) (gName 7))
    (tDrop (tBM K "list" rAppend (tVar 5) (tCons (tOp (rCatT K) (tTup (tCons (tVar 7) tNil)) (tCall (sp_share K) [] E0 (tCons (tVar 0) (tCons (tVar 3) tNil)))) tNil)))))
    (tRet (tVar 5))))
theorem paired_snoc {H : Hp} {v : V} {m : Mv} (h : MsAt H v m) : ∀ {vs : List V} {ms : List Mv}, Paired (MsAt H) vs ms → Paired (MsAt H) (vs ++ [v]) (ms ++ [m])
  | _, _, .nil => .cons h .nil
  | _, _, .cons g r => .cons g (paired_snoc h r)
theorem rd_deeds (h : sp_deeds K vs H Q E) : t_deeds K (fin Q) (start N_deeds vs) H := by
  obtain ⟨a, n, w, many, wide, k, rfl, hS, hn, w2, w8, m0, m40, h1, h1', hk, q⟩ := h
  refine q_stX ?_
  refine o_consX (c_draw (ev_var rfl) ev_c hS (by omega) (by decide) (by decide) fun way H1 d0 d1 s1 => ?_)
  refine o_consX (o_lst ea_nil (by show 0 ≤ 100000; decide) fun p H2 hp e2 h2 => o_nil ⟨_, _, rfl, ?_⟩)
  have hpa : p ≠ a := s1.src.ne hp
  have hp0 : H p = none := s1.free hS hp
  have s2 := s1.then e2
  refine q_forR1 (n := many) (ea_cons (ev_var rfl) ea_nil) (by omega) (fun i σ' H' => ∃ z6 z7 ms, σ' = [some (.ref a), some (.int w), some (.int many), some (.int wide), some (.int way), some (.ref p), z6, z7] ∧ Stp a (n + 1 + i * 6) H H' ∧ MS H' p ms ∧ ms.length = i ∧ ∀ m ∈ ms, OkM w.toNat (k + 1) m)
    (fun H3 e3 => ⟨none, none, [], rfl, (s2.then e3).mono (by omega), ⟨[], e3 _ _ h2, .nil⟩, rfl, fun _ h => (List.not_mem_nil h).elim⟩) ?_ ?_
  · rintro i σ' H3 hi ⟨z6, z7, ms, rfl, s3, hM, hl, hO⟩
    -- spot
    refine q_asgX (o_opX ?_)
    refine o_consX (c_draw (ev_var rfl) (ev_var rfl) s3.src (by omega) (by omega) (by omega) fun d H4 a0 a1 s4 => ?_)
    refine o_consV (ev_modI (ev_var rfl) (ev_var rfl) (by omega)) fun H5 e5 => ?_
    refine o_consX (c_draw (ev_var rfl) ev_c (s4.src.ex e5) (by omega) (by decide) (by decide) fun d' H6 b0 b1 s6 => ?_)
    refine o_consV (ev_subI (ev_subI (ev_var rfl) ev_c) (ev_modI (ev_var rfl) (ev_var rfl) (by omega))) fun H7 e7 => ?_
    refine o_nil ⟨by show 4 ≤ sizeLine; decide, fun q4 hq4 => ⟨_, rfl, ?_⟩⟩
    have r0 := Int.emod_nonneg (i : Int) (b := w) (by omega)
    have r1 := Int.emod_lt_of_pos (i : Int) (b := w) (by omega)
    have s7 : Stp a (n + 1 + i * 6 + 2) H H7 := (((s3.next s4).then e5).next s6).then e7
    have pick : ∃ v, atI [V.int d, .int ((i : Int) % w), .int d', .int (w - 1 - (i : Int) % w)] way = some v ∧ ∃ s : Nat, v = .int (s : Int) ∧ s < w.toNat := by
      have : way = 0 ∨ way = 1 ∨ way = 2 ∨ way = 3 := by omega
      rcases this with h | h | h | h
      · subst h; exact ⟨_, rfl, d.toNat, by rw [Int.toNat_of_nonneg a0], by omega⟩
      · subst h; exact ⟨_, rfl, ((i : Int) % w).toNat, by rw [Int.toNat_of_nonneg r0], by omega⟩
      · subst h; exact ⟨_, rfl, d'.toNat, by rw [Int.toNat_of_nonneg b0], by omega⟩
      · subst h; exact ⟨_, rfl, (w - 1 - (i : Int) % w).toNat, by rw [Int.toNat_of_nonneg (by omega)], by omega⟩
    obtain ⟨v, hv, s, rfl, hs⟩ := pick
    refine ⟨q4, _, way, _, rfl, rfl, .inl (.inl upd_same), hv, ?_⟩
    have s8 := s7.new (o := .lst [V.int d, .int ((i : Int) % w), .int d', .int (w - 1 - (i : Int) % w)]) hq4
    generalize hH8 : upd H7 q4 _ = H8 at s8 ⊢
    -- found.append((spot,) + share)
    have hM8 : MS H8 p ms := hM.exb s3.src hpa (by
      rw [← hH8]
      exact ((((s4.ex).trans (.of e5)).trans s6.ex).trans (.of e7)).trans (.of (Ex.new hq4)))
    refine ⟨_, rfl, .inl ⟨rfl, ?_⟩, ?_⟩
    · obtain ⟨xs, g, _⟩ := hM8
      exact ⟨xs, sq_of g⟩
    refine o_consX (o_opX (o_tup (ea_cons (ev_var rfl) ea_nil) (by show 1 ≤ 100000; decide) fun pt H9 hpt e9 ht => c_share (ev_var rfl) (ev_var rfl) (s8.src.ex e9) (by omega) h1 (Nat.lt_of_lt_of_le h1' (two_pow_le (by omega))) fun ps H10 t b hps hpsa s10 hst t1 tb g bw => ?_))
    have ht10 : H10 pt = some (.tup [.int (s : Int)]) := s10.here (s8.src.ne hpt) ht
    refine ⟨pt, ps, _, _, rfl, rfl, .inl (.inl ht10), .inl (.inl hst), by simp, (by show 1 + 2 ≤ sizeLine; decide), fun z => (List.cons_ne_nil _ _ z).elim, fun _ pm hpm => o_nil ?_⟩
    have s11 := ((s8.then e9).next s10).new (o := .tup ([V.int (s : Int)] ++ [.int t, .int b])) hpm
    have hM11 : MS (upd H10 pm (.tup ([V.int (s : Int)] ++ [.int t, .int b]))) p ms := hM8.exb s8.src hpa (((ExB.of e9).trans s10.ex).trans (.of (Ex.new hpm)))
    obtain ⟨xs, g11, g12⟩ := hM11
    have hxl := paired_len g12
    refine ⟨p, xs, .ref pm, rfl, rfl, g11, sz_lt (by omega), ?_⟩
    have hpm0 : pm ≠ p := fun z => by
      have := g11
      rw [← z, upd_same] at this
      cases this
    refine ⟨_, _, ms ++ [(s, t, b)], rfl, ?_, ?_, by rw [List.length_append, hl]; rfl, ?_⟩
    · refine ⟨?_, fun c o hc hco => ?_⟩
      · obtain ⟨u0, u1, u2, f, f1, f2, f3, f4⟩ := s11.src
        exact ⟨u0, u1, u2, by rw [upd_ne (Ne.symm hpa)]; exact f, f1, f2, f3, by omega⟩
      · rw [upd_ne (ne_of_none hco hp0)]
        exact s11.ex c o hc hco
    · refine ⟨xs ++ [.ref pm], upd_same, ?_⟩
      have hnew : MsAt (upd (upd H10 pm (.tup ([V.int (s : Int)] ++ [.int t, .int b]))) p (.lst (xs ++ [.ref pm]))) (.ref pm) (s, t, b) := ⟨pm, rfl, by
        show _ = _
        rw [upd_ne hpm0, upd_same]
        rfl⟩
      refine paired_snoc hnew ?_
      have mono : ∀ {vs : List V} {ms : List Mv}, Paired (MsAt (upd H10 pm (.tup ([V.int (s : Int)] ++ [.int t, .int b])))) vs ms → Paired (MsAt (upd (upd H10 pm (.tup ([V.int (s : Int)] ++ [.int t, .int b]))) p (.lst (xs ++ [.ref pm])))) vs ms := by
        intro vs ms h
        induction h with
        | nil => exact .nil
        | cons g r ih =>
          obtain ⟨c, e, gc⟩ := g
          refine .cons ⟨c, e, ?_⟩ ih
          show _ = _
          rw [upd_ne (fun z => by
            have gc' : (upd H10 pm (.tup ([V.int (s : Int)] ++ [.int t, .int b]))) c = some (.tup _) := gc
            rw [z, g11] at gc'
            cases gc')]
          exact gc
      exact mono g12
    · intro m hm
      rcases List.mem_append.mp hm with h | h
      · exact hO m h
      · rw [List.mem_singleton.mp h]
        refine ⟨hs, t1, tb, g, ?_⟩
        show b.natAbs < 2 ^ (k + 1)
        rw [Nat.pow_succ]
        omega
  · rintro σ' H3 ⟨z6, z7, ms, rfl, s3, hM, hl, hO⟩
    refine s_ret (v := .ref p) (ev_var rfl) fun H4 e4 => q p H4 ms hp0 hpa ((s3.then e4).mono (by omega)) (hM.ex e4) (by omega) hO
theorem c_deeds {σ : L2.St} {ta tb tc td : TE} {a : Addr} {n : Nat} {w many wide : Int} {k : Nat} (ha : Ev ta σ H (.ref a)) (hb : Ev tb σ H (.int w)) (hc : Ev tc σ H (.int many)) (hd : Ev td σ H (.int wide)) (hS : Src a n H) (hn : n < 800000) (w2 : 2 ≤ w) (w8 : w ≤ 8) (m0 : 0 ≤ many) (m40 : many ≤ 40) (h1 : 1 ≤ wide) (h1' : wide.natAbs < 2 ^ k) (hk : k ≤ 200)
    (q : ∀ p H' ms, H p = none → p ≠ a → Stp a (n + 241) H H' → MS H' p ms → (ms.length : Int) = many → (∀ m ∈ ms, OkM w.toNat (k + 1) m) → Q (.ref p) H') : tCall (sp_deeds K) [] E0 (tCons ta (tCons tb (tCons tc (tCons td tNil)))) σ H Q :=
  o_call ((ea_cons ha (ea_cons hb (ea_cons hc (ea_cons hd ea_nil)))) H (Ex.refl H) _ fun H1 e1 => ⟨a, n, w, many, wide, k, rfl, hS.ex e1, hn, w2, w8, m0, m40, h1, h1', hk, fun p H' ms hp hpa s => q p H' ms (fresh_back e1 hp) hpa ((hS.stp e1).next s)⟩)
/-! led -/
def sp_led (K : PySem.W.Frag) : Sp := fun vs H Q _ => ∃ (a c : Addr) (ns : List Int) (ms : List Mv) (k j : Nat), vs = [.ref a, .ref c] ∧ LI H a ns ∧ MS H c ms ∧ (∀ x ∈ ns, 1 ≤ x) ∧ 2 ≤ ns.length ∧ ns.length ≤ 8 ∧ (∀ m ∈ ms, OkM ns.length j m) ∧ Sz k ns ∧ k + ms.length * (j + 5) < 8000 ∧ j < 8000 ∧ RetL ((mvs (red ns) ms).map V.int) H Q
theorem ln_led (h : sp_led K vs H Q E) : vs.length = (["weights_here", "deeds"] : List Str).length := by obtain ⟨a, c, n, m, k, j, rfl, _⟩ := h; rfl
abbrev N_led : List Str := ["weights_here", "deeds", "found", "spot", "above", "below", "rest", "weight"]
def t_led (K : PySem.W.Frag) : TS :=
  (tSeq (tAsg (tCB (Evl.rListS K) (tCons (tVar 0) tNil)) (gName 2))
    (tSeq (tFor (iList K (tVar 1)) (gTup K 3 (gCons (gName 3) (gCons (gName 4) (gCons (gName 5) gNil)))) (tSeq (tAsg (tOp rSubI (tCB (rSum K) (tCons (tVar 2) tNil)) (tOp (rIxL K) (tVar 2) (tVar 3))) (gName 6))
    (tSeq (tAsg (tLc (iList K (tVar 2)) (gName 7) tYes (tOp rMulI (tVar 7) (tOp rSubI (tVar 5) (tVar 4))) [7]) (gName 2))
    (tAsg (tOp rMulI (tVar 4) (tVar 6)) (gSub (tVar 2) (tVar 3) rSetL)))))
    (tRet (tCall (sp_plain K) [] E0 (tCons (tVar 2) tNil)))))
theorem rd_led (h : sp_led K vs H Q E) : t_led K (fin Q) (start N_led vs) H := by
  obtain ⟨a, c, ns, ms, k, j, rfl, hL, hM, hp, h2, h8, hO, hz, hk, hj, q⟩ := h
  refine q_asgL (el_list (ev_var rfl) hL.sq) fun p H1 hp1 e1 h1 => ?_
  obtain ⟨mv, hc, hP⟩ := hM.ex e1
  refine q_forL (xs := mv) (ev_var rfl) (sq_of hc) (fun i σ H' => ∃ p' y3 y4 y5 y6 y7, σ = [some (.ref a), some (.ref c), some (.ref p'), y3, y4, y5, y6, y7] ∧ Ex H1 H' ∧ H p' = none ∧ LI H' p' (wAs ns (ms.take i)))
    (fun H2 e2 => ⟨p, none, none, none, none, none, rfl, e2, hp1, e2 _ _ h1⟩) (fun i σ' H' _ ⟨_, _, _, _, _, _, _, e, _, _⟩ => sq_of (e _ _ hc)) ?_ ?_
  · rintro i x σ' H' hi ⟨p', y3, y4, y5, y6, y7, rfl, e, hp', hL'⟩
    obtain ⟨m, hm, b, rfl, hb⟩ := paired_at hP hi
    have hlt : i < ms.length := (List.getElem?_eq_some_iff.mp hm).1
    have hO' : ∀ m ∈ ms.take i, OkM ns.length j m := fun m h => hO m (List.mem_of_mem_take h)
    have o := hO m (List.mem_of_getElem? hm)
    have hl' : (wAs ns (ms.take i)).length = ns.length := wAs_len _ _
    have hz' := wAs_sz hz h8 rfl hO'
    rw [List.length_take, Nat.min_eq_left (by omega)] at hz'
    have hs : m.1 < (wAs ns (ms.take i)).length := by rw [hl']; exact o.s
    have ot := o.t
    have otb := o.tb
    have ob := o.z
    have hik : k + i * (j + 5) + j + 5 < 8000 := by
      have : (i + 1) * (j + 5) ≤ ms.length * (j + 5) := Nat.mul_le_mul_right _ hlt
      rw [Nat.add_mul, Nat.one_mul] at this
      omega
    generalize hr : wAs ns (ms.take i) = r at *
    have hg := getD_some hs
    have hr8 : r.length ≤ 8 := by omega
    have hsum : (r.sum - r.getD m.1 0).natAbs < 2 ^ (k + i * (j + 5) + 5) := sub_lt_pow (sum_lt8 hz' hr8) (Nat.lt_of_lt_of_le (hz' _ (List.mem_of_getElem? hg)) (two_pow_le (by omega)))
    refine ⟨b, _, rfl, .inl (.inl (e _ _ hb)), rfl, _, _, rfl, _, _, rfl, _, _, rfl, rfl, ?_⟩
    refine q_asg (ev_subI (ev_sum (ev_var rfl) hL') (ev_ixI (i := m.1) (ev_var rfl) (ev_var rfl) hL' rfl hg)) fun H2 e2 => ?_
    have hL2 := hL'.ex e2
    refine q_asgL (xs := (r.map fun x => x * (m.2.2 - m.2.1)).map V.int) ?_ fun p2 H3 hp2 e3 h3 => ?_
    · rw [List.map_map]
      refine el_lcI (fun x => .int (x * (m.2.2 - m.2.1))) (ev_var rfl) hL2 (by omega) fun x H4 e4 hx => ?_
      exact ev_mulI (ev_var rfl) (ev_subI (ev_var rfl) (ev_var rfl)) (wide_mul' (hz' x hx) (show (m.2.2 - m.2.1).natAbs < 2 ^ j by omega) (by omega))
    · refine s_setL (j := m.1) h3 (ev_mulI (ev_var rfl) (ev_var rfl) (wide_mul' (show m.2.1.natAbs < 2 ^ j by omega) hsum (by omega))) (ev_var rfl) (ev_var rfl) (by rw [List.length_map, List.length_map]; exact hs) fun H4 e4 => ?_
      have hp20 : H1 p2 = none := fresh_back (e.trans e2) hp2
      refine ⟨p2, _, _, _, _, _, rfl, Ex.mut (((e.trans e2).trans e3).trans e4) hp20, fresh_back e1 hp20, ?_⟩
      rw [wAs_take hm, hr]
      show upd H4 p2 _ p2 = _
      rw [upd_same, ← List.map_set]
      rfl
  · rintro σ' H' ⟨p', y3, y4, y5, y6, y7, rfl, e, hp', hL'⟩
    rw [paired_len hP, List.take_length] at hL'
    have hpos := wAs_pos hp h2 rfl hO
    have hzz := wAs_sz hz h8 rfl hO
    obtain ⟨g1, g2⟩ := gcdL_lt hzz hpos (by rw [wAs_len]; omega)
    have hnn : ∀ x ∈ wAs ns ms, (0 : Int) ≤ x := fun x hx => by have := hpos x hx; omega
    have := spl_plain (K := K) hL' hnn (by rw [wAs_len]; omega) g1 g2 (by omega)
    rw [red_wAs hp h2 rfl hO] at this
    exact s_retL (el_call (ea_cons (ev_var rfl) ea_nil) this) fun p2 H2 hp2 e2 h2 => q p2 H2 (fresh_back (e1.trans e) hp2) ((e1.trans e).trans e2) h2
theorem spl_led {a c : Addr} {ns : List Int} {ms : List Mv} {k j : Nat} (hL : LI H a ns) (hM : MS H c ms) (hp : ∀ x ∈ ns, 1 ≤ x) (h2 : 2 ≤ ns.length) (h8 : ns.length ≤ 8) (hO : ∀ m ∈ ms, OkM ns.length j m) (hz : Sz k ns) (hk : k + ms.length * (j + 5) < 8000) (hj : j < 8000) :
    SpL (sp_led K) [.ref a, .ref c] H ((mvs (red ns) ms).map V.int) := spl_of fun _ e _ _ q => ⟨a, c, ns, ms, k, j, rfl, hL.ex e, hM.ex e, hp, h2, h8, hO, hz, hk, hj, q⟩
end
end SL

namespace SL
open PySem PySem.Spec PyProof.Rows L2 Evl
section
variable {K : PySem.W.Frag} {vs : List V} {H H' : Hp} {Q : VK} {E : XK} {σ : L2.St} {ta tb te : TE}
/-! ### data -/
mutual
theorem dp_ex (e : Ex H H') : ∀ (d : PyData) (v : V), Dp K H v d → Dp K H' v d
  | .none, _, h => by cases h; exact .non
  | .bool b, _, h => by cases h; exact .bl b
  | .int i, _, h => by cases h; exact .int i
  | .str x, _, h => by cases h; exact .str x
  | .list ds, _, h => by
    cases h with
    | lst h1 h2 => exact .lst (ex_l e h1) (dpAll_ex e ds _ h2)
  | .tuple ds, _, h => by
    cases h with
    | tup h1 h2 => exact .tup (ex_t e h1) (dpAll_ex e ds _ h2)
  | .dict _, _, h => by cases h
theorem dpAll_ex (e : Ex H H') : ∀ (ds : List PyData) (xs : List V), DpAll K H xs ds → DpAll K H' xs ds
  | [], _, h => by cases h; exact .nil
  | d :: ds, _, h => by
    cases h with
    | cons h1 h2 => exact .cons (dp_ex e d _ h1) (dpAll_ex e ds _ h2)
end
def IsD (K : PySem.W.Frag) (d : PyData) : V → Hp → Prop := fun v H => Dp K H v d
theorem stD {d : PyData} : Stable (IsD K d) := fun v _ _ e h => dp_ex e d v h
theorem ev_eqD {d e : PyData} (ha : EvX ta σ H (IsD K d)) (hb : EvX tb σ H (IsD K e)) (hd : SeqAt.shaped d = true) (he : SeqAt.shaped e = true) : Ev (tOp (rEqD K) ta tb) σ H (.bl (PyData.eqv d e)) :=
  ev_opX ha stD hb fun x y H1 _ hx hy H2 e2 Q k => ⟨d, e, dp_ex e2 d x hx, dp_ex e2 e y hy, hd, he, k H2 (Ex.refl H2)⟩
theorem ev_neD {d e : PyData} (ha : EvX ta σ H (IsD K d)) (hb : EvX tb σ H (IsD K e)) (hd : SeqAt.shaped d = true) (he : SeqAt.shaped e = true) : Ev (tOp (rNeD K) ta tb) σ H (.bl (!PyData.eqv d e)) :=
  ev_opX ha stD hb fun x y H1 _ hx hy H2 e2 Q k => ⟨d, e, dp_ex e2 d x hx, dp_ex e2 e y hy, hd, he, k H2 (Ex.refl H2)⟩
theorem xD_L {ns : List Int} (h : EvX te σ H (IsL (ns.map V.int))) : EvX te σ H (IsD K (.list (ns.map PyData.int))) := h.imp fun v H' ⟨p, e, g⟩ => by rw [e]; exact dp_ints g
theorem xD_U {ns : List Int} (h : EvX te σ H (IsU (ns.map V.int))) : EvX te σ H (IsD K (.tuple (ns.map PyData.int))) := h.imp fun v H' ⟨p, e, g⟩ => by rw [e]; exact dp_intsT g
theorem xD_v {v : V} {d : PyData} (h : Ev te σ H v) (hd : Dp K H v d) : EvX te σ H (IsD K d) := fun H1 e Q q => h H1 e Q fun H2 e2 => q v H2 e2 (dp_ex (e.trans e2) d v hd)
/-- a display of values that read as data -/
def AllD (K : PySem.W.Frag) (ds : List PyData) : List V → Hp → Prop := fun vs H => DpAll K H vs ds
theorem eax_dnil : EvAX tNil σ H (AllD K []) := fun H1 _ _ q => q [] H1 (Ex.refl H1) .nil
theorem eax_dcons {tr : TA} {d : PyData} {ds : List PyData} (h : EvX te σ H (IsD K d)) (hr : EvAX tr σ H (AllD K ds)) : EvAX (tCons te tr) σ H (AllD K (d :: ds)) := fun H1 e Q q =>
  h H1 e _ fun v H2 e2 hv => hr H2 (e.trans e2) _ fun vs H3 e3 hvs => q _ H3 (e2.trans e3) (.cons (dp_ex e3 d v hv) hvs)
theorem dpAll_len : ∀ {vs : List V} {ds : List PyData}, DpAll K H vs ds → vs.length = ds.length
  | _, [], h => by cases h; rfl
  | _, d :: ds, h => by
    cases h with
    | cons h1 h2 => rw [List.length_cons, List.length_cons, dpAll_len h2]
theorem xD_lst {ta : TA} {ds : List PyData} (h : EvAX ta σ H (AllD K ds)) (hz : ds.length ≤ 100000) : EvX (tLst ta) σ H (IsD K (.list ds)) := fun H1 e Q q =>
  h H1 e _ fun vs H2 e2 hv => ⟨sz_of (by rw [dpAll_len hv]; exact hz), fun p hp => q (.ref p) _ (e2.trans (Ex.new hp)) (.lst (.inl (.inl upd_same)) (dpAll_ex (Ex.new hp) ds vs hv))⟩
theorem xD_tup {ta : TA} {ds : List PyData} (h : EvAX ta σ H (AllD K ds)) (hz : ds.length ≤ 100000) : EvX (tTup ta) σ H (IsD K (.tuple ds)) := fun H1 e Q q =>
  h H1 e _ fun vs H2 e2 hv => ⟨sz_of (by rw [dpAll_len hv]; exact hz), fun p hp => q (.ref p) _ (e2.trans (Ex.new hp)) (.tup (.inl (.inl upd_same)) (dpAll_ex (Ex.new hp) ds vs hv))⟩
/-! moves as data -/
def m3 (m : Mv) : List Int := [(m.1 : Int), m.2.1, m.2.2]
def dM (m : Mv) : PyData := .tuple ((m3 m).map PyData.int)
def dMs (ms : List Mv) : PyData := .list (ms.map dM)
theorem dp_m {a : Addr} {m : Mv} (h : MI H a m) : Dp K H (.ref a) (dM m) := dp_intsT (ns := m3 m) h
theorem dpAll_ms : ∀ {vs : List V} {ms : List Mv}, Paired (MsAt H) vs ms → DpAll K H vs (ms.map dM)
  | _, _, .nil => .nil
  | _, _, .cons ⟨a, e, g⟩ r => .cons (by rw [e]; exact dp_m g) (dpAll_ms r)
theorem dp_ms {a : Addr} {ms : List Mv} (h : MS H a ms) : Dp K H (.ref a) (dMs ms) := by
  obtain ⟨vs, h1, h2⟩ := h
  exact .lst (.inl (.inl h1)) (dpAll_ms h2)
theorem canLay_m (m : Mv) : PyData.canLay0 (dM m) = true := by
  unfold dM
  rw [PyData.canLay0]
  exact canLayAll_ints _
theorem canLay_ms : ∀ ms : List Mv, PyData.canLayAll0 (ms.map dM) = true
  | [] => by simp [PyData.canLayAll0]
  | m :: r => by
    rw [List.map_cons, PyData.canLayAll0, canLay_m, canLay_ms r]
    rfl
theorem depth_m (m : Mv) : PyData.depth (dM m) ≤ 2 := by
  unfold dM
  rw [PyData.depth]
  have := depthAll_ints (m3 m)
  omega
theorem depth_ms : ∀ ms : List Mv, PyData.depthAll (ms.map dM) ≤ 2
  | [] => by simp [PyData.depthAll]
  | m :: r => by
    have h1 := depth_ms r
    have h2 := depth_m m
    rw [List.map_cons, PyData.depthAll]
    omega
theorem shaped_ms (ms : List Mv) : SeqAt.shaped (dMs ms) = true := by
  refine Bool.and_eq_true_iff.mpr ⟨by unfold dMs; rw [PyData.canLay0]; exact canLay_ms ms, decide_eq_true ?_⟩
  unfold dMs
  rw [PyData.depth]
  have := depth_ms ms
  omega
theorem shaped_cons {d : PyData} {ds : List PyData} (h1 : PyData.canLay0 d = true) (h2 : PyData.depth d ≤ 40) (h3 : PyData.canLayAll0 ds = true ∧ PyData.depthAll ds ≤ 40) : PyData.canLayAll0 (d :: ds) = true ∧ PyData.depthAll (d :: ds) ≤ 40 := by
  refine ⟨by rw [PyData.canLayAll0, h1, h3.1]; rfl, ?_⟩
  rw [PyData.depthAll]
  have := h3.2
  omega
theorem shaped_nil : PyData.canLayAll0 [] = true ∧ PyData.depthAll [] ≤ 40 := ⟨by simp [PyData.canLayAll0], by simp [PyData.depthAll]⟩
theorem shaped_list {ds : List PyData} (h : PyData.canLayAll0 ds = true ∧ PyData.depthAll ds ≤ 40) : SeqAt.shaped (.list ds) = true := by
  refine Bool.and_eq_true_iff.mpr ⟨by rw [PyData.canLay0]; exact h.1, decide_eq_true ?_⟩
  rw [PyData.depth]
  have := h.2
  omega
theorem lay_of {d : PyData} (h : SeqAt.shaped d = true) : PyData.canLay0 d = true := (Bool.and_eq_true_iff.mp h).1
theorem depth_ints (ns : List Int) : PyData.depth (.list (ns.map PyData.int)) ≤ 40 := by
  rw [PyData.depth]
  have := depthAll_ints ns
  omega
theorem depth_dMs (ms : List Mv) : PyData.depth (dMs ms) ≤ 40 := by
  unfold dMs
  rw [PyData.depth]
  have := depth_ms ms
  omega
mutual
theorem eqv_same : ∀ d : PyData, PyData.canLay0 d = true → PyData.eqv d d = true
  | .none, _ => by simp [PyData.eqv]
  | .bool b, _ => by simp [PyData.eqv]
  | .int i, _ => by simp [PyData.eqv]
  | .str x, _ => by simp [PyData.eqv]
  | .list ds, h => by rw [PyData.eqv]; exact eqvAll_same ds (by rw [PyData.canLay0] at h; exact h)
  | .tuple ds, h => by rw [PyData.eqv]; exact eqvAll_same ds (by rw [PyData.canLay0] at h; exact h)
  | .dict _, h => by simp [PyData.canLay0] at h
theorem eqvAll_same : ∀ ds : List PyData, PyData.canLayAll0 ds = true → PyData.eqvAll ds ds = true
  | [], _ => by simp [PyData.eqvAll]
  | d :: ds, h => by
    rw [PyData.canLayAll0, Bool.and_eq_true] at h
    rw [PyData.eqvAll, eqv_same d h.1, eqvAll_same ds h.2]
    rfl
end
theorem ev_neSame {d : PyData} (ha : EvX ta σ H (IsD K d)) (hb : EvX tb σ H (IsD K d)) (hd : SeqAt.shaped d = true) : Ev (tOp (rNeD K) ta tb) σ H (.bl false) := by
  have := ev_neD ha hb hd hd
  rw [eqv_same d (lay_of hd)] at this
  exact this
theorem ev_eqSame {d : PyData} (ha : EvX ta σ H (IsD K d)) (hb : EvX tb σ H (IsD K d)) (hd : SeqAt.shaped d = true) : Ev (tOp (rEqD K) ta tb) σ H (.bl true) := by
  have := ev_eqD ha hb hd hd
  rw [eqv_same d (lay_of hd)] at this
  exact this
/-! lists of moves, cut -/
def IsM (ms : List Mv) : V → Hp → Prop := fun v H => ∃ p, v = .ref p ∧ MS H p ms
theorem stM {ms : List Mv} : Stable (IsM ms) := fun _ _ _ e ⟨p, h, q⟩ => ⟨p, h, q.ex e⟩
theorem xM {a : Addr} {ms : List Mv} (h : Ev te σ H (.ref a)) (hM : MS H a ms) : EvX te σ H (IsM ms) := fun H1 e Q q => h H1 e Q fun H2 e2 => q _ H2 e2 ⟨a, rfl, hM.ex (e.trans e2)⟩
theorem paired_take : ∀ {vs : List V} {ms : List Mv} (n : Nat), Paired (MsAt H) vs ms → Paired (MsAt H) (vs.take n) (ms.take n)
  | _, _, _, .nil => by simp; exact .nil
  | _, _, 0, .cons _ _ => .nil
  | _, _, n + 1, .cons g r => .cons g (paired_take n r)
theorem paired_drop : ∀ {vs : List V} {ms : List Mv} (n : Nat), Paired (MsAt H) vs ms → Paired (MsAt H) (vs.drop n) (ms.drop n)
  | _, _, _, .nil => by simp; exact .nil
  | _, _, 0, .cons g r => .cons g r
  | _, _, n + 1, .cons _ r => paired_drop n r
theorem cut_to (xs : List V) (c : Nat) : cutV xs none (some (c : Int)) = xs.take c := by
  unfold cutV
  rw [HT.sIx_none, HT.sIx_nat, Nat.sub_zero, List.drop_zero]
  by_cases h : c ≤ xs.length
  · rw [Nat.min_eq_left h]
  · rw [Nat.min_eq_right (by omega), List.take_of_length_le (Nat.le_refl _), List.take_of_length_le (by omega)]
theorem cut_from (xs : List V) (c : Nat) : cutV xs (some (c : Int)) none = xs.drop c := by
  unfold cutV
  rw [HT.sIx_none, HT.sIx_nat]
  by_cases h : c ≤ xs.length
  · rw [Nat.min_eq_left h]
    exact List.take_of_length_le (by rw [List.length_drop]; omega)
  · rw [Nat.min_eq_right (by omega), Nat.sub_self, List.take_zero]
    exact (List.drop_of_length_le (by omega)).symm
theorem xM_to {a : Addr} {ms : List Mv} {c : Nat} (h : Ev te σ H (.ref a)) (hc : Ev tb σ H (.int (c : Int))) (hM : MS H a ms) : EvX (tSl (rSlL K) te tNoPart (tPart tb)) σ H (IsM (ms.take c)) := by
  obtain ⟨vs, h1, h2⟩ := hM
  have := el_sl (K := K) h eo_none (eo_some hc) (sq_of h1)
  rw [cut_to] at this
  exact fun H1 e Q q => this H1 e Q fun p H2 _ e2 g => q _ H2 e2 ⟨p, rfl, _, g, paired_take c (paired_mono (e.trans e2) h2)⟩
theorem xM_from {a : Addr} {ms : List Mv} {c : Nat} (h : Ev te σ H (.ref a)) (hc : Ev tb σ H (.int (c : Int))) (hM : MS H a ms) : EvX (tSl (rSlL K) te (tPart tb) tNoPart) σ H (IsM (ms.drop c)) := by
  obtain ⟨vs, h1, h2⟩ := hM
  have := el_sl (K := K) h (eo_some hc) eo_none (sq_of h1)
  rw [cut_from] at this
  exact fun H1 e Q q => this H1 e Q fun p H2 _ e2 g => q _ H2 e2 ⟨p, rfl, _, g, paired_drop c (paired_mono (e.trans e2) h2)⟩
/-- row_after as a value -/
theorem xL_row_after {ns : List Int} {ms : List Mv} {k j : Nat} (ha : EvX ta σ H (IsL (ns.map V.int))) (hb : EvX tb σ H (IsM ms)) (hR : IsRow ns) (h40 : ms.length ≤ 40) (hO : ∀ m ∈ ms, OkM ns.length j m) (hz : Sz k ns) (hk : k + ms.length * (j + 5) < 8000) (hj : j < 8000) :
    EvL (tCall (sp_row_after K) [] E0 (tCons ta (tCons tb tNil))) σ H ((mvs ns ms).map V.int) :=
  el_callX (eax_cons ha stL (eax_cons hb stM eax_nil)) fun vs H3 e3 ⟨_, _, e1, ⟨p, e2, hp⟩, _, _, e4, ⟨c, e5, hc⟩, e6⟩ => by
    subst e1 e2 e4 e5
    rw [show _ = [] from e6]
    exact spl_row_after hp hc hR h40 hO hz hk hj
theorem ev_ixLast {xs : List V} {v : V} {a : Addr} (ha : Ev ta σ H (.ref a)) (h : SqL K H a (xs ++ [v])) : Ev (tOp (rIxL K) ta (tUn rNegI (tC (.int 1)))) σ H v :=
  ev_op ha (ev_negI ev_c) (rv_ixL h (atI_last xs v))
theorem paired_last : ∀ {ms : List Mv} {vs : List V} {m : Mv}, Paired (MsAt H) vs (ms ++ [m]) → ∃ us b, vs = us ++ [.ref b] ∧ Paired (MsAt H) us ms ∧ MI H b m
  | [], vs, m, h => by
    cases h with
    | cons g r =>
      cases r
      obtain ⟨b, e, gb⟩ := g
      exact ⟨[], b, by rw [e]; rfl, .nil, gb⟩
  | m' :: ms, vs, m, h => by
    cases h with
    | cons g r =>
      obtain ⟨us, b, e, r', gb⟩ := paired_last (ms := ms) r
      exact ⟨_ :: us, b, by rw [e]; rfl, .cons g r', gb⟩
theorem eqvAll_nil_of_ne {d : PyData} {ds : List PyData} : PyData.eqvAll (d :: ds) [] = false := by simp [PyData.eqvAll]
/-! displays of moves, lists changed in place -/
def AllM (ms : List Mv) : List V → Hp → Prop := fun vs H => Paired (MsAt H) vs ms
theorem eax_mnil : EvAX tNil σ H (AllM []) := fun H1 _ _ q => q [] H1 (Ex.refl H1) .nil
theorem eax_mcons {tr : TA} {m : Mv} {ms : List Mv} (h : EvX te σ H (IsU (mvV m))) (hr : EvAX tr σ H (AllM ms)) : EvAX (tCons te tr) σ H (AllM (m :: ms)) := fun H1 e Q q =>
  h H1 e _ fun v H2 e2 ⟨p, ev, hp⟩ => hr H2 (e.trans e2) _ fun vs H3 e3 hvs => q _ H3 (e2.trans e3) (.cons ⟨p, ev, e3 _ _ hp⟩ hvs)
theorem xM_lst {ta : TA} {ms : List Mv} (h : EvAX ta σ H (AllM ms)) (hz : ms.length ≤ 100000) : EvX (tLst ta) σ H (IsM ms) := fun H1 e Q q =>
  h H1 e _ fun vs H2 e2 hv => ⟨sz_of (by rw [paired_len hv]; exact hz), fun p hp => q (.ref p) _ (e2.trans (Ex.new hp)) ⟨p, rfl, vs, upd_same, paired_mono (Ex.new hp) hv⟩⟩
theorem xU_move {a b c : TE} {m : Mv} (h1 : Ev a σ H (.int (m.1 : Int))) (h2 : Ev b σ H (.int m.2.1)) (h3 : Ev c σ H (.int m.2.2)) : EvX (tTup (tCons a (tCons b (tCons c tNil)))) σ H (IsU (mvV m)) := xU (eu_tup (ea_cons h1 (ea_cons h2 (ea_cons h3 ea_nil))) (by show 3 ≤ 100000; decide))
theorem paired_updL {q : Addr} {xs : List V} {o : HO} (hq : H q = some (.lst xs)) : ∀ {vs : List V} {ms : List Mv}, Paired (MsAt H) vs ms → Paired (MsAt (upd H q o)) vs ms
  | _, _, .nil => .nil
  | _, _, .cons ⟨b, e, g⟩ r => .cons ⟨b, e, by
      show _ = _
      rw [upd_ne (fun z => by
        have g' : H b = some (.tup _) := g
        rw [z, hq] at g'
        cases g')]
      exact g⟩ (paired_updL hq r)
theorem MS.updL {q c : Addr} {xs : List V} {o : HO} {ms : List Mv} (h : MS H c ms) (hq : H q = some (.lst xs)) (hc : c ≠ q) : MS (upd H q o) c ms := by
  obtain ⟨vs, h1, h2⟩ := h
  exact ⟨vs, by rw [upd_ne hc]; exact h1, paired_updL hq h2⟩
theorem paired_app : ∀ {vs : List V} {ms : List Mv} {us : List V} {ns : List Mv}, Paired (MsAt H) vs ms → Paired (MsAt H) us ns → Paired (MsAt H) (vs ++ us) (ms ++ ns)
  | _, _, _, _, .nil, h => h
  | _, _, _, _, .cons g r, h => .cons g (paired_app r h)
theorem paired_rev : ∀ {vs : List V} {ms : List Mv}, Paired (MsAt H) vs ms → Paired (MsAt H) vs.reverse ms.reverse
  | _, _, .nil => .nil
  | _, _, .cons g r => by
    rw [List.reverse_cons, List.reverse_cons]
    exact paired_app (paired_rev r) (.cons g .nil)
theorem Stp.upd {s q : Addr} {n : Nat} {H H1 : Hp} {o : HO} (x : Stp s n H H1) (hq : q ≠ s) (h : H q = none) : Stp s n H (upd H1 q o) := by
  refine ⟨?_, fun c o' hc hco => ?_⟩
  · obtain ⟨u0, u1, u2, g, g'⟩ := x.src
    exact ⟨u0, u1, u2, by rw [upd_ne (Ne.symm hq)]; exact g, g'⟩
  · rw [upd_ne (ne_of_none hco h)]
    exact x.ex c o' hc hco
theorem LI.upd_ne {a q : Addr} {ns : List Int} {o : HO} (h : LI H a ns) (hq : a ≠ q) : LI (upd H q o) a ns := by
  show _ = _
  rw [L2.upd_ne hq]
  exact h
/-- xs.reverse(), xs.clear() -/
theorem q_rev {tz : TS} {D : Ends} {a : Addr} {xs : List V} (h : Ev ta σ H (.ref a)) (hx : H a = some (.lst xs)) (k : ∀ H1, Ex H H1 → tz D σ (upd H1 a (.lst xs.reverse))) : tSeq (tDrop (tBM0 K "list" rReverse ta)) tz D σ H :=
  h H (Ex.refl H) _ fun H1 e1 => ⟨.inl ⟨rfl, xs, sq_of (e1 _ _ hx)⟩, a, xs, rfl, rfl, e1 _ _ hx, k H1 e1⟩
theorem q_clear {tz : TS} {D : Ends} {a : Addr} {xs : List V} (h : Ev ta σ H (.ref a)) (hx : H a = some (.lst xs)) (k : ∀ H1, Ex H H1 → tz D σ (upd H1 a (.lst []))) : tSeq (tDrop (tBM0 K "list" rClear ta)) tz D σ H :=
  h H (Ex.refl H) _ fun H1 e1 => ⟨.inl ⟨rfl, xs, sq_of (e1 _ _ hx)⟩, a, xs, rfl, rfl, e1 _ _ hx, k H1 e1⟩
theorem gcdL_rev (ns : List Int) : gcdL ns.reverse = gcdL ns := dvd_antisymm' (gcdL_nn _) (gcdL_nn _) (gcdL_greatest fun x hx => gcdL_dvd (List.mem_reverse.mpr hx)) (gcdL_greatest fun x hx => gcdL_dvd (List.mem_reverse.mp hx))
theorem IsRow.rev {ns : List Int} (h : IsRow ns) : IsRow ns.reverse := ⟨by rw [List.length_reverse]; exact h.lo, by rw [List.length_reverse]; exact h.hi, fun x hx => h.pos x (List.mem_reverse.mp hx), by rw [gcdL_rev]; exact h.one⟩
theorem Sz.rev {k : Nat} {ns : List Int} (h : Sz k ns) : Sz k ns.reverse := fun x hx => h x (List.mem_reverse.mp hx)
/-- a drawn item of a display of two values that hold R -/
theorem o_pick2 {ta : TA} {ts : TE} {x y : V} {a : Addr} {n : Nat} {R : V → Prop} (ha : EvA ta σ H [x, y]) (hs : ∀ H1, Ex H H1 → Ev ts σ H1 (.ref a)) (hS : Src a n H) (hn : n < 1000000) (hx : R x) (hy : R y)
    (k : ∀ v H', R v → Stp a (n + 1) H H' → Q v H') : tOp (rIxL K) (tLst ta) (tCall (sp_draw K) [] E0 (tCons ts (tCons (tC (.int 2)) tNil))) σ H Q := by
  refine o_opX (o_lst ha (by show 2 ≤ 100000; decide) fun p H1 hp e1 h1 => ?_)
  refine c_draw (hs H1 e1) ev_c (hS.ex e1) hn (by decide) (by decide) fun d H2 d0 d1 s => ?_
  have h2 : H2 p = some (.lst [x, y]) := s.here (hS.ne hp) h1
  have : d = 0 ∨ d = 1 := by omega
  rcases this with h | h
  · subst h; exact ⟨p, _, 0, x, rfl, rfl, .inl (.inl h2), rfl, k _ _ hx ((hS.stp e1).next s)⟩
  · subst h; exact ⟨p, _, 1, y, rfl, rfl, .inl (.inl h2), rfl, k _ _ hy ((hS.stp e1).next s)⟩
theorem o_if {t : TT} {b : Bool} (h : EvT t σ H b) (h1 : b = true → ∀ H1, Ex H H1 → ta σ H1 Q) (h2 : b = false → ∀ H1, Ex H H1 → tb σ H1 Q) : tIf t ta tb σ H Q := h H (Ex.refl H) _ fun H1 e1 => by
  cases b with
  | true => exact iteT (h1 rfl H1 e1)
  | false => exact iteF (h2 rfl H1 e1)
theorem c_weights {t1 t2 t3 : TE} {a : Addr} {n : Nat} {w wide : Int} {k : Nat} (h1 : Ev t1 σ H (.ref a)) (h2 : Ev t2 σ H (.int w)) (h3 : Ev t3 σ H (.int wide)) (hS : Src a n H) (hn : n < 900000) (hw2 : 2 ≤ w) (hw8 : w ≤ 8) (hwd : 1 ≤ wide) (hwd' : wide.natAbs < 2 ^ k) (hk : k ≤ 220)
    (q : ∀ p H' ns, H p = none → p ≠ a → Stp a (n + 20) H H' → LI H' p ns → IsRow ns → (ns.length : Int) = w → Sz k ns → Q (.ref p) H') : tCall (sp_weights K) [] E0 (tCons t1 (tCons t2 (tCons t3 tNil))) σ H Q :=
  o_call ((ea_cons h1 (ea_cons h2 (ea_cons h3 ea_nil))) H (Ex.refl H) _ fun H1 e1 => dr_weights (hS.ex e1) hn hw2 hw8 hwd hwd' hk fun p H' ns hp hpa s => q p H' ns (fresh_back e1 hp) hpa ((hS.stp e1).next s))
end
end SL

namespace SL
open PySem PySem.Spec PyProof.Rows L2 Evl
section
variable {K : PySem.W.Frag} {vs : List V} {H : Hp} {Q : VK} {E : XK}
def sp_right37 (K : PySem.W.Frag) : Sp := fun vs H Q _ => ∃ (s a c : Addr) (n : Nat) (ns : List Int) (ms : List Mv) (k j : Nat), vs = [.ref s, .ref a, .ref c] ∧ Src s n H ∧ n < 900000 ∧ a ≠ s ∧ c ≠ s ∧ LI H a ns ∧ MS H c ms ∧ IsRow ns ∧ ms.length ≤ 40 ∧ (∀ m ∈ ms, OkM ns.length j m) ∧ Sz k ns ∧ k ≤ 120 ∧ j ≤ 120 ∧
  ∀ H', Stp s (n + 1) H H' → Q (.bl true) H'
theorem ln_right37 (h : sp_right37 K vs H Q E) : vs.length = (["source", "weights_here", "deeds"] : List Str).length := by obtain ⟨s, a, c, n, ns, m, k, j, rfl, _⟩ := h; rfl
abbrev N_right37 : List Str := ["source", "weights_here", "deeds", "kept", "found", "cut", "still", "one", "two", "spot", "deed"]
def t_right37 (K : PySem.W.Frag) : TS :=
  (tSeq (tAsg (tLst (tCons (tCB (Evl.rListS K) (tCons (tVar 1) tNil)) (tCons (tCB (Evl.rListS K) (tCons (tVar 2) tNil)) tNil))) (gName 3))
    (tSeq (tAsg (tCall (sp_row_after K) [] E0 (tCons (tVar 1) (tCons (tVar 2) tNil))) (gName 4))
    (tSeq (tIfS (tOr (tTest (tOp (rNeD K) (tVar 4) (tCall (sp_led K) [] E0 (tCons (tVar 1) (tCons (tVar 2) tNil))))) (tTest (tOp (rNeD K) (tLst (tCons (tVar 1) (tCons (tVar 2) tNil))) (tVar 3)))) (tRet (tC (.bl false))) tNext)
    (tSeq (tAsg (tCall (sp_draw K) [] E0 (tCons (tVar 0) (tCons (tOp rAddI (tCB (Evl.rLenS K) (tCons (tVar 2) tNil)) (tC (.int 1))) tNil))) (gName 5))
    (tSeq (tIfS (tTest (tOp (rNeD K) (tCall (sp_row_after K) [] E0 (tCons (tCall (sp_row_after K) [] E0 (tCons (tVar 1) (tCons (tSl (rSlL K) (tVar 2) tNoPart (tPart (tVar 5))) tNil))) (tCons (tSl (rSlL K) (tVar 2) (tPart (tVar 5)) tNoPart) tNil))) (tVar 4))) (tRet (tC (.bl false))) tNext)
    (tSeq (tIfS (tAnd (tTest (tOp (rNeD K) (tVar 2) (tLst tNil))) (tTest (tOp (rNeD K) (tCall (sp_share_of K) [] E0 (tCons (tVar 4) (tCons (tOp (rIxT K) (tOp (rIxL K) (tVar 2) (tUn rNegI (tC (.int 1)))) (tC (.int 0))) tNil))) (tSl (rSlT K) (tOp (rIxL K) (tVar 2) (tUn rNegI (tC (.int 1)))) (tPart (tC (.int 1))) tNoPart)))) (tRet (tC (.bl false))) tNext)
    (tSeq (tAsg (tLc (iRng1 (tCons (tCB (Evl.rLenS K) (tCons (tVar 4) tNil)) tNil)) (gName 9) (tTest (tOp (rIn K true) (tVar 9) (tLc (iList K (tVar 2)) (gName 10) tYes (tOp (rIxT K) (tVar 10) (tC (.int 0))) [10]))) (tVar 9) [9]) (gName 6))
    (tSeq (tFor (iZip K (tCons (tVar 6) (tCons (tSl (rSlL K) (tVar 6) (tPart (tC (.int 1))) tNoPart) tNil))) (gTup K 2 (gCons (gName 7) (gCons (gName 8) gNil))) (tIfS (tTest (tOp rNe (tOp rMulI (tOp (rIxL K) (tVar 4) (tVar 7)) (tOp (rIxL K) (tVar 1) (tVar 8))) (tOp rMulI (tOp (rIxL K) (tVar 4) (tVar 8)) (tOp (rIxL K) (tVar 1) (tVar 7))))) (tRet (tC (.bl false))) tNext))
    (tRet (tC (.bl true)))))))))))
def stillB (ms : List Mv) (i : Nat) : Bool := !inV (.int (i : Int)) (ms.map fun m => .int (m.1 : Int))
theorem stillB_of {ms : List Mv} {i : Nat} (h : stillB ms i = true) : ∀ m ∈ ms, i ≠ m.1 := by
  intro m hm z
  unfold stillB inV at h
  rw [Bool.not_eq_true', List.any_eq_false] at h
  have := h (.int (m.1 : Int)) (List.mem_map.mpr ⟨m, hm, rfl⟩)
  apply this
  rw [z]
  simp [eqV]
theorem rd_right37 (h : sp_right37 K vs H Q E) : t_right37 K (fin Q) (start N_right37 vs) H := by
  obtain ⟨s, a, c, n, ns, ms, k, j, rfl, hS, hn, has, hcs, hL, hM, hR, h40, hO, hz, hk, hj, q⟩ := h
  have hkj : ∀ i, i ≤ 40 → k + i * (j + 5) < 8000 := fun i hi => by
    have := Nat.mul_le_mul hi (show j + 5 ≤ 125 by omega)
    omega
  obtain ⟨mvs0, hc0, hP0⟩ := hM
  have hM : MS H c ms := ⟨mvs0, hc0, hP0⟩
  -- kept
  refine q_asgX ((el_list (ev_var rfl) hL.sq) H (Ex.refl H) _ fun p0 H0 hp0 e0 h0 => (el_list (ev_var rfl) (sq_of (e0 _ _ hc0))) H0 (Ex.refl H0) _ fun p1 H1 hp1 e1 h1 => ⟨by show 2 ≤ sizeLine; decide, fun pk hpk => ?_⟩)
  generalize hH2 : upd H1 pk _ = H2
  have e2 : Ex H H2 := by rw [← hH2]; exact (e0.trans e1).trans (Ex.new hpk)
  have dk : Dp K H2 (.ref pk) (.list [.list (ns.map PyData.int), dMs ms]) := by
    refine .lst (.inl (.inl (by rw [← hH2]; exact upd_same))) (.cons ?_ (.cons ?_ .nil))
    · exact dp_ints (by rw [← hH2]; exact (Ex.new hpk) _ _ (e1 _ _ h0))
    · exact dp_ms ⟨mvs0, by rw [← hH2]; exact (Ex.new hpk) _ _ h1, paired_mono e2 hP0⟩
  -- found
  have hL2 := hL.ex e2
  have hM2 := hM.ex e2
  refine q_asgL (xL_row_after (xLv (ev_var rfl) hL2) (xM (ev_var rfl) hM2) hR h40 hO hz (hkj _ h40) (by omega)) fun pf H3 hpf e3 hF => ?_
  have hRf : IsRow (mvs ns ms) := mvs_row hR rfl hO
  have hlf : (mvs ns ms).length = ns.length := mvs_len _ _
  have hzf := mvs_sz hR rfl hO hz
  have hkf := hkj _ h40
  replace hF : LI H3 pf (mvs ns ms) := hF
  have hL3 := hL2.ex e3
  have hM3 := hM2.ex e3
  have led := spl_led (K := K) hL3 hM3 hR.pos hR.lo hR.hi hO hz hkf (by omega)
  rw [red_self hR.one] at led
  have hsh : SeqAt.shaped (.list [.list (ns.map PyData.int), dMs ms]) = true := shaped_list (shaped_cons (lay_of (shaped_ints ns)) (depth_ints ns) (shaped_cons (lay_of (shaped_ms ms)) (depth_dMs ms) shaped_nil))
  refine q_when (b := false) (et_is (et_or (et_test (ev_neL (ns := mvs ns ms) (ms := mvs ns ms) (xLv (ev_var rfl) hF) (xL (el_call (ea_cons (ev_var rfl) (ea_cons (ev_var rfl) ea_nil)) led)))) fun _ => et_test (ev_neSame (d := .list [.list (ns.map PyData.int), dMs ms]) (xD_lst (eax_dcons (xD_v (ev_var rfl) (dp_ints hL3)) (eax_dcons (xD_v (ev_var rfl) (dp_ms hM3)) eax_dnil)) (by show 2 ≤ 100000; decide)) (xD_v (ev_var rfl) (dp_ex e3 _ _ dk)) hsh)) (by simp)) (fun hb => by cases hb) fun _ H4 e4 => ?_
  -- cut
  have s4 : Stp s n H H4 := hS.stp ((e2.trans e3).trans e4)
  refine q_asgX (c_draw (ev_var rfl) (ev_addI (ev_lenM (ev_var rfl) (hM3.ex e4)) ev_c) s4.src (by omega) (by omega) (by omega) fun d H5 d0 d1 s5 => ?_)
  have hpfs : pf ≠ s := fun z => by
    obtain ⟨u0, u1, u2, g, _⟩ := hS.ex e2
    rw [z, g] at hpf
    cases hpf
  have hF5 : LI H5 pf (mvs ns ms) := s5.here hpfs (hF.ex e4)
  have hL5 : LI H5 a ns := s5.here has (hL3.ex e4)
  have hM5 : MS H5 c ms := (hM3.ex e4).exb s4.src hcs s5.ex
  have sAll : Stp s (n + 1) H H5 := s4.next s5
  have hdn : d = ((d.toNat : Nat) : Int) := by omega
  have vd : ∀ {σ : L2.St} {H' : Hp} {te : TE}, Ev te σ H' (.int d) → Ev te σ H' (.int ((d.toNat : Nat) : Int)) := fun h => by rw [← hdn]; exact h
  have hOt : ∀ m ∈ ms.take d.toNat, OkM ns.length j m := fun m h => hO m (List.mem_of_mem_take h)
  have hOd : ∀ m ∈ ms.drop d.toNat, OkM ns.length j m := fun m h => hO m (List.mem_of_mem_drop h)
  have hRt : IsRow (mvs ns (ms.take d.toNat)) := mvs_row hR rfl hOt
  have hlt : (mvs ns (ms.take d.toNat)).length = ns.length := mvs_len _ _
  have hzt := mvs_sz hR rfl hOt hz
  have l1 : (ms.take d.toNat).length ≤ 40 := by rw [List.length_take]; omega
  have l2 : (ms.drop d.toNat).length ≤ 40 := by rw [List.length_drop]; omega
  have l12 : (ms.take d.toNat).length + (ms.drop d.toNat).length = ms.length := by rw [List.length_take, List.length_drop]; omega
  have k12 : k + (ms.take d.toNat).length * (j + 5) + (ms.drop d.toNat).length * (j + 5) < 8000 := by
    rw [Nat.add_assoc, ← Nat.add_mul, l12]
    exact hkf
  refine q_when (b := false) (et_is (et_test (ev_neL (ns := mvs (mvs ns (ms.take d.toNat)) (ms.drop d.toNat)) (ms := mvs ns ms) (xL (xL_row_after (j := j) (xL (xL_row_after (xLv (ev_var rfl) hL5) (xM_to (ev_var rfl) (vd (ev_var rfl)) hM5) hR l1 hOt hz (hkj _ l1) (by omega))) (xM_from (ev_var rfl) (vd (ev_var rfl)) hM5) hRt l2 (by rw [hlt]; exact hOd) hzt k12 (by omega))) (xLv (ev_var rfl) hF5))) (by rw [mvs_cut]; simp)) (fun hb => by cases hb) fun _ H6 e6 => ?_
  have hF6 := hF5.ex e6
  have hL6 := hL5.ex e6
  obtain ⟨xs6, hc6, hP6⟩ := hM5.ex e6
  have hM6 : MS H6 c ms := ⟨xs6, hc6, hP6⟩
  -- the last move's share
  refine q_when (b := false) (et_is (et_and (et_test (ev_neD (d := dMs ms) (e := .list []) (xD_v (ev_var rfl) (dp_ms hM6)) (xD_lst eax_dnil (by show 0 ≤ 100000; decide)) (shaped_ms ms) (shaped_list shaped_nil))) (b := false) fun hne => ?_) (by rw [Bool.and_false])) (fun hb => by cases hb) fun _ H7 e7 => ?_
  · have hne' : ms ≠ [] := fun z => by
      subst z
      rw [show PyData.eqv (dMs []) (.list []) = true by decide +kernel] at hne
      cases hne
    obtain ⟨init, m, rfl⟩ : ∃ init m, ms = init ++ [m] := ⟨ms.dropLast, ms.getLast hne', (List.dropLast_concat_getLast hne').symm⟩
    obtain ⟨us, b, rfl, hPu, hb⟩ := paired_last hP6
    have om := hO m (List.mem_append_right _ (List.mem_singleton.mpr rfl))
    obtain ⟨t1, t2⟩ := mvs_last (n := ns.length) (j := j) (ms := init) (m := m) hR rfl (fun x hx => hO x hx)
    have hms : m.1 < (mvs ns (init ++ [m])).length := by rw [hlf]; exact om.s
    have sh := spu_share_of (K := K) hF6 hRf hms hzf (by omega)
    rw [t1, t2] at sh
    have last : ∀ {te : TE} {σ : L2.St}, Ev te σ H6 (.ref c) → Ev (tOp (rIxL K) te (tUn rNegI (tC (.int 1)))) σ H6 (.ref b) := fun h => ev_ixLast h (sq_of hc6)
    refine et_test (ev_neSame (d := .tuple ([m.2.1, m.2.2].map PyData.int)) (xD_U (ns := [m.2.1, m.2.2]) (xU (eu_call (ea_cons (ev_var rfl) (ea_cons (ev_ixT (i := 0) (last (ev_var rfl)) ev_c hb rfl rfl) ea_nil)) sh))) ?_ (shaped_intsT [m.2.1, m.2.2]))
    intro H8 e8 Q' q'
    refine (last (ev_var rfl)) H8 e8 _ fun H9 e9 => ⟨1, rfl, b, mvV m, rfl, .inl (.inl (e9 _ _ (e8 _ _ hb))), ?_⟩
    refine ⟨?_, fun p hp => q' _ _ (e9.trans (Ex.new hp)) (dp_intsT (ns := [m.2.1, m.2.2]) upd_same)⟩
    rintro ⟨z, _⟩
    exact absurd (show (1 : Nat) = 0 from z) (by decide)
  -- still
  have hF7 := hF6.ex e7
  have hL7 := hL6.ex e7
  have hM7 := hM6.ex e7
  refine q_asgL (xs := Evl.given (mvs ns ms).length (stillB ms) fun i => .int (i : Int)) ?_ fun po H8 hpo e8 hO8 => ?_
  · have := el_lcR1 (σ := [some (.ref s), some (.ref a), some (.ref c), some (.ref pk), some (.ref pf), some (.int d), none, none, none, none, none]) (H := H7) (ta := tCons (tCB (rLenS K) (tCons (tVar 4) tNil)) tNil) (j := 9) (vs := [9]) (n := ((mvs ns ms).length : Int)) (t := tTest (tOp (rIn K true) (tVar 9) (tLc (iList K (tVar 2)) (gName 10) tYes (tOp (rIxT K) (tVar 10) (tC (.int 0))) [10]))) (te := tVar 9)
      (stillB ms) (fun i => .int (i : Int)) (ea_cons (ev_lenI (ev_var rfl) hF7) ea_nil) (by have := hRf.hi; omega) (fun x => rfl) (fun i H9 e9 hi => et_test (ev_opX (xV (ev_var rfl)) stV (xL (el_lcM (fun m => .int (m.1 : Int)) (ev_var rfl) (hM7.ex e9) (by omega) fun m b H10 e10 hm hb => ev_ixT (i := 0) (ev_var rfl) ev_c hb rfl rfl)) ?_)) (fun i H9 e9 hi _ => ev_var rfl)
    · rw [Int.toNat_natCast] at this
      exact this
    · rintro x y H10 e10 rfl ⟨p, rfl, hp⟩
      refine fun H11 e11 Q' q' => ⟨p, _, rfl, .inl (.inl (.inl (e11 _ _ hp))), rfl, ?_, q' H11 (Ex.refl H11)⟩
      rw [List.all_eq_true]
      intro v hv
      obtain ⟨m, _, rfl⟩ := List.mem_map.mp hv
      rfl
  have hF8 := hF7.ex e8
  have hL8 := hL7.ex e8
  have gv : ∀ (x : V), x ∈ Evl.given (mvs ns ms).length (stillB ms) (fun i => .int (i : Int)) → ∃ i : Nat, x = .int (i : Int) ∧ i < ns.length ∧ ∀ m ∈ ms, i ≠ m.1 := by
    intro x hx
    unfold Evl.given at hx
    obtain ⟨i, hi, rfl⟩ := List.mem_map.mp hx
    rw [List.mem_filter, List.mem_range, hlf] at hi
    exact ⟨i, rfl, hi.1, stillB_of hi.2⟩
  generalize hg : Evl.given (mvs ns ms).length (stillB ms) (fun i => .int (i : Int)) = gl at *
  have done : Stp s (n + 1) H H8 := ((sAll.then e6).then e7).then e8
  refine q_forZip (xs := gl) (ys := cutV gl (some 1) none)
    (fun u v σ' H' => ∃ z7 z8, σ' = [some (.ref s), some (.ref a), some (.ref c), some (.ref pk), some (.ref pf), some (.int d), some (.ref po), z7, z8, none, none] ∧ Ex H8 H' ∧ SqL K H' u gl ∧ SqL K H' v (cutV gl (some 1) none))
    (eax_cons (xS (ev_var rfl) (sq_of hO8)) stS (eax_cons (xLS (el_sl (ev_var rfl) (eo_some ev_c) eo_none (sq_of hO8))) stS eax_nil)) (fun u v H9 e9 h1 h2 => ⟨none, none, rfl, e9, h1, h2⟩) (fun u v σ' H' ⟨_, _, _, _, h1, h2⟩ => ⟨h1, h2⟩) ?_ ?_
  · rintro u v i x y T σ' H' hx hy ⟨z7, z8, rfl, e9, h1, h2⟩ hT
    obtain ⟨x, rfl, xl, xm⟩ := gv x (List.mem_of_getElem? hx)
    have hy' : y ∈ gl := List.mem_of_mem_drop (List.mem_of_mem_take (List.mem_of_getElem? hy))
    obtain ⟨y, rfl, yl, ym⟩ := gv y hy'
    have hF9 := (hF8.ex e9).ex (Ex.new (o := .tup [.int (x : Int), .int (y : Int)]) hT)
    have hL9 := (hL8.ex e9).ex (Ex.new (o := .tup [.int (x : Int), .int (y : Int)]) hT)
    have rx := getD_some (show x < (mvs ns ms).length by omega)
    have ry := getD_some (show y < (mvs ns ms).length by omega)
    have nx := getD_some xl
    have ny := getD_some yl
    have ratio := mvs_ratio hR rfl hO xl yl (fun m hm => ⟨xm m hm, ym m hm⟩)
    refine ⟨T, _, rfl, .inl (.inl upd_same), rfl, _, _, rfl, _, _, rfl, rfl, ?_⟩
    refine s_when (b := false) (et_is (et_test (ev_neI (ev_mulI (ev_ixI (ev_var rfl) (ev_var rfl) hF9 rfl rx) (ev_ixI (ev_var rfl) (ev_var rfl) hL9 rfl ny) (wide_mul' (hzf _ (List.mem_of_getElem? rx)) (hz _ (List.mem_of_getElem? ny)) (by omega))) (ev_mulI (ev_ixI (ev_var rfl) (ev_var rfl) hF9 rfl ry) (ev_ixI (ev_var rfl) (ev_var rfl) hL9 rfl nx) (wide_mul' (hzf _ (List.mem_of_getElem? ry)) (hz _ (List.mem_of_getElem? nx)) (by omega))))) (by rw [ratio]; simp)) (fun hb => by cases hb) fun _ H10 e10 => ?_
    exact ⟨_, _, rfl, (e9.trans (Ex.new hT)).trans e10, ex_l e10 (ex_l (Ex.new hT) h1), ex_l e10 (ex_l (Ex.new hT) h2)⟩
  · rintro u v σ' H' ⟨z7, z8, rfl, e9, _, _⟩
    exact s_ret ev_c fun H10 e10 => q H10 ((done.then e9).then e10)
theorem c_right37 {σ : L2.St} {ta tb tc : TE} {s a c : Addr} {n : Nat} {ns : List Int} {ms : List Mv} {k j : Nat} (h1 : Ev ta σ H (.ref s)) (h2 : Ev tb σ H (.ref a)) (h3 : Ev tc σ H (.ref c)) (hS : Src s n H) (hn : n < 900000) (has : a ≠ s) (hcs : c ≠ s) (hL : LI H a ns) (hM : MS H c ms) (hR : IsRow ns) (h40 : ms.length ≤ 40) (hO : ∀ m ∈ ms, OkM ns.length j m) (hz : Sz k ns) (hk : k ≤ 120) (hj : j ≤ 120)
    (q : ∀ H', Stp s (n + 1) H H' → Q (.bl true) H') : tCall (sp_right37 K) [] E0 (tCons ta (tCons tb (tCons tc tNil))) σ H Q :=
  o_call ((ea_cons h1 (ea_cons h2 (ea_cons h3 ea_nil))) H (Ex.refl H) _ fun H1 e1 => ⟨s, a, c, n, ns, ms, k, j, rfl, hS.ex e1, hn, has, hcs, hL.ex e1, hM.ex e1, hR, h40, hO, hz, hk, hj, fun H' s' => q H' ((hS.stp e1).next s')⟩)
def sp_law37 (K : PySem.W.Frag) : Sp := fun vs H Q _ => ∃ (a : Addr) (ns : List Int), vs = [.ref a] ∧ SqL K H a (ns.map V.int) ∧ ns.length ≤ 63 ∧ ∀ H', Q (.bl true) H'
theorem ln_law37 (h : sp_law37 K vs H Q E) : vs.length = (["script"] : List Str).length := by obtain ⟨a, b, rfl, _⟩ := h; rfl
abbrev N_law37 : List Str := ["script", "k", "source", "turn", "width", "wide", "weights_here", "many", "deeds"]
def t_law37 (K : PySem.W.Frag) : TS :=
  (tSeq (tFor (iRng1 (tCons (tCB Evl.rMax2 (tCons (tC (.int 1)) (tCons (tCB rMin2 (tCons (tC (.int 6)) (tCons (tCB (Evl.rLenS K) (tCons (tVar 0) tNil)) tNil))) tNil))) tNil)) (gName 1) (tSeq (tAsg (tCall (sp_openSource K) [] E0 (tCons (tVar 0) (tCons (tVar 1) tNil))) (gName 2))
    (tFor (iRng1 (tCons (tC (.int 4)) tNil)) (gName 3) (tSeq (tAsg (tCall (sp_width K) [] E0 (tCons (tVar 2) (tCons (tVar 0) tNil))) (gName 4))
    (tSeq (tAsg (tIf (tTest (tOp rEq (tOp rAddI (tVar 1) (tVar 3)) (tC (.int 0)))) (tOp rPowI (tC (.int 10)) (tC (.int 30))) (tOp (rIxL K) (tLst (tCons (tC (.int 4)) (tCons (tC (.int 100)) tNil))) (tCall (sp_draw K) [] E0 (tCons (tVar 2) (tCons (tC (.int 2)) tNil))))) (gName 5))
    (tSeq (tAsg (tCall (sp_weights K) [] E0 (tCons (tVar 2) (tCons (tVar 4) (tCons (tVar 5) tNil)))) (gName 6))
    (tSeq (tAsg (tIf (tTest (tOp (rEqD K) (tVar 0) (tLst tNil))) (tC (.int 3)) (tOp (rIxL K) (tLst (tCons (tC (.int 40)) (tCons (tCall (sp_draw K) [] E0 (tCons (tVar 2) (tCons (tC (.int 41)) tNil))) tNil))) (tCall (sp_draw K) [] E0 (tCons (tVar 2) (tCons (tC (.int 2)) tNil))))) (gName 7))
    (tSeq (tAsg (tCall (sp_deeds K) [] E0 (tCons (tVar 2) (tCons (tVar 4) (tCons (tVar 7) (tCons (tVar 5) tNil))))) (gName 8))
    (tSeq (tIfS (tNot (tB (tCall (sp_right37 K) [] E0 (tCons (tVar 2) (tCons (tVar 6) (tCons (tVar 8) tNil)))))) (tRet (tC (.bl false))) tNext)
    (tSeq (tDrop (tBM0 K "list" rReverse (tVar 8)))
    (tSeq (tDrop (tBM0 K "list" rReverse (tVar 6)))
    (tSeq (tIfS (tNot (tB (tCall (sp_right37 K) [] E0 (tCons (tVar 2) (tCons (tVar 6) (tCons (tVar 8) tNil)))))) (tRet (tC (.bl false))) tNext)
    (tSeq (tDrop (tBM0 K "list" rClear (tVar 8)))
    (tIfS (tTest (tOp (rNeD K) (tCall (sp_row_after K) [] E0 (tCons (tVar 6) (tCons (tVar 8) tNil))) (tVar 6))) (tRet (tC (.bl false))) tNext))))))))))))))
    (tRet (tOp (rEqD K) (tCall (sp_row_after K) [] E0 (tCons (tLst (tCons (tC (.int 1)) (tCons (tC (.int 1)) (tCons (tC (.int 1)) tNil)))) (tCons (tLst (tCons (tTup (tCons (tC (.int 0)) (tCons (tC (.int 1)) (tCons (tC (.int 2)) tNil)))) (tCons (tTup (tCons (tC (.int 1)) (tCons (tC (.int 1)) (tCons (tC (.int 3)) tNil)))) tNil))) tNil))) (tLst (tCons (tC (.int 4)) (tCons (tC (.int 3)) (tCons (tC (.int 2)) tNil)))))))
theorem nb100' {x : Int} (h : 0 ≤ x) (h2 : x ≤ 10 ^ (Int.toNat 30)) : x.natAbs < 2 ^ 100 := small_pow h (Int.lt_of_le_of_lt h2 (by decide))
theorem rd_law37 (h : sp_law37 K vs H Q E) : t_law37 K (fin Q) (start N_law37 vs) H := by
  obtain ⟨a, ns, rfl, hS, hlen, q⟩ := h
  refine q_forR1 (ea_cons (ev_max2 ev_c (ev_min2 ev_c (ev_lenS (ev_var rfl) hS))) ea_nil) (by constructor <;> (split <;> split <;> omega)) (fun i σ' H' => ∃ z1 z2 z3 z4 z5 z6 z7 z8, σ' = [some (.ref a), z1, z2, z3, z4, z5, z6, z7, z8] ∧ SqL K H' a (ns.map V.int))
    (fun H1 e1 => ⟨_, _, _, _, _, _, _, _, rfl, ex_l e1 hS⟩) ?_ ?_
  · rintro i σ' H0 hi ⟨z1, z2, z3, z4, z5, z6, z7, z8, rfl, hS0⟩
    refine q_asgX (c_openSource (ev_var rfl) (ev_var rfl) hS0 (by omega) fun p H1 hp e01 hp1 => ?_)
    have keep : ∀ {H2 : Hp} {n : Nat}, Stp p n H1 H2 → SqL K H2 a (ns.map V.int) := fun s => sq_keep hS0 hp fun b o hb hbo => s.ex b o hb (e01 _ _ hbo)
    refine s_forR1 (n := 4) (ea_cons ev_c ea_nil) (by omega) (fun i2 σ' H' => ∃ z3 z4 z5 z6 z7 z8, σ' = [some (.ref a), some (.int (i : Int)), some (.ref p), z3, z4, z5, z6, z7, z8] ∧ Stp p (i2 * 300) H1 H') (fun H2 e2 => ⟨_, _, _, _, _, _, rfl, (hp1.stp e2).mono (by omega)⟩) ?_ ?_
    · rintro i2 σ' H2 hi2 ⟨z3, z4, z5, z6, z7, z8, rfl, sB⟩
      have b0 : Stp p (i2 * 300) H2 H2 := ⟨sB.src, .refl _⟩
      -- width
      refine q_asgX (c_width (ev_var rfl) (ev_var rfl) sB.src (by omega) (keep sB) fun w H3 w2 w8 _ s3 => ?_)
      have s3 := b0.next s3
      -- wide
      refine q_asgX ?_
      have rest : ∀ (wd : Int) (H4 : Hp), 1 ≤ wd → wd ≤ 10 ^ (Int.toNat 30) → Stp p (i2 * 300 + 3) H2 H4 → ∀ (tz : TS), True → True := fun _ _ _ _ _ _ _ => trivial
      have wides : ∀ (k : V → Hp → Prop), (∀ (wd : Int) (H4 : Hp), 1 ≤ wd → wd ≤ 10 ^ (Int.toNat 30) → Stp p (i2 * 300 + 3) H2 H4 → k (.int wd) H4) →
          (tIf (tTest (tOp rEq (tOp rAddI (tVar 1) (tVar 3)) (tC (.int 0)))) (tOp rPowI (tC (.int 10)) (tC (.int 30))) (tOp (rIxL K) (tLst (tCons (tC (.int 4)) (tCons (tC (.int 100)) tNil))) (tCall (sp_draw K) [] E0 (tCons (tVar 2) (tCons (tC (.int 2)) tNil))))) [some (.ref a), some (.int (i : Int)), some (.ref p), some (.int (i2 : Int)), some (.int w), z5, z6, z7, z8] H3 k := by
        intro k hk
        refine o_if (et_test (ev_eqI (ev_addI (ev_var rfl) (ev_var rfl)) ev_c)) (fun _ H4 e4 => (ev_powI ev_c ev_c (c10 _ (by decide) (by decide))) H4 (Ex.refl H4) _ fun H5 e5 => hk _ _ (by decide) (by decide) (((s3.then e4).then e5).mono (by omega))) fun _ H4 e4 => ?_
        refine o_pick2 (R := fun v => ∃ x : Int, v = .int x ∧ 1 ≤ x ∧ x ≤ 10 ^ (Int.toNat 30)) (ea_cons ev_c (ea_cons ev_c ea_nil)) (fun H1 e => ev_var rfl) (s3.then e4).src (by omega) ⟨_, rfl, by decide, by decide⟩ ⟨_, rfl, by decide, by decide⟩ fun v H5 ⟨x, ev, x1, x2⟩ s5 => ?_
        subst ev
        exact hk x H5 x1 x2 ((s3.then e4).next s5)
      refine wides _ fun wd H4 wd1 wd2 s4 => ?_
      -- weights
      refine q_asgX (c_weights (k := 100) (ev_var rfl) (ev_var rfl) (ev_var rfl) s4.src (by omega) w2 w8 wd1 (nb100' (by omega) wd2) (by omega) fun pw H5 ws hpw hpwa s5 hW hRw hwl hwz => ?_)
      have hpw2 : H2 pw = none := s4.free sB.src hpw
      have s5' := s4.next s5
      -- many
      refine q_asgX ?_
      have manys : ∀ (k : V → Hp → Prop), (∀ (m : Int) (H6 : Hp), 0 ≤ m → m ≤ 40 → Stp p (i2 * 300 + 26) H2 H6 → LI H6 pw ws → k (.int m) H6) →
          (tIf (tTest (tOp (rEqD K) (tVar 0) (tLst tNil))) (tC (.int 3)) (tOp (rIxL K) (tLst (tCons (tC (.int 40)) (tCons (tCall (sp_draw K) [] E0 (tCons (tVar 2) (tCons (tC (.int 41)) tNil))) tNil))) (tCall (sp_draw K) [] E0 (tCons (tVar 2) (tCons (tC (.int 2)) tNil))))) [some (.ref a), some (.int (i : Int)), some (.ref p), some (.int (i2 : Int)), some (.int w), some (.int wd), some (.ref pw), z7, z8] H5 k := by
        intro k hk
        have kS : SqL K H5 a (ns.map V.int) := keep (sB.next s5')
        refine o_if (et_test (ev_eqS (K := K) (ns := ns) (ms := []) (xS (ev_var rfl) kS) (xL (el_lst ea_nil (by show 0 ≤ 100000; decide))))) (fun _ H6 e6 => hk _ _ (by decide) (by decide) ((s5'.then e6).mono (by omega)) (hW.ex e6)) fun _ H6 e6 => ?_
        refine o_opX (o_consV ev_c fun H7 e7 => o_consX (c_draw (ev_var rfl) ev_c ((s5'.then e6).then e7).src (by omega) (by decide) (by decide) fun d H8 d0 d1 s8 => o_nil ⟨by show 2 ≤ sizeLine; decide, fun pq hpq => ?_⟩))
        have s8' := ((s5'.then e6).then e7).next s8
        have s9 := s8'.new (o := .lst [.int 40, .int d]) hpq
        refine c_draw (ev_var rfl) ev_c s9.src (by omega) (by decide) (by decide) fun f H9 f0 f1 s10 => ?_
        have hq9 : H9 pq = some (.lst [.int 40, .int d]) := s10.here (s8'.src.ne hpq) upd_same
        have hW9 : LI H9 pw ws := s10.here hpwa ((Ex.new hpq) _ _ (s8.here hpwa ((hW.ex e6).ex e7)))
        have fin9 := (s9.next s10).mono (show _ ≤ i2 * 300 + 26 by omega)
        have : f = 0 ∨ f = 1 := by omega
        rcases this with h | h
        · subst h; exact ⟨pq, _, 0, .int 40, rfl, rfl, .inl (.inl hq9), rfl, hk _ _ (by decide) (by decide) fin9 hW9⟩
        · subst h; exact ⟨pq, _, 1, .int d, rfl, rfl, .inl (.inl hq9), rfl, hk _ _ d0 (by omega) fin9 hW9⟩
      refine manys _ fun many H6 m0 m40 s6 hW6 => ?_
      -- deeds
      refine q_asgX (c_deeds (k := 100) (ev_var rfl) (ev_var rfl) (ev_var rfl) (ev_var rfl) s6.src (by omega) w2 w8 m0 m40 wd1 (nb100' (by omega) wd2) (by omega) fun pd H7 ms hpd hpda s7 hM hml hO => ?_)
      have hpd2 : H2 pd = none := s6.free sB.src hpd
      have s7' := s6.next s7
      have hW7 : LI H7 pw ws := s7.here hpwa hW6
      have hne : pw ≠ pd := ne_of_none hW6 hpd
      have hwn : w.toNat = ws.length := by omega
      rw [hwn] at hO
      -- right, twice
      refine q_stX (s_ifX (o_not (o_B (c_right37 (k := 100) (j := 101) (ev_var rfl) (ev_var rfl) (ev_var rfl) s7'.src (by omega) hpwa hpda hW7 hM hRw (by omega) hO hwz (by omega) (by omega) fun H8 s8 => ⟨true, rfl, iteF ?_⟩))))
      have s8' := s7'.next s8
      have hW8 : LI H8 pw ws := s8.here hpwa hW7
      obtain ⟨xs, hx8, hP8⟩ := hM.exb s7'.src hpda s8.ex
      refine q_rev (ev_var rfl) hx8 fun H9 e9 => ?_
      have hx9 := e9 _ _ hx8
      have s10 := (s8'.then e9).upd (o := .lst xs.reverse) hpda hpd2
      have hW10 : LI (upd H9 pd (.lst xs.reverse)) pw ws := (hW8.ex e9).upd_ne hne
      have hM10 : MS (upd H9 pd (.lst xs.reverse)) pd ms.reverse := ⟨_, upd_same, paired_updL hx9 (paired_rev (paired_mono e9 hP8))⟩
      generalize hg10 : upd H9 pd (.lst xs.reverse) = H10 at s10 hW10 hM10
      refine q_rev (ev_var rfl) hW10 fun H11 e11 => ?_
      have s12 := (s10.then e11).upd (o := .lst (ws.map V.int).reverse) hpwa hpw2
      have hM12 : MS (upd H11 pw (.lst (ws.map V.int).reverse)) pd ms.reverse := (hM10.ex e11).updL (hW10.ex e11) (Ne.symm hne)
      have hW12 : LI (upd H11 pw (.lst (ws.map V.int).reverse)) pw ws.reverse := by
        show upd H11 pw _ pw = _
        rw [upd_same, List.map_reverse]
      generalize hg12 : upd H11 pw (.lst (ws.map V.int).reverse) = H12 at s12 hM12 hW12
      have hO' : ∀ m ∈ ms.reverse, OkM ws.reverse.length 101 m := fun m hm => by rw [List.length_reverse]; exact hO m (List.mem_reverse.mp hm)
      refine q_stX (s_ifX (o_not (o_B (c_right37 (k := 100) (j := 101) (ev_var rfl) (ev_var rfl) (ev_var rfl) s12.src (by omega) hpwa hpda hW12 hM12 hRw.rev (by rw [List.length_reverse]; omega) hO' hwz.rev (by omega) (by omega) fun H13 s13 => ⟨true, rfl, iteF ?_⟩))))
      have s13' := s12.next s13
      have hW13 : LI H13 pw ws.reverse := s13.here hpwa hW12
      obtain ⟨xs13, hx13, _⟩ := hM12.exb s12.src hpda s13.ex
      refine q_clear (ev_var rfl) hx13 fun H14 e14 => ?_
      have s15 := (s13'.then e14).upd (o := .lst []) hpda hpd2
      have hW15 : LI (upd H14 pd (.lst [])) pw ws.reverse := (hW13.ex e14).upd_ne hne
      have hM15 : MS (upd H14 pd (.lst [])) pd [] := ⟨[], upd_same, .nil⟩
      refine s_when (b := false) (et_is (et_test (ev_neL (ns := ws.reverse) (ms := ws.reverse) (xL (xL_row_after (k := 100) (j := 1) (ms := []) (xLv (ev_var rfl) hW15) (xM (ev_var rfl) hM15) hRw.rev (by decide) (fun _ h => (List.not_mem_nil h).elim) hwz.rev (by decide) (by decide))) (xLv (ev_var rfl) hW15))) (by simp)) (fun hb => by cases hb) fun _ H16 e16 => ?_
      exact ⟨_, _, _, _, _, _, rfl, (sB.next (s15.then e16)).mono (by omega)⟩
    · rintro σ' H2 ⟨z3, z4, z5, z6, z7, z8, rfl, s2⟩
      exact ⟨_, _, _, _, _, _, _, _, rfl, keep s2⟩
  · rintro σ' H1 ⟨z1, z2, z3, z4, z5, z6, z7, z8, rfl, hS1⟩
    have r3 : IsRow [1, 1, 1] := ⟨by decide, by decide, by decide, by decide +kernel⟩
    have ok : ∀ m ∈ ([(0, 1, 2), (1, 1, 3)] : List Mv), OkM 3 2 m := by
      intro m hm
      rcases List.mem_cons.mp hm with h | h
      · subst h; exact ⟨by decide, by decide, by decide, by decide +kernel, by decide⟩
      · rw [List.mem_singleton.mp h]; exact ⟨by decide, by decide, by decide, by decide +kernel, by decide⟩
    have one : Sz 1 [1, 1, 1] := fun x hx => by
      have : x = 1 := by simpa using hx
      rw [this]
      decide
    have := xL_row_after (K := K) (σ := [some (.ref a), z1, z2, z3, z4, z5, z6, z7, z8]) (H := H1) (ns := [1, 1, 1]) (ms := [(0, 1, 2), (1, 1, 3)]) (k := 1) (j := 2) (xL (el_lst (ea_cons ev_c (ea_cons ev_c (ea_cons ev_c ea_nil))) (by show 3 ≤ 100000; decide))) (xM_lst (eax_mcons (xU_move (m := (0, 1, 2)) ev_c ev_c ev_c) (eax_mcons (xU_move (m := (1, 1, 3)) ev_c ev_c ev_c) eax_mnil)) (by decide)) r3 (by decide) ok one (by decide) (by decide)
    rw [show mvs [1, 1, 1] [(0, 1, 2), (1, 1, 3)] = [4, 3, 2] by decide +kernel] at this
    exact s_ret (ev_is (ev_eqL (ns := [4, 3, 2]) (ms := [4, 3, 2]) (xL this) (xL (el_lst (ea_cons ev_c (ea_cons ev_c (ea_cons ev_c ea_nil))) (by show 3 ≤ 100000; decide)))) (by simp)) fun H3 e3 => q H3
end
end SL

namespace SL
open PySem PySem.Spec PyProof.Rows L2 Evl
/-! ### the text by places, and what the top has written -/
def topS (i : Nat) : Stmt := PySem.Challenge.pw_sliders_k37_moves_one_after_the_other.main.body.getD i (.Pass ⟨0, 0, 0, 0⟩)
abbrev s_is_whole : Stmt := topS 11
abbrev s_has_slider_length : Stmt := topS 12
abbrev s_common_divisor : Stmt := topS 16
abbrev s_lowest_terms : Stmt := topS 18
abbrev s_are_there : Stmt := topS 25
abbrev s_weights_after : Stmt := topS 27
abbrev s_openSource : Stmt := topS 29
abbrev s_draw : Stmt := topS 30
abbrev s_divisor : Stmt := topS 31
abbrev s_are_weights : Stmt := topS 13
abbrev s_check_slider : Stmt := topS 15
abbrev s_reduced : Stmt := topS 17
abbrev s_is_move : Stmt := topS 21
abbrev s_plain : Stmt := topS 32
abbrev s_width : Stmt := topS 33
abbrev s_any : Stmt := topS 34
abbrev s_is_row : Stmt := topS 9
abbrev s_is_moves : Stmt := topS 22
abbrev s_row_behind : Stmt := topS 26
abbrev s_weights : Stmt := topS 35
abbrev s_share : Stmt := topS 36
abbrev s_led : Stmt := topS 38
abbrev s_check_row : Stmt := topS 14
abbrev s_check_moves : Stmt := topS 24
abbrev s_deeds : Stmt := topS 37
abbrev s_share_of : Stmt := topS 10
abbrev s_row_after : Stmt := topS 23
abbrev s_right37 : Stmt := topS 39
abbrev s_law37 : Stmt := topS 40
structure Tx (K : PySem.W.Frag) (mg : Str → Option Value) : Type where
  f_is_whole : Addr
  d_is_whole : FuncData
  F_is_whole : Fun K "is_whole" "is_whole" s_is_whole f_is_whole d_is_whole
  g_is_whole : mg "is_whole" = some (.ref f_is_whole)
  b_is_whole : Binds K d_is_whole ["value"] []
  f_has_slider_length : Addr
  d_has_slider_length : FuncData
  F_has_slider_length : Fun K "has_slider_length" "has_slider_length" s_has_slider_length f_has_slider_length d_has_slider_length
  g_has_slider_length : mg "has_slider_length" = some (.ref f_has_slider_length)
  b_has_slider_length : Binds K d_has_slider_length ["value"] []
  f_common_divisor : Addr
  d_common_divisor : FuncData
  F_common_divisor : Fun K "common_divisor" "common_divisor" s_common_divisor f_common_divisor d_common_divisor
  g_common_divisor : mg "common_divisor" = some (.ref f_common_divisor)
  b_common_divisor : Binds K d_common_divisor ["numbers"] []
  f_lowest_terms : Addr
  d_lowest_terms : FuncData
  F_lowest_terms : Fun K "lowest_terms" "lowest_terms" s_lowest_terms f_lowest_terms d_lowest_terms
  g_lowest_terms : mg "lowest_terms" = some (.ref f_lowest_terms)
  b_lowest_terms : Binds K d_lowest_terms ["top", "bottom"] []
  f_are_there : Addr
  d_are_there : FuncData
  F_are_there : Fun K "are_there" "are_there" s_are_there f_are_there d_are_there
  g_are_there : mg "are_there" = some (.ref f_are_there)
  b_are_there : Binds K d_are_there ["moves", "sliders"] []
  f_weights_after : Addr
  d_weights_after : FuncData
  F_weights_after : Fun K "weights_after" "weights_after" s_weights_after f_weights_after d_weights_after
  g_weights_after : mg "weights_after" = some (.ref f_weights_after)
  b_weights_after : Binds K d_weights_after ["weights", "move"] []
  f_openSource : Addr
  d_openSource : FuncData
  F_openSource : Fun K "_law_open_source" "_law_open_source" s_openSource f_openSource d_openSource
  g_openSource : mg "_law_open_source" = some (.ref f_openSource)
  b_openSource : Binds K d_openSource ["script", "k"] []
  f_draw : Addr
  d_draw : FuncData
  F_draw : Fun K "_law_draw" "_law_draw" s_draw f_draw d_draw
  g_draw : mg "_law_draw" = some (.ref f_draw)
  b_draw : Binds K d_draw ["source", "limit"] []
  f_divisor : Addr
  d_divisor : FuncData
  F_divisor : Fun K "_law_divisor" "_law_divisor" s_divisor f_divisor d_divisor
  g_divisor : mg "_law_divisor" = some (.ref f_divisor)
  b_divisor : Binds K d_divisor ["one", "other"] []
  f_are_weights : Addr
  d_are_weights : FuncData
  F_are_weights : Fun K "are_weights" "are_weights" s_are_weights f_are_weights d_are_weights
  g_are_weights : mg "are_weights" = some (.ref f_are_weights)
  b_are_weights : Binds K d_are_weights ["value"] []
  f_check_slider : Addr
  d_check_slider : FuncData
  F_check_slider : Fun K "check_slider" "check_slider" s_check_slider f_check_slider d_check_slider
  g_check_slider : mg "check_slider" = some (.ref f_check_slider)
  b_check_slider : Binds K d_check_slider ["row", "slider"] []
  f_reduced : Addr
  d_reduced : FuncData
  F_reduced : Fun K "reduced" "reduced" s_reduced f_reduced d_reduced
  g_reduced : mg "reduced" = some (.ref f_reduced)
  b_reduced : Binds K d_reduced ["numbers"] []
  f_is_move : Addr
  d_is_move : FuncData
  F_is_move : Fun K "is_move" "is_move" s_is_move f_is_move d_is_move
  g_is_move : mg "is_move" = some (.ref f_is_move)
  b_is_move : Binds K d_is_move ["value"] []
  f_plain : Addr
  d_plain : FuncData
  F_plain : Fun K "_law_plain" "_law_plain" s_plain f_plain d_plain
  g_plain : mg "_law_plain" = some (.ref f_plain)
  b_plain : Binds K d_plain ["numbers"] []
  f_width : Addr
  d_width : FuncData
  F_width : Fun K "_law_width" "_law_width" s_width f_width d_width
  g_width : mg "_law_width" = some (.ref f_width)
  b_width : Binds K d_width ["source", "script"] []
  f_any : Addr
  d_any : FuncData
  F_any : Fun K "_law_any" "_law_any" s_any f_any d_any
  g_any : mg "_law_any" = some (.ref f_any)
  b_any : Binds K d_any ["source", "wide"] []
  f_is_row : Addr
  d_is_row : FuncData
  F_is_row : Fun K "is_row" "is_row" s_is_row f_is_row d_is_row
  g_is_row : mg "is_row" = some (.ref f_is_row)
  b_is_row : Binds K d_is_row ["value"] []
  f_is_moves : Addr
  d_is_moves : FuncData
  F_is_moves : Fun K "is_moves" "is_moves" s_is_moves f_is_moves d_is_moves
  g_is_moves : mg "is_moves" = some (.ref f_is_moves)
  b_is_moves : Binds K d_is_moves ["value"] []
  f_row_behind : Addr
  d_row_behind : FuncData
  F_row_behind : Fun K "row_behind" "row_behind" s_row_behind f_row_behind d_row_behind
  g_row_behind : mg "row_behind" = some (.ref f_row_behind)
  b_row_behind : Binds K d_row_behind ["row", "moves"] []
  f_weights : Addr
  d_weights : FuncData
  F_weights : Fun K "_law_weights" "_law_weights" s_weights f_weights d_weights
  g_weights : mg "_law_weights" = some (.ref f_weights)
  b_weights : Binds K d_weights ["source", "width", "wide"] []
  f_share : Addr
  d_share : FuncData
  F_share : Fun K "_law_share" "_law_share" s_share f_share d_share
  g_share : mg "_law_share" = some (.ref f_share)
  b_share : Binds K d_share ["source", "wide"] []
  f_led : Addr
  d_led : FuncData
  F_led : Fun K "_law_led" "_law_led" s_led f_led d_led
  g_led : mg "_law_led" = some (.ref f_led)
  b_led : Binds K d_led ["weights_here", "deeds"] []
  f_check_row : Addr
  d_check_row : FuncData
  F_check_row : Fun K "check_row" "check_row" s_check_row f_check_row d_check_row
  g_check_row : mg "check_row" = some (.ref f_check_row)
  b_check_row : Binds K d_check_row ["row"] []
  f_check_moves : Addr
  d_check_moves : FuncData
  F_check_moves : Fun K "check_moves" "check_moves" s_check_moves f_check_moves d_check_moves
  g_check_moves : mg "check_moves" = some (.ref f_check_moves)
  b_check_moves : Binds K d_check_moves ["moves", "sliders"] []
  f_deeds : Addr
  d_deeds : FuncData
  F_deeds : Fun K "_law_deeds" "_law_deeds" s_deeds f_deeds d_deeds
  g_deeds : mg "_law_deeds" = some (.ref f_deeds)
  b_deeds : Binds K d_deeds ["source", "width", "many", "wide"] []
  f_share_of : Addr
  d_share_of : FuncData
  F_share_of : Fun K "share_of" "share_of" s_share_of f_share_of d_share_of
  g_share_of : mg "share_of" = some (.ref f_share_of)
  b_share_of : Binds K d_share_of ["row", "slider"] []
  f_row_after : Addr
  d_row_after : FuncData
  F_row_after : Fun K "row_after" "row_after" s_row_after f_row_after d_row_after
  g_row_after : mg "row_after" = some (.ref f_row_after)
  b_row_after : Binds K d_row_after ["row", "moves"] []
  f_right37 : Addr
  d_right37 : FuncData
  F_right37 : Fun K "_law_right" "_law_right" s_right37 f_right37 d_right37
  g_right37 : mg "_law_right" = some (.ref f_right37)
  b_right37 : Binds K d_right37 ["source", "weights_here", "deeds"] []
  f_law37 : Addr
  d_law37 : FuncData
  F_law37 : Fun K "law" "law" s_law37 f_law37 d_law37
  g_law37 : mg "law" = some (.ref f_law37)
  b_law37 : Binds K d_law37 ["script"] []
  z_all : mg "all" = none
  z_bool : mg "bool" = none
  z_int : mg "int" = none
  z_isinstance : mg "isinstance" = none
  z_len : mg "len" = none
  z_list : mg "list" = none
  z_max : mg "max" = none
  z_min : mg "min" = none
  z_range : mg "range" = none
  z_sum : mg "sum" = none
  z_tuple : mg "tuple" = none
  z_type : mg "type" = none
  z_zip : mg "zip" = none
  v_FEWEST_SLIDERS : Tok
  c_FEWEST_SLIDERS : mg "FEWEST_SLIDERS" = some (.int 2 v_FEWEST_SLIDERS)
  v_MOST_MOVES : Tok
  c_MOST_MOVES : mg "MOST_MOVES" = some (.int 40 v_MOST_MOVES)
  v_MOST_SLIDERS : Tok
  c_MOST_SLIDERS : mg "MOST_SLIDERS" = some (.int 8 v_MOST_SLIDERS)
  m_gcd : mg "gcd" = some (.builtin "math.gcd")
section
variable {P : Program} {w : World} {K : PySem.W.Frag} {mg : Str → Option Value} {base : Heap}
theorem sc_is_whole : FnScope N_is_whole ["value"] (defScope s_is_whole) := ⟨rfl, rfl, rfl, by decide +kernel, rfl, by decide +kernel, by decide +kernel⟩
theorem ok_is_whole (T : Tx K mg) : FnOk P w K mg base CX0 1 T.f_is_whole T.d_is_whole ["value"] (sp_is_whole K) := by
  refine T.F_is_whole.ok sc_is_whole (fun vs H Q E h => ln_is_whole h) (fun cdv A outer s H vs Q E hr h => ⟨t_is_whole K, ?_, rd_is_whole h⟩)
  exact (pss_one (ps_ret (pe_and (pe_callB call_isi (by rfl) T.z_isinstance (by decide +kernel) (pa_cons (pv 0) (pa_cons (pe_bltn (v := .ty "int") (by rfl) T.z_int (by decide +kernel) rfl) pa_nil))) (pe_one (pe_not (pe_callB call_isi (by rfl) T.z_isinstance (by decide +kernel) (pa_cons (pv 0) (pa_cons (pe_bltn (v := .ty "bool") (by rfl) T.z_bool (by decide +kernel) rfl) pa_nil))))))))

theorem sc_has_slider_length : FnScope N_has_slider_length ["value"] (defScope s_has_slider_length) := ⟨rfl, rfl, rfl, by decide +kernel, rfl, by decide +kernel, by decide +kernel⟩
theorem ok_has_slider_length (T : Tx K mg) : FnOk P w K mg base CX0 1 T.f_has_slider_length T.d_has_slider_length ["value"] (sp_has_slider_length K) := by
  refine T.F_has_slider_length.ok sc_has_slider_length (fun vs H Q E h => ln_has_slider_length h) (fun cdv A outer s H vs Q E hr h => ⟨t_has_slider_length K, ?_, rd_has_slider_length h⟩)
  exact (pss_one (ps_ret (pe_and (pe_cmpR op_isTy (pe_typeOf (by rfl) T.z_type (pv 0)) (pe_bltn (v := .ty "list") (by rfl) T.z_list (by decide +kernel) rfl) (nomark _)) (pe_one (pe_chain op_le op_le (pe_glob (v := .int 2) (by rfl) T.c_FEWEST_SLIDERS ⟨_, rfl⟩) (pe_callB call_len_seq (by rfl) T.z_len (by decide +kernel) (pa_cons (pv 0) pa_nil)) (pe_glob (v := .int 8) (by rfl) T.c_MOST_SLIDERS ⟨_, rfl⟩))))))

theorem sc_common_divisor : FnScope N_common_divisor ["numbers"] (defScope s_common_divisor) := ⟨rfl, rfl, rfl, by decide +kernel, rfl, by decide +kernel, by decide +kernel⟩
theorem ok_common_divisor (T : Tx K mg) : FnOk P w K mg base CX0 1 T.f_common_divisor T.d_common_divisor ["numbers"] (sp_common_divisor K) := by
  refine T.F_common_divisor.ok sc_common_divisor (fun vs H Q E h => ln_common_divisor h) (fun cdv A outer s H vs Q E hr h => ⟨t_common_divisor K, ?_, rd_common_divisor h⟩)
  exact (pss_cons (ps_set (i := 1) sc_common_divisor.nd rfl (.inl rfl) pe_int)
    (pss_cons (ps_for PassesOwn.never (by rfl) (pi_list (pv 0)) (pg_name (i := 2) sc_common_divisor.nd rfl (.inl rfl)) (pss_one (ps_set (i := 1) sc_common_divisor.nd rfl (.inl rfl) (pe_callBfun cr_gcd (by rfl) T.m_gcd (pa_cons (pv 1) (pa_cons (pv 2) pa_nil))))))
    (pss_one (ps_ret (pv 1)))))

theorem sc_lowest_terms : FnScope N_lowest_terms ["top", "bottom"] (defScope s_lowest_terms) := ⟨rfl, rfl, rfl, by decide +kernel, rfl, by decide +kernel, by decide +kernel⟩
theorem ok_lowest_terms (T : Tx K mg) : FnOk P w K mg base CX0 1 T.f_lowest_terms T.d_lowest_terms ["top", "bottom"] (sp_lowest_terms K) := by
  refine T.F_lowest_terms.ok sc_lowest_terms (fun vs H Q E h => ln_lowest_terms h) (fun cdv A outer s H vs Q E hr h => ⟨t_lowest_terms K, ?_, rd_lowest_terms h⟩)
  exact (pss_cons (ps_set (i := 2) sc_lowest_terms.nd rfl (.inl rfl) (pe_callBfun cr_gcd (by rfl) T.m_gcd (pa_cons (pv 0) (pa_cons (pv 1) pa_nil))))
    (pss_one (ps_ret (pe_tup (pa_cons (pe_op op_fdivW (pv 0) (pv 2)) (pa_cons (pe_op op_fdivW (pv 1) (pv 2)) pa_nil))))))

theorem sc_are_there : FnScope N_are_there ["moves", "sliders"] (defScope s_are_there) := ⟨rfl, rfl, rfl, by decide +kernel, rfl, by decide +kernel, by decide +kernel⟩
theorem ok_are_there (T : Tx K mg) : FnOk P w K mg base CX0 1 T.f_are_there T.d_are_there ["moves", "sliders"] (sp_are_there K) := by
  refine T.F_are_there.ok sc_are_there (fun vs H Q E h => ln_are_there h) (fun cdv A outer s H vs Q E hr h => ⟨t_are_there K, ?_, rd_are_there h⟩)
  exact (pss_one (ps_ret (pe_callB (cr_all rfl) (by rfl) T.z_all (by decide +kernel) (pa_cons (pe_lc (own := [("move", 2)]) (g := (gName 2)) (tt := tYes) (by rfl) sc_are_there.nd (pi_list (pv 0)) (blkOk_by (own := [("move", 2)]) (N := N_are_there) (sc := defScope s_are_there) (by decide +kernel)) (fun _ _ _ _ _ => (pg_name (i := 2) sc_are_there.nd rfl (.inl rfl))) (fun _ _ _ _ _ => pts_nil) (fun _ _ _ _ _ => (pe_cmpR op_lt (pe_ix ix_tup (pv 2) pe_int (fun _ _ => rfl)) (pv 1) (nomark _)))) pa_nil))))

theorem sc_weights_after : FnScope N_weights_after ["weights", "move"] (defScope s_weights_after) := ⟨rfl, rfl, rfl, by decide +kernel, rfl, by decide +kernel, by decide +kernel⟩
theorem ok_weights_after (T : Tx K mg) : FnOk P w K mg base CX0 1 T.f_weights_after T.d_weights_after ["weights", "move"] (sp_weights_after K) := by
  refine T.F_weights_after.ok sc_weights_after (fun vs H Q E h => ln_weights_after h) (fun cdv A outer s H vs Q E hr h => ⟨t_weights_after K, ?_, rd_weights_after h⟩)
  exact (pss_cons (ps_asg (pv 1) (pg_tup (by rfl) (pgs_cons (pg_name (i := 2) sc_weights_after.nd rfl (.inl rfl)) (pgs_cons (pg_name (i := 3) sc_weights_after.nd rfl (.inr rfl)) (pgs_cons (pg_name (i := 4) sc_weights_after.nd rfl (.inr rfl)) pgs_nil)))))
    (pss_cons (ps_set (i := 5) sc_weights_after.nd rfl (.inl rfl) (pe_op op_sub (pe_callB (cr_sum rfl) (by rfl) T.z_sum (by decide +kernel) (pa_cons (pv 0) pa_nil)) (pe_ix ix_list (pv 0) (pv 2) (fun _ _ => rfl))))
    (pss_cons (ps_setLc (i := 6) (own := [("weight", 7)]) (g := (gName 7)) (tt := tYes) (by rfl) sc_weights_after.nd rfl rfl (sw_true rfl rfl rfl (by decide +kernel)) (pi_list (pv 0)) (blkOk_by (own := [("weight", 7)]) (N := N_weights_after) (sc := defScope s_weights_after) (by decide +kernel)) (fun _ _ _ _ _ => (pg_name (i := 7) sc_weights_after.nd rfl (.inl rfl))) (fun _ _ _ _ _ => pts_nil) (fun _ _ _ _ _ => (pe_op op_mulW (pv 7) (pe_op op_sub (pv 4) (pv 3)))))
    (pss_cons (ps_asg (pe_op op_mulW (pv 3) (pv 5)) (pg_sub (pv 6) (pv 2) set_list))
    (pss_one (ps_ret (pv 6)))))))

theorem sc_openSource : FnScope N_openSource ["script", "k"] (defScope s_openSource) := ⟨rfl, rfl, rfl, by decide +kernel, rfl, by decide +kernel, by decide +kernel⟩
theorem ok_openSource (T : Tx K mg) : FnOk P w K mg base CX0 1 T.f_openSource T.d_openSource ["script", "k"] (sp_openSource K) := by
  refine T.F_openSource.ok sc_openSource (fun vs H Q E h => ln_openSource h) (fun cdv A outer s H vs Q E hr h => ⟨t_openSource K, ?_, rd_openSource h⟩)
  exact (pss_cons (ps_set (i := 2) sc_openSource.nd rfl (.inl rfl) pe_int)
    (pss_cons (ps_if (pt_cmpR op_lt (pv 1) (pe_callB call_len_seq (by rfl) T.z_len (by decide +kernel) (pa_cons (pv 0) pa_nil)) (nomark _)) (pss_one (ps_set (i := 2) sc_openSource.nd rfl (.inl rfl) (pe_ix ix_list (pv 0) (pv 1) (fun _ _ => rfl)))) pss_nil)
    (pss_one (ps_ret (pe_lst (pa_cons (pe_callB (call_max2 rfl) (by rfl) T.z_max (by decide +kernel) (pa_cons pe_int (pa_cons (pe_op op_sub (pv 2) (pe_op op_powW pe_int pe_int)) pa_nil))) (pa_cons (pe_op op_add (pe_op op_mulW (pe_op op_mod (pv 2) (pe_op op_add (pe_op op_powW pe_int pe_int) pe_int)) pe_int) (pe_op op_mod (pv 1) pe_int)) (pa_cons pe_int pa_nil))))))))

theorem sc_draw : FnScope N_draw ["source", "limit"] (defScope s_draw) := ⟨rfl, rfl, rfl, by decide +kernel, rfl, by decide +kernel, by decide +kernel⟩
theorem ok_draw (T : Tx K mg) : FnOk P w K mg base CX0 1 T.f_draw T.d_draw ["source", "limit"] (sp_draw K) := by
  refine T.F_draw.ok sc_draw (fun vs H Q E h => ln_draw h) (fun cdv A outer s H vs Q E hr h => ⟨t_draw K, ?_, rd_draw h⟩)
  exact (pss_cons (ps_if (pt_cmpR op_gt (pe_ix ix_list (pv 0) pe_int (fun _ _ => rfl)) pe_int (nomark _)) (pss_cons (ps_set (i := 2) sc_draw.nd rfl (.inl rfl) (pe_op op_mod (pe_ix ix_list (pv 0) pe_int (fun _ _ => rfl)) (pv 1)))
    (pss_cons (ps_asg (pe_op op_fdivW (pe_ix ix_list (pv 0) pe_int (fun _ _ => rfl)) (pv 1)) (pg_sub (pv 0) pe_int set_list))
    (pss_one (ps_ret (pv 2))))) pss_nil)
    (pss_cons (ps_asg (pe_op op_add (pe_ix ix_list (pv 0) pe_int (fun _ _ => rfl)) pe_int) (pg_sub (pv 0) pe_int set_list))
    (pss_cons (ps_set (i := 3) sc_draw.nd rfl (.inl rfl) (pe_op op_mod (pe_op op_powW (pe_op op_add (pe_op op_add (pe_ix ix_list (pv 0) pe_int (fun _ _ => rfl)) (pe_op op_mulW (pe_op op_mulW pe_int (pe_ix ix_list (pv 0) pe_int (fun _ _ => rfl))) (pe_ix ix_list (pv 0) pe_int (fun _ _ => rfl)))) pe_int) pe_int) pe_int))
    (pss_cons (ps_set (i := 3) sc_draw.nd rfl (.inl rfl) (pe_op op_mod (pe_op op_powW (pe_op op_add (pv 3) (pe_op op_mulW pe_int (pe_ix ix_list (pv 0) pe_int (fun _ _ => rfl)))) pe_int) pe_int))
    (pss_one (ps_ret (pe_op op_mod (pe_op op_fdivW (pv 3) pe_int) (pv 1))))))))

theorem sc_divisor : FnScope N_divisor ["one", "other"] (defScope s_divisor) := ⟨rfl, rfl, rfl, by decide +kernel, rfl, by decide +kernel, by decide +kernel⟩
theorem ok_divisor (T : Tx K mg) : FnOk P w K mg base CX0 1 T.f_divisor T.d_divisor ["one", "other"] (sp_divisor K) := by
  refine T.F_divisor.ok sc_divisor (fun vs H Q E h => ln_divisor h) (fun cdv A outer s H vs Q E hr h => ⟨t_divisor K, ?_, rd_divisor h⟩)
  exact (pss_cons (ps_while PassesOwn.never (pt_cmpR op_gt (pv 1) pe_int (nomark _)) (pss_one (ps_par (i := 0) (j := 1) (by rfl) sc_divisor.nd rfl rfl (by decide) rfl rfl (pa_cons (pv 1) (pa_cons (pe_op op_mod (pv 0) (pv 1)) pa_nil)) (by rfl))))
    (pss_one (ps_ret (pv 0))))

theorem sc_are_weights : FnScope N_are_weights ["value"] (defScope s_are_weights) := ⟨rfl, rfl, rfl, by decide +kernel, rfl, by decide +kernel, by decide +kernel⟩
theorem ok_are_weights (T : Tx K mg) : FnOk P w K mg base CX0 2 T.f_are_weights T.d_are_weights ["value"] (sp_are_weights K) := by
  refine T.F_are_weights.ok sc_are_weights (fun vs H Q E h => ln_are_weights h) (fun cdv A outer s H vs Q E hr h => ⟨t_are_weights K, ?_, rd_are_weights h⟩)
  exact (pss_one (ps_ret (pe_and (pe_call (ok_has_slider_length T) (hr.mono (by decide)) (by rfl) T.g_has_slider_length T.F_has_slider_length.kp T.b_has_slider_length .nil pass0 (pa_cons (pv 0) pa_nil)) (pe_one (pe_callB (cr_all rfl) (by rfl) T.z_all (by decide +kernel) (pa_cons (pe_lc (own := [("weight", 1)]) (g := (gName 1)) (tt := tYes) (by rfl) sc_are_weights.nd (pi_list (pv 0)) (blkOk_by (own := [("weight", 1)]) (N := N_are_weights) (sc := defScope s_are_weights) (by decide +kernel)) (fun _ _ _ _ _ => (pg_name (i := 1) sc_are_weights.nd rfl (.inl rfl))) (fun _ _ _ _ _ => pts_nil) (fun _ _ _ _ _ => (pe_and (pe_call (ok_is_whole T) (hr.mono (by decide)) (by rfl) T.g_is_whole T.F_is_whole.kp T.b_is_whole .nil pass0 (pa_cons (pv 1) pa_nil)) (pe_one (pe_cmpR op_ge (pv 1) pe_int (nomark _)))))) pa_nil))))))

theorem sc_check_slider : FnScope N_check_slider ["row", "slider"] (defScope s_check_slider) := ⟨rfl, rfl, rfl, by decide +kernel, rfl, by decide +kernel, by decide +kernel⟩
theorem ok_check_slider (T : Tx K mg) : FnOk P w K mg base CX0 2 T.f_check_slider T.d_check_slider ["row", "slider"] (sp_check_slider K) := by
  refine T.F_check_slider.ok sc_check_slider (fun vs H Q E h => ln_check_slider h) (fun cdv A outer s H vs Q E hr h => ⟨t_check_slider K, ?_, rd_check_slider h⟩)
  exact (pss_one (ps_if (PW.pt (pw_or (pt_not (pt_val (pe_call (ok_is_whole T) (hr.mono (by decide)) (by rfl) T.g_is_whole T.F_is_whole.kp T.b_is_whole .nil pass0 (pa_cons (pv 1) pa_nil)))) (pw_or1 (pt_not (pt_chain op_le op_lt pe_int (pv 1) (pe_callB call_len_seq (by rfl) T.z_len (by decide +kernel) (pa_cons (pv 0) pa_nil))))))) (pss_one ps_never) pss_nil))

theorem sc_reduced : FnScope N_reduced ["numbers"] (defScope s_reduced) := ⟨rfl, rfl, rfl, by decide +kernel, rfl, by decide +kernel, by decide +kernel⟩
theorem ok_reduced (T : Tx K mg) : FnOk P w K mg base CX0 2 T.f_reduced T.d_reduced ["numbers"] (sp_reduced K) := by
  refine T.F_reduced.ok sc_reduced (fun vs H Q E h => ln_reduced h) (fun cdv A outer s H vs Q E hr h => ⟨t_reduced K, ?_, rd_reduced h⟩)
  exact (pss_cons (ps_set (i := 1) sc_reduced.nd rfl (.inr rfl) (pe_call (ok_common_divisor T) (hr.mono (by decide)) (by rfl) T.g_common_divisor T.F_common_divisor.kp T.b_common_divisor .nil pass0 (pa_cons (pv 0) pa_nil)))
    (pss_one (ps_ret (pe_lc (own := [("number", 2)]) (g := (gName 2)) (tt := tYes) (by rfl) sc_reduced.nd (pi_list (pv 0)) (blkOk_by (own := [("number", 2)]) (N := N_reduced) (sc := defScope s_reduced) (by decide +kernel)) (fun _ _ _ _ _ => (pg_name (i := 2) sc_reduced.nd rfl (.inl rfl))) (fun _ _ _ _ _ => pts_nil) (fun _ _ _ _ _ => (pe_op op_fdivW (pv 2) (pv 1)))))))

theorem sc_is_move : FnScope N_is_move ["value"] (defScope s_is_move) := ⟨rfl, rfl, rfl, by decide +kernel, rfl, by decide +kernel, by decide +kernel⟩
theorem ok_is_move (T : Tx K mg) : FnOk P w K mg base CX0 2 T.f_is_move T.d_is_move ["value"] (sp_is_move K) := by
  refine T.F_is_move.ok sc_is_move (fun vs H Q E h => ln_is_move h) (fun cdv A outer s H vs Q E hr h => ⟨t_is_move K, ?_, rd_is_move h⟩)
  exact (pss_cons (ps_if (PW.pt (pw_or (pt_cmpR op_isNotTy (pe_typeOf (by rfl) T.z_type (pv 0)) (pe_bltn (v := .ty "tuple") (by rfl) T.z_tuple (by decide +kernel) rfl) (nomark _)) (pw_or (pt_cmpR op_ne (pe_callB call_len_seq (by rfl) T.z_len (by decide +kernel) (pa_cons (pv 0) pa_nil)) pe_int (nomark _)) (pw_or1 (pt_not (pt_val (pe_callB (cr_all rfl) (by rfl) T.z_all (by decide +kernel) (pa_cons (pe_lc (own := [("part", 4)]) (g := (gName 4)) (tt := tYes) (by rfl) sc_is_move.nd (pi_tup (pv 0)) (blkOk_by (own := [("part", 4)]) (N := N_is_move) (sc := defScope s_is_move) (by decide +kernel)) (fun _ _ _ _ _ => (pg_name (i := 4) sc_is_move.nd rfl (.inl rfl))) (fun _ _ _ _ _ => pts_nil) (fun _ _ _ _ _ => (pe_call (ok_is_whole T) (hr.mono (by decide)) (by rfl) T.g_is_whole T.F_is_whole.kp T.b_is_whole .nil pass0 (pa_cons (pv 4) pa_nil)))) pa_nil)))))))) (pss_one (ps_ret pe_bl)) pss_nil)
    (pss_cons (ps_asg (pv 0) (pg_tup (by rfl) (pgs_cons (pg_name (i := 1) sc_is_move.nd rfl (.inl rfl)) (pgs_cons (pg_name (i := 2) sc_is_move.nd rfl (.inl rfl)) (pgs_cons (pg_name (i := 3) sc_is_move.nd rfl (.inl rfl)) pgs_nil)))))
    (pss_one (ps_ret (pe_and (pe_chain op_le op_lt pe_int (pv 1) (pe_glob (v := .int 8) (by rfl) T.c_MOST_SLIDERS ⟨_, rfl⟩)) (pe_and (pe_chain op_le op_lt pe_int (pv 2) (pv 3)) (pe_one (pe_cmpR op_eq (pe_callBfun cr_gcd (by rfl) T.m_gcd (pa_cons (pv 2) (pa_cons (pv 3) pa_nil))) pe_int (nomark _)))))))))

theorem sc_plain : FnScope N_plain ["numbers"] (defScope s_plain) := ⟨rfl, rfl, rfl, by decide +kernel, rfl, by decide +kernel, by decide +kernel⟩
theorem ok_plain (T : Tx K mg) : FnOk P w K mg base CX0 2 T.f_plain T.d_plain ["numbers"] (sp_plain K) := by
  refine T.F_plain.ok sc_plain (fun vs H Q E h => ln_plain h) (fun cdv A outer s H vs Q E hr h => ⟨t_plain K, ?_, rd_plain h⟩)
  exact (pss_cons (ps_set (i := 1) sc_plain.nd rfl (.inr rfl) pe_int)
    (pss_cons (ps_for PassesOwn.never (by rfl) (pi_list (pv 0)) (pg_name (i := 2) sc_plain.nd rfl (.inl rfl)) (pss_one (ps_set (i := 1) sc_plain.nd rfl (.inr rfl) (pe_call (ok_divisor T) (hr.mono (by decide)) (by rfl) T.g_divisor T.F_divisor.kp T.b_divisor .nil pass0 (pa_cons (pv 1) (pa_cons (pv 2) pa_nil))))))
    (pss_one (ps_ret (pe_lc (own := [("number", 2)]) (g := (gName 2)) (tt := tYes) (by rfl) sc_plain.nd (pi_list (pv 0)) (blkOk_by (own := [("number", 2)]) (N := N_plain) (sc := defScope s_plain) (by decide +kernel)) (fun _ _ _ _ _ => (pg_name (i := 2) sc_plain.nd rfl (.inl rfl))) (fun _ _ _ _ _ => pts_nil) (fun _ _ _ _ _ => (pe_op op_fdivW (pv 2) (pv 1))))))))

theorem sc_width : FnScope N_width ["source", "script"] (defScope s_width) := ⟨rfl, rfl, rfl, by decide +kernel, rfl, by decide +kernel, by decide +kernel⟩
theorem ok_width (T : Tx K mg) : FnOk P w K mg base CX0 2 T.f_width T.d_width ["source", "script"] (sp_width K) := by
  refine T.F_width.ok sc_width (fun vs H Q E h => ln_width h) (fun cdv A outer s H vs Q E hr h => ⟨t_width K, ?_, rd_width h⟩)
  exact (pss_one (ps_ret (pe_ifExp (pt_cmpR (op_eqD hr.units) (pv 1) (pe_lst pa_nil) (nomark _)) pe_int (pe_ix ix_list (pe_lst (pa_cons (pe_op op_add pe_int (pe_call (ok_draw T) (hr.mono (by decide)) (by rfl) T.g_draw T.F_draw.kp T.b_draw .nil pass0 (pa_cons (pv 0) (pa_cons pe_int pa_nil)))) (pa_cons pe_int (pa_cons pe_int pa_nil)))) (pe_call (ok_draw T) (hr.mono (by decide)) (by rfl) T.g_draw T.F_draw.kp T.b_draw .nil pass0 (pa_cons (pv 0) (pa_cons pe_int pa_nil))) (fun _ _ => rfl)))))

theorem sc_any : FnScope N_any ["source", "wide"] (defScope s_any) := ⟨rfl, rfl, rfl, by decide +kernel, rfl, by decide +kernel, by decide +kernel⟩
theorem ok_any (T : Tx K mg) : FnOk P w K mg base CX0 2 T.f_any T.d_any ["source", "wide"] (sp_any K) := by
  refine T.F_any.ok sc_any (fun vs H Q E h => ln_any h) (fun cdv A outer s H vs Q E hr h => ⟨t_any K, ?_, rd_any h⟩)
  exact (pss_cons (ps_if (pt_cmpR op_lt (pv 1) (pe_op op_powW pe_int pe_int) (nomark _)) (pss_one (ps_ret (pe_call (ok_draw T) (hr.mono (by decide)) (by rfl) T.g_draw T.F_draw.kp T.b_draw .nil pass0 (pa_cons (pv 0) (pa_cons (pv 1) pa_nil))))) pss_nil)
    (pss_one (ps_ret (pe_op op_mod (pe_op op_add (pe_op op_mulW (pe_call (ok_draw T) (hr.mono (by decide)) (by rfl) T.g_draw T.F_draw.kp T.b_draw .nil pass0 (pa_cons (pv 0) (pa_cons (pe_op op_powW pe_int pe_int) pa_nil))) (pe_op op_powW pe_int pe_int)) (pe_call (ok_draw T) (hr.mono (by decide)) (by rfl) T.g_draw T.F_draw.kp T.b_draw .nil pass0 (pa_cons (pv 0) (pa_cons (pe_op op_powW pe_int pe_int) pa_nil)))) (pv 1)))))

theorem sc_is_row : FnScope N_is_row ["value"] (defScope s_is_row) := ⟨rfl, rfl, rfl, by decide +kernel, rfl, by decide +kernel, by decide +kernel⟩
theorem ok_is_row (T : Tx K mg) : FnOk P w K mg base CX0 3 T.f_is_row T.d_is_row ["value"] (sp_is_row K) := by
  refine T.F_is_row.ok sc_is_row (fun vs H Q E h => ln_is_row h) (fun cdv A outer s H vs Q E hr h => ⟨t_is_row K, ?_, rd_is_row h⟩)
  exact (pss_one (ps_ret (pe_and (pe_call (ok_are_weights T) (hr.mono (by decide)) (by rfl) T.g_are_weights T.F_are_weights.kp T.b_are_weights .nil pass0 (pa_cons (pv 0) pa_nil)) (pe_one (pe_cmpR op_eq (pe_call (ok_common_divisor T) (hr.mono (by decide)) (by rfl) T.g_common_divisor T.F_common_divisor.kp T.b_common_divisor .nil pass0 (pa_cons (pv 0) pa_nil)) pe_int (nomark _))))))

theorem sc_is_moves : FnScope N_is_moves ["value"] (defScope s_is_moves) := ⟨rfl, rfl, rfl, by decide +kernel, rfl, by decide +kernel, by decide +kernel⟩
theorem ok_is_moves (T : Tx K mg) : FnOk P w K mg base CX0 3 T.f_is_moves T.d_is_moves ["value"] (sp_is_moves K) := by
  refine T.F_is_moves.ok sc_is_moves (fun vs H Q E h => ln_is_moves h) (fun cdv A outer s H vs Q E hr h => ⟨t_is_moves K, ?_, rd_is_moves h⟩)
  exact (pss_one (ps_ret (pe_and (pe_cmpR op_isTy (pe_typeOf (by rfl) T.z_type (pv 0)) (pe_bltn (v := .ty "list") (by rfl) T.z_list (by decide +kernel) rfl) (nomark _)) (pe_and (pe_cmpR op_le (pe_callB call_len_seq (by rfl) T.z_len (by decide +kernel) (pa_cons (pv 0) pa_nil)) (pe_glob (v := .int 40) (by rfl) T.c_MOST_MOVES ⟨_, rfl⟩) (nomark _)) (pe_one (pe_callB (cr_all rfl) (by rfl) T.z_all (by decide +kernel) (pa_cons (pe_lc (own := [("move", 1)]) (g := (gName 1)) (tt := tYes) (by rfl) sc_is_moves.nd (pi_list (pv 0)) (blkOk_by (own := [("move", 1)]) (N := N_is_moves) (sc := defScope s_is_moves) (by decide +kernel)) (fun _ _ _ _ _ => (pg_name (i := 1) sc_is_moves.nd rfl (.inl rfl))) (fun _ _ _ _ _ => pts_nil) (fun _ _ _ _ _ => (pe_call (ok_is_move T) (hr.mono (by decide)) (by rfl) T.g_is_move T.F_is_move.kp T.b_is_move .nil pass0 (pa_cons (pv 1) pa_nil)))) pa_nil)))))))

theorem sc_row_behind : FnScope N_row_behind ["row", "moves"] (defScope s_row_behind) := ⟨rfl, rfl, rfl, by decide +kernel, rfl, by decide +kernel, by decide +kernel⟩
theorem ok_row_behind (T : Tx K mg) : FnOk P w K mg base CX0 3 T.f_row_behind T.d_row_behind ["row", "moves"] (sp_row_behind K) := by
  refine T.F_row_behind.ok sc_row_behind (fun vs H Q E h => ln_row_behind h) (fun cdv A outer s H vs Q E hr h => ⟨t_row_behind K, ?_, rd_row_behind h⟩)
  exact (pss_cons (ps_set (i := 2) sc_row_behind.nd rfl (.inl rfl) (pe_callTy call_list_of (by rfl) T.z_list (by decide +kernel) (pa_cons (pv 0) pa_nil)))
    (pss_cons (ps_for PassesOwn.never (by rfl) (pi_list (pv 1)) (pg_name (i := 3) sc_row_behind.nd rfl (.inl rfl)) (pss_one (ps_set (i := 2) sc_row_behind.nd rfl (.inl rfl) (pe_call (ok_reduced T) (hr.mono (by decide)) (by rfl) T.g_reduced T.F_reduced.kp T.b_reduced .nil pass0 (pa_cons (pe_call (ok_weights_after T) (hr.mono (by decide)) (by rfl) T.g_weights_after T.F_weights_after.kp T.b_weights_after .nil pass0 (pa_cons (pv 2) (pa_cons (pv 3) pa_nil))) pa_nil)))))
    (pss_one (ps_ret (pv 2)))))

theorem sc_weights : FnScope N_weights ["source", "width", "wide"] (defScope s_weights) := ⟨rfl, rfl, rfl, by decide +kernel, rfl, by decide +kernel, by decide +kernel⟩
theorem ok_weights (T : Tx K mg) : FnOk P w K mg base CX0 3 T.f_weights T.d_weights ["source", "width", "wide"] (sp_weights K) := by
  refine T.F_weights.ok sc_weights (fun vs H Q E h => ln_weights h) (fun cdv A outer s H vs Q E hr h => ⟨t_weights K, ?_, rd_weights h⟩)
  exact (pss_cons (ps_setLc (i := 3) (own := [("spot", 5)]) (g := (gName 5)) (tt := tYes) (by rfl) sc_weights.nd rfl rfl (sw_true rfl rfl rfl (by decide +kernel)) (pi_range1 (by rfl) T.z_range (pa_cons (pv 1) pa_nil)) (blkOk_by (own := [("spot", 5)]) (N := N_weights) (sc := defScope s_weights) (by decide +kernel)) (fun _ _ _ _ _ => (pg_name (i := 5) sc_weights.nd rfl (.inl rfl))) (fun _ _ _ _ _ => pts_nil) (fun _ _ _ _ _ => (pe_op op_add pe_int (pe_call (ok_any T) (hr.mono (by decide)) (by rfl) T.g_any T.F_any.kp T.b_any .nil pass0 (pa_cons (pv 0) (pa_cons (pv 2) pa_nil))))))
    (pss_cons (ps_set (i := 4) sc_weights.nd rfl (.inl rfl) (pe_call (ok_draw T) (hr.mono (by decide)) (by rfl) T.g_draw T.F_draw.kp T.b_draw .nil pass0 (pa_cons (pv 0) (pa_cons pe_int pa_nil))))
    (pss_cons (ps_if (pt_cmpR op_eq (pv 4) pe_int (nomark _)) (pss_one (ps_set (i := 3) sc_weights.nd rfl (.inl rfl) (pe_op op_rep (pe_lst (pa_cons pe_int pa_nil)) (pv 1)))) pss_nil)
    (pss_cons (ps_if (pt_cmpR op_eq (pv 4) pe_int (nomark _)) (pss_one (ps_asg (pv 2) (pg_sub (pv 3) (pe_call (ok_draw T) (hr.mono (by decide)) (by rfl) T.g_draw T.F_draw.kp T.b_draw .nil pass0 (pa_cons (pv 0) (pa_cons (pv 1) pa_nil))) set_list))) pss_nil)
    (pss_one (ps_ret (pe_call (ok_plain T) (hr.mono (by decide)) (by rfl) T.g_plain T.F_plain.kp T.b_plain .nil pass0 (pa_cons (pv 3) pa_nil))))))))

theorem sc_share : FnScope N_share ["source", "wide"] (defScope s_share) := ⟨rfl, rfl, rfl, by decide +kernel, rfl, by decide +kernel, by decide +kernel⟩
theorem ok_share (T : Tx K mg) : FnOk P w K mg base CX0 3 T.f_share T.d_share ["source", "wide"] (sp_share K) := by
  refine T.F_share.ok sc_share (fun vs H Q E h => ln_share h) (fun cdv A outer s H vs Q E hr h => ⟨t_share K, ?_, rd_share h⟩)
  exact (pss_cons (ps_set (i := 2) sc_share.nd rfl (.inl rfl) (pe_op op_add pe_int (pe_call (ok_any T) (hr.mono (by decide)) (by rfl) T.g_any T.F_any.kp T.b_any .nil pass0 (pa_cons (pv 0) (pa_cons (pv 1) pa_nil)))))
    (pss_cons (ps_set (i := 3) sc_share.nd rfl (.inl rfl) (pe_op op_add pe_int (pe_call (ok_any T) (hr.mono (by decide)) (by rfl) T.g_any T.F_any.kp T.b_any .nil pass0 (pa_cons (pv 0) (pa_cons (pe_op op_sub (pv 2) pe_int) pa_nil)))))
    (pss_cons (ps_set (i := 4) sc_share.nd rfl (.inl rfl) (pe_call (ok_divisor T) (hr.mono (by decide)) (by rfl) T.g_divisor T.F_divisor.kp T.b_divisor .nil pass0 (pa_cons (pv 3) (pa_cons (pv 2) pa_nil))))
    (pss_one (ps_ret (pe_tup (pa_cons (pe_op op_fdivW (pv 3) (pv 4)) (pa_cons (pe_op op_fdivW (pv 2) (pv 4)) pa_nil))))))))

theorem sc_led : FnScope N_led ["weights_here", "deeds"] (defScope s_led) := ⟨rfl, rfl, rfl, by decide +kernel, rfl, by decide +kernel, by decide +kernel⟩
theorem ok_led (T : Tx K mg) : FnOk P w K mg base CX0 3 T.f_led T.d_led ["weights_here", "deeds"] (sp_led K) := by
  refine T.F_led.ok sc_led (fun vs H Q E h => ln_led h) (fun cdv A outer s H vs Q E hr h => ⟨t_led K, ?_, rd_led h⟩)
  exact (pss_cons (ps_set (i := 2) sc_led.nd rfl (.inl rfl) (pe_callTy call_list_of (by rfl) T.z_list (by decide +kernel) (pa_cons (pv 0) pa_nil)))
    (pss_cons (ps_for PassesOwn.never (by rfl) (pi_list (pv 1)) (pg_tup (by rfl) (pgs_cons (pg_name (i := 3) sc_led.nd rfl (.inl rfl)) (pgs_cons (pg_name (i := 4) sc_led.nd rfl (.inr rfl)) (pgs_cons (pg_name (i := 5) sc_led.nd rfl (.inr rfl)) pgs_nil)))) (pss_cons (ps_set (i := 6) sc_led.nd rfl (.inl rfl) (pe_op op_sub (pe_callB (cr_sum rfl) (by rfl) T.z_sum (by decide +kernel) (pa_cons (pv 2) pa_nil)) (pe_ix ix_list (pv 2) (pv 3) (fun _ _ => rfl))))
    (pss_cons (ps_setLc (i := 2) (own := [("weight", 7)]) (g := (gName 7)) (tt := tYes) (by rfl) sc_led.nd rfl rfl (sw_true rfl rfl rfl (by decide +kernel)) (pi_list (pv 2)) (blkOk_by (own := [("weight", 7)]) (N := N_led) (sc := defScope s_led) (by decide +kernel)) (fun _ _ _ _ _ => (pg_name (i := 7) sc_led.nd rfl (.inl rfl))) (fun _ _ _ _ _ => pts_nil) (fun _ _ _ _ _ => (pe_op op_mulW (pv 7) (pe_op op_sub (pv 5) (pv 4)))))
    (pss_one (ps_asg (pe_op op_mulW (pv 4) (pv 6)) (pg_sub (pv 2) (pv 3) set_list))))))
    (pss_one (ps_ret (pe_call (ok_plain T) (hr.mono (by decide)) (by rfl) T.g_plain T.F_plain.kp T.b_plain .nil pass0 (pa_cons (pv 2) pa_nil))))))

theorem sc_check_row : FnScope N_check_row ["row"] (defScope s_check_row) := ⟨rfl, rfl, rfl, by decide +kernel, rfl, by decide +kernel, by decide +kernel⟩
theorem ok_check_row (T : Tx K mg) : FnOk P w K mg base CX0 4 T.f_check_row T.d_check_row ["row"] (sp_check_row K) := by
  refine T.F_check_row.ok sc_check_row (fun vs H Q E h => ln_check_row h) (fun cdv A outer s H vs Q E hr h => ⟨t_check_row K, ?_, rd_check_row h⟩)
  exact (pss_one (ps_if (pt_not (pt_val (pe_call (ok_is_row T) (hr.mono (by decide)) (by rfl) T.g_is_row T.F_is_row.kp T.b_is_row .nil pass0 (pa_cons (pv 0) pa_nil)))) (pss_one ps_never) pss_nil))

theorem sc_check_moves : FnScope N_check_moves ["moves", "sliders"] (defScope s_check_moves) := ⟨rfl, rfl, rfl, by decide +kernel, rfl, by decide +kernel, by decide +kernel⟩
theorem ok_check_moves (T : Tx K mg) : FnOk P w K mg base CX0 4 T.f_check_moves T.d_check_moves ["moves", "sliders"] (sp_check_moves K) := by
  refine T.F_check_moves.ok sc_check_moves (fun vs H Q E h => ln_check_moves h) (fun cdv A outer s H vs Q E hr h => ⟨t_check_moves K, ?_, rd_check_moves h⟩)
  exact (pss_one (ps_if (PW.pt (pw_or (pt_not (pt_val (pe_call (ok_is_moves T) (hr.mono (by decide)) (by rfl) T.g_is_moves T.F_is_moves.kp T.b_is_moves .nil pass0 (pa_cons (pv 0) pa_nil)))) (pw_or1 (pt_not (pt_val (pe_call (ok_are_there T) (hr.mono (by decide)) (by rfl) T.g_are_there T.F_are_there.kp T.b_are_there .nil pass0 (pa_cons (pv 0) (pa_cons (pv 1) pa_nil)))))))) (pss_one ps_never) pss_nil))

theorem sc_deeds : FnScope N_deeds ["source", "width", "many", "wide"] (defScope s_deeds) := ⟨rfl, rfl, rfl, by decide +kernel, rfl, by decide +kernel, by decide +kernel⟩
theorem ok_deeds (T : Tx K mg) : FnOk P w K mg base CX0 4 T.f_deeds T.d_deeds ["source", "width", "many", "wide"] (sp_deeds K) := by
  refine T.F_deeds.ok sc_deeds (fun vs H Q E h => ln_deeds h) (fun cdv A outer s H vs Q E hr h => ⟨t_deeds K, ?_, rd_deeds h⟩)
  exact (pss_cons (ps_par (i := 4) (j := 5) (by rfl) sc_deeds.nd rfl rfl (by decide) rfl rfl (pa_cons (pe_call (ok_draw T) (hr.mono (by decide)) (by rfl) T.g_draw T.F_draw.kp T.b_draw .nil pass0 (pa_cons (pv 0) (pa_cons pe_int pa_nil))) (pa_cons (pe_lst pa_nil) pa_nil)) (by rfl))
    (pss_cons (ps_for PassesOwn.never (by rfl) (pi_range1 (by rfl) T.z_range (pa_cons (pv 2) pa_nil)) (pg_name (i := 6) sc_deeds.nd rfl (.inl rfl)) (pss_cons (ps_set (i := 7) sc_deeds.nd rfl (.inl rfl) (pe_ix ix_list (pe_lst (pa_cons (pe_call (ok_draw T) (hr.mono (by decide)) (by rfl) T.g_draw T.F_draw.kp T.b_draw .nil pass0 (pa_cons (pv 0) (pa_cons (pv 1) pa_nil))) (pa_cons (pe_op op_mod (pv 6) (pv 1)) (pa_cons (pe_call (ok_draw T) (hr.mono (by decide)) (by rfl) T.g_draw T.F_draw.kp T.b_draw .nil pass0 (pa_cons (pv 0) (pa_cons pe_int pa_nil))) (pa_cons (pe_op op_sub (pe_op op_sub (pv 1) pe_int) (pe_op op_mod (pv 6) (pv 1))) pa_nil))))) (pv 4) (fun _ _ => rfl)))
    (pss_one (ps_expr (pe_bm PySem.F.plainAttrs_list PySem.F.slot_list_append PySem.F.type_list_append mt_append (pv 5) (pa_cons (pe_op op_catT (pe_tup (pa_cons (pv 7) pa_nil)) (pe_call (ok_share T) (hr.mono (by decide)) (by rfl) T.g_share T.F_share.kp T.b_share .nil pass0 (pa_cons (pv 0) (pa_cons (pv 3) pa_nil)))) pa_nil))))))
    (pss_one (ps_ret (pv 5)))))

theorem sc_share_of : FnScope N_share_of ["row", "slider"] (defScope s_share_of) := ⟨rfl, rfl, rfl, by decide +kernel, rfl, by decide +kernel, by decide +kernel⟩
theorem ok_share_of (T : Tx K mg) : FnOk P w K mg base CX0 5 T.f_share_of T.d_share_of ["row", "slider"] (sp_share_of K) := by
  refine T.F_share_of.ok sc_share_of (fun vs H Q E h => ln_share_of h) (fun cdv A outer s H vs Q E hr h => ⟨t_share_of K, ?_, rd_share_of h⟩)
  exact (pss_cons (ps_expr (pe_call (ok_check_row T) (hr.mono (by decide)) (by rfl) T.g_check_row T.F_check_row.kp T.b_check_row .nil pass0 (pa_cons (pv 0) pa_nil)))
    (pss_cons (ps_expr (pe_call (ok_check_slider T) (hr.mono (by decide)) (by rfl) T.g_check_slider T.F_check_slider.kp T.b_check_slider .nil pass0 (pa_cons (pv 0) (pa_cons (pv 1) pa_nil))))
    (pss_one (ps_ret (pe_call (ok_lowest_terms T) (hr.mono (by decide)) (by rfl) T.g_lowest_terms T.F_lowest_terms.kp T.b_lowest_terms .nil pass0 (pa_cons (pe_ix ix_list (pv 0) (pv 1) (fun _ _ => rfl)) (pa_cons (pe_callB (cr_sum rfl) (by rfl) T.z_sum (by decide +kernel) (pa_cons (pv 0) pa_nil)) pa_nil)))))))

theorem sc_row_after : FnScope N_row_after ["row", "moves"] (defScope s_row_after) := ⟨rfl, rfl, rfl, by decide +kernel, rfl, by decide +kernel, by decide +kernel⟩
theorem ok_row_after (T : Tx K mg) : FnOk P w K mg base CX0 5 T.f_row_after T.d_row_after ["row", "moves"] (sp_row_after K) := by
  refine T.F_row_after.ok sc_row_after (fun vs H Q E h => ln_row_after h) (fun cdv A outer s H vs Q E hr h => ⟨t_row_after K, ?_, rd_row_after h⟩)
  exact (pss_cons (ps_expr (pe_call (ok_check_row T) (hr.mono (by decide)) (by rfl) T.g_check_row T.F_check_row.kp T.b_check_row .nil pass0 (pa_cons (pv 0) pa_nil)))
    (pss_cons (ps_expr (pe_call (ok_check_moves T) (hr.mono (by decide)) (by rfl) T.g_check_moves T.F_check_moves.kp T.b_check_moves .nil pass0 (pa_cons (pv 1) (pa_cons (pe_callB call_len_seq (by rfl) T.z_len (by decide +kernel) (pa_cons (pv 0) pa_nil)) pa_nil))))
    (pss_one (ps_ret (pe_call (ok_row_behind T) (hr.mono (by decide)) (by rfl) T.g_row_behind T.F_row_behind.kp T.b_row_behind .nil pass0 (pa_cons (pv 0) (pa_cons (pv 1) pa_nil)))))))

theorem sc_right37 : FnScope N_right37 ["source", "weights_here", "deeds"] (defScope s_right37) := ⟨rfl, rfl, rfl, by decide +kernel, rfl, by decide +kernel, by decide +kernel⟩
theorem ok_right37 (T : Tx K mg) : FnOk P w K mg base CX0 6 T.f_right37 T.d_right37 ["source", "weights_here", "deeds"] (sp_right37 K) := by
  refine T.F_right37.ok sc_right37 (fun vs H Q E h => ln_right37 h) (fun cdv A outer s H vs Q E hr h => ⟨t_right37 K, ?_, rd_right37 h⟩)
  exact (pss_cons (ps_set (i := 3) sc_right37.nd rfl (.inl rfl) (pe_lst (pa_cons (pe_callTy call_list_of (by rfl) T.z_list (by decide +kernel) (pa_cons (pv 1) pa_nil)) (pa_cons (pe_callTy call_list_of (by rfl) T.z_list (by decide +kernel) (pa_cons (pv 2) pa_nil)) pa_nil))))
    (pss_cons (ps_set (i := 4) sc_right37.nd rfl (.inl rfl) (pe_call (ok_row_after T) (hr.mono (by decide)) (by rfl) T.g_row_after T.F_row_after.kp T.b_row_after .nil pass0 (pa_cons (pv 1) (pa_cons (pv 2) pa_nil))))
    (pss_cons (ps_if (PW.pt (pw_or (pt_cmpR (op_neD hr.units) (pv 4) (pe_call (ok_led T) (hr.mono (by decide)) (by rfl) T.g_led T.F_led.kp T.b_led .nil pass0 (pa_cons (pv 1) (pa_cons (pv 2) pa_nil))) (nomark _)) (pw_or1 (pt_cmpR (op_neD hr.units) (pe_lst (pa_cons (pv 1) (pa_cons (pv 2) pa_nil))) (pv 3) (nomark _))))) (pss_one (ps_ret pe_bl)) pss_nil)
    (pss_cons (ps_set (i := 5) sc_right37.nd rfl (.inl rfl) (pe_call (ok_draw T) (hr.mono (by decide)) (by rfl) T.g_draw T.F_draw.kp T.b_draw .nil pass0 (pa_cons (pv 0) (pa_cons (pe_op op_add (pe_callB call_len_seq (by rfl) T.z_len (by decide +kernel) (pa_cons (pv 2) pa_nil)) pe_int) pa_nil))))
    (pss_cons (ps_if (pt_cmpR (op_neD hr.units) (pe_call (ok_row_after T) (hr.mono (by decide)) (by rfl) T.g_row_after T.F_row_after.kp T.b_row_after .nil pass0 (pa_cons (pe_call (ok_row_after T) (hr.mono (by decide)) (by rfl) T.g_row_after T.F_row_after.kp T.b_row_after .nil pass0 (pa_cons (pv 1) (pa_cons (pe_slice sl_list (pv 2) po_none (po_some (pv 5))) pa_nil))) (pa_cons (pe_slice sl_list (pv 2) (po_some (pv 5)) po_none) pa_nil))) (pv 4) (nomark _)) (pss_one (ps_ret pe_bl)) pss_nil)
    (pss_cons (ps_if (PW.pt (pw_and (pt_cmpR (op_neD hr.units) (pv 2) (pe_lst pa_nil) (nomark _)) (pw_and1 (pt_cmpR (op_neD hr.units) (pe_call (ok_share_of T) (hr.mono (by decide)) (by rfl) T.g_share_of T.F_share_of.kp T.b_share_of .nil pass0 (pa_cons (pv 4) (pa_cons (pe_ix ix_tup (pe_ix ix_list (pv 2) (pe_un un_neg pe_int) (fun _ _ => rfl)) pe_int (fun _ _ => rfl)) pa_nil))) (pe_slice sl_tup (pe_ix ix_list (pv 2) (pe_un un_neg pe_int) (fun _ _ => rfl)) (po_some pe_int) po_none) (nomark _))))) (pss_one (ps_ret pe_bl)) pss_nil)
    (pss_cons (ps_setLc (i := 6) (own := [("spot", 9)]) (g := (gName 9)) (tt := (tTest (tOp (rIn _ true) (tVar 9) (tLc (iList _ (tVar 2)) (gName 10) tYes (tOp (rIxT _) (tVar 10) (tC (.int 0))) [10])))) (by rfl) sc_right37.nd rfl rfl (sw_true rfl rfl rfl (by decide +kernel)) (pi_range1 (by rfl) T.z_range (pa_cons (pe_callB call_len_seq (by rfl) T.z_len (by decide +kernel) (pa_cons (pv 4) pa_nil)) pa_nil)) (blkOk_by (own := [("spot", 9)]) (N := N_right37) (sc := defScope s_right37) (by decide +kernel)) (fun _ _ _ _ _ => (pg_name (i := 9) sc_right37.nd rfl (.inl rfl))) (fun _ _ _ _ _ => (pts_one (pt_cmpR op_notIn_seq (pv 9) (pe_lc (own := [("deed", 10)]) (g := (gName 10)) (tt := tYes) (by rfl) sc_right37.nd (pi_list (pv 2)) (blkOk_by (own := [("deed", 10)]) (N := N_right37) (sc := { kind := .function, names := [(PySem.Str.ofString ".0", .local), (PySem.Str.ofString "spot", .local), (PySem.Str.ofString "deeds", .cell)], isGenerator := false, isCoroutine := false, more := [] }) (by decide +kernel)) (fun _ _ _ _ _ => (pg_name (i := 10) sc_right37.nd rfl (.inl rfl))) (fun _ _ _ _ _ => pts_nil) (fun _ _ _ _ _ => (pe_ix ix_tup (pv 10) pe_int (fun _ _ => rfl)))) (by rfl)))) (fun _ _ _ _ _ => (pv 9)))
    (pss_cons (ps_for PassesOwn.never (by rfl) (pi_zip (by rfl) T.z_zip (pa_cons (pv 6) (pa_cons (pe_slice sl_list (pv 6) (po_some pe_int) po_none) pa_nil))) (pg_tup (by rfl) (pgs_cons (pg_name (i := 7) sc_right37.nd rfl (.inl rfl)) (pgs_cons (pg_name (i := 8) sc_right37.nd rfl (.inl rfl)) pgs_nil))) (pss_one (ps_if (pt_cmpR op_ne (pe_op op_mulW (pe_ix ix_list (pv 4) (pv 7) (fun _ _ => rfl)) (pe_ix ix_list (pv 1) (pv 8) (fun _ _ => rfl))) (pe_op op_mulW (pe_ix ix_list (pv 4) (pv 8) (fun _ _ => rfl)) (pe_ix ix_list (pv 1) (pv 7) (fun _ _ => rfl))) (nomark _)) (pss_one (ps_ret pe_bl)) pss_nil)))
    (pss_one (ps_ret pe_bl))))))))))

theorem sc_law37 : FnScope N_law37 ["script"] (defScope s_law37) := ⟨rfl, rfl, rfl, by decide +kernel, rfl, by decide +kernel, by decide +kernel⟩
theorem ok_law37 (T : Tx K mg) : FnOk P w K mg base CX0 7 T.f_law37 T.d_law37 ["script"] (sp_law37 K) := by
  refine T.F_law37.ok sc_law37 (fun vs H Q E h => ln_law37 h) (fun cdv A outer s H vs Q E hr h => ⟨t_law37 K, ?_, rd_law37 h⟩)
  exact (pss_cons (ps_for PassesOwn.never (by rfl) (pi_range1 (by rfl) T.z_range (pa_cons (pe_callB (call_max2 rfl) (by rfl) T.z_max (by decide +kernel) (pa_cons pe_int (pa_cons (pe_callB (call_min2 rfl) (by rfl) T.z_min (by decide +kernel) (pa_cons pe_int (pa_cons (pe_callB call_len_seq (by rfl) T.z_len (by decide +kernel) (pa_cons (pv 0) pa_nil)) pa_nil))) pa_nil))) pa_nil)) (pg_name (i := 1) sc_law37.nd rfl (.inl rfl)) (pss_cons (ps_set (i := 2) sc_law37.nd rfl (.inl rfl) (pe_call (ok_openSource T) (hr.mono (by decide)) (by rfl) T.g_openSource T.F_openSource.kp T.b_openSource .nil pass0 (pa_cons (pv 0) (pa_cons (pv 1) pa_nil))))
    (pss_one (ps_for PassesOwn.never (by rfl) (pi_range1 (by rfl) T.z_range (pa_cons pe_int pa_nil)) (pg_name (i := 3) sc_law37.nd rfl (.inl rfl)) (pss_cons (ps_set (i := 4) sc_law37.nd rfl (.inl rfl) (pe_call (ok_width T) (hr.mono (by decide)) (by rfl) T.g_width T.F_width.kp T.b_width .nil pass0 (pa_cons (pv 2) (pa_cons (pv 0) pa_nil))))
    (pss_cons (ps_set (i := 5) sc_law37.nd rfl (.inl rfl) (pe_ifExp (pt_cmpR op_eq (pe_op op_add (pv 1) (pv 3)) pe_int (nomark _)) (pe_op op_powW pe_int pe_int) (pe_ix ix_list (pe_lst (pa_cons pe_int (pa_cons pe_int pa_nil))) (pe_call (ok_draw T) (hr.mono (by decide)) (by rfl) T.g_draw T.F_draw.kp T.b_draw .nil pass0 (pa_cons (pv 2) (pa_cons pe_int pa_nil))) (fun _ _ => rfl))))
    (pss_cons (ps_set (i := 6) sc_law37.nd rfl (.inl rfl) (pe_call (ok_weights T) (hr.mono (by decide)) (by rfl) T.g_weights T.F_weights.kp T.b_weights .nil pass0 (pa_cons (pv 2) (pa_cons (pv 4) (pa_cons (pv 5) pa_nil)))))
    (pss_cons (ps_set (i := 7) sc_law37.nd rfl (.inl rfl) (pe_ifExp (pt_cmpR (op_eqD hr.units) (pv 0) (pe_lst pa_nil) (nomark _)) pe_int (pe_ix ix_list (pe_lst (pa_cons pe_int (pa_cons (pe_call (ok_draw T) (hr.mono (by decide)) (by rfl) T.g_draw T.F_draw.kp T.b_draw .nil pass0 (pa_cons (pv 2) (pa_cons pe_int pa_nil))) pa_nil))) (pe_call (ok_draw T) (hr.mono (by decide)) (by rfl) T.g_draw T.F_draw.kp T.b_draw .nil pass0 (pa_cons (pv 2) (pa_cons pe_int pa_nil))) (fun _ _ => rfl))))
    (pss_cons (ps_set (i := 8) sc_law37.nd rfl (.inl rfl) (pe_call (ok_deeds T) (hr.mono (by decide)) (by rfl) T.g_deeds T.F_deeds.kp T.b_deeds .nil pass0 (pa_cons (pv 2) (pa_cons (pv 4) (pa_cons (pv 7) (pa_cons (pv 5) pa_nil))))))
    (pss_cons (ps_if (pt_not (pt_val (pe_call (ok_right37 T) (hr.mono (by decide)) (by rfl) T.g_right37 T.F_right37.kp T.b_right37 .nil pass0 (pa_cons (pv 2) (pa_cons (pv 6) (pa_cons (pv 8) pa_nil)))))) (pss_one (ps_ret pe_bl)) pss_nil)
    (pss_cons (ps_expr (pe_bm0 PySem.F.plainAttrs_list PySem.F.slot_list_reverse PySem.F.type_list_reverse mt_reverse (pv 8)))
    (pss_cons (ps_expr (pe_bm0 PySem.F.plainAttrs_list PySem.F.slot_list_reverse PySem.F.type_list_reverse mt_reverse (pv 6)))
    (pss_cons (ps_if (pt_not (pt_val (pe_call (ok_right37 T) (hr.mono (by decide)) (by rfl) T.g_right37 T.F_right37.kp T.b_right37 .nil pass0 (pa_cons (pv 2) (pa_cons (pv 6) (pa_cons (pv 8) pa_nil)))))) (pss_one (ps_ret pe_bl)) pss_nil)
    (pss_cons (ps_expr (pe_bm0 PySem.F.plainAttrs_list PySem.F.slot_list_clear PySem.F.type_list_clear mt_clear (pv 8)))
    (pss_one (ps_if (pt_cmpR (op_neD hr.units) (pe_call (ok_row_after T) (hr.mono (by decide)) (by rfl) T.g_row_after T.F_row_after.kp T.b_row_after .nil pass0 (pa_cons (pv 6) (pa_cons (pv 8) pa_nil))) (pv 6) (nomark _)) (pss_one (ps_ret pe_bl)) pss_nil))))))))))))))))
    (pss_one (ps_ret (pe_cmpR (op_eqD hr.units) (pe_call (ok_row_after T) (hr.mono (by decide)) (by rfl) T.g_row_after T.F_row_after.kp T.b_row_after .nil pass0 (pa_cons (pe_lst (pa_cons pe_int (pa_cons pe_int (pa_cons pe_int pa_nil)))) (pa_cons (pe_lst (pa_cons (pe_tup (pa_cons pe_int (pa_cons pe_int (pa_cons pe_int pa_nil)))) (pa_cons (pe_tup (pa_cons pe_int (pa_cons pe_int (pa_cons pe_int pa_nil)))) pa_nil))) pa_nil))) (pe_lst (pa_cons pe_int (pa_cons pe_int (pa_cons pe_int pa_nil)))) (nomark _)))))

end
theorem all_mk {l : PySem.W.OpenLaw} {w : World} {K : PySem.W.Frag} {h : Heap} {mg : Str → Option Value} {fa : Addr} (X : K.In h) (G : h.Ns mainGlobals mg) (hfa : mg "law" = some (.ref fa))
    {f_is_whole : Addr} {od_is_whole an_is_whole : Option Addr} {sl_is_whole : Array (Option Value)} {oc_is_whole kV_is_whole dc_is_whole pm_is_whole cd_is_whole ct_is_whole : Value}
    {f_has_slider_length : Addr} {od_has_slider_length an_has_slider_length : Option Addr} {sl_has_slider_length : Array (Option Value)} {oc_has_slider_length kV_has_slider_length dc_has_slider_length pm_has_slider_length cd_has_slider_length ct_has_slider_length : Value}
    {f_common_divisor : Addr} {od_common_divisor an_common_divisor : Option Addr} {sl_common_divisor : Array (Option Value)} {oc_common_divisor kV_common_divisor dc_common_divisor pm_common_divisor cd_common_divisor ct_common_divisor : Value}
    {f_lowest_terms : Addr} {od_lowest_terms an_lowest_terms : Option Addr} {sl_lowest_terms : Array (Option Value)} {oc_lowest_terms kV_lowest_terms dc_lowest_terms pm_lowest_terms cd_lowest_terms ct_lowest_terms : Value}
    {f_are_there : Addr} {od_are_there an_are_there : Option Addr} {sl_are_there : Array (Option Value)} {oc_are_there kV_are_there dc_are_there pm_are_there cd_are_there ct_are_there : Value}
    {f_weights_after : Addr} {od_weights_after an_weights_after : Option Addr} {sl_weights_after : Array (Option Value)} {oc_weights_after kV_weights_after dc_weights_after pm_weights_after cd_weights_after ct_weights_after : Value}
    {f_openSource : Addr} {od_openSource an_openSource : Option Addr} {sl_openSource : Array (Option Value)} {oc_openSource kV_openSource dc_openSource pm_openSource cd_openSource ct_openSource : Value}
    {f_draw : Addr} {od_draw an_draw : Option Addr} {sl_draw : Array (Option Value)} {oc_draw kV_draw dc_draw pm_draw cd_draw ct_draw : Value}
    {f_divisor : Addr} {od_divisor an_divisor : Option Addr} {sl_divisor : Array (Option Value)} {oc_divisor kV_divisor dc_divisor pm_divisor cd_divisor ct_divisor : Value}
    {f_are_weights : Addr} {od_are_weights an_are_weights : Option Addr} {sl_are_weights : Array (Option Value)} {oc_are_weights kV_are_weights dc_are_weights pm_are_weights cd_are_weights ct_are_weights : Value}
    {f_check_slider : Addr} {od_check_slider an_check_slider : Option Addr} {sl_check_slider : Array (Option Value)} {oc_check_slider kV_check_slider dc_check_slider pm_check_slider cd_check_slider ct_check_slider : Value}
    {f_reduced : Addr} {od_reduced an_reduced : Option Addr} {sl_reduced : Array (Option Value)} {oc_reduced kV_reduced dc_reduced pm_reduced cd_reduced ct_reduced : Value}
    {f_is_move : Addr} {od_is_move an_is_move : Option Addr} {sl_is_move : Array (Option Value)} {oc_is_move kV_is_move dc_is_move pm_is_move cd_is_move ct_is_move : Value}
    {f_plain : Addr} {od_plain an_plain : Option Addr} {sl_plain : Array (Option Value)} {oc_plain kV_plain dc_plain pm_plain cd_plain ct_plain : Value}
    {f_width : Addr} {od_width an_width : Option Addr} {sl_width : Array (Option Value)} {oc_width kV_width dc_width pm_width cd_width ct_width : Value}
    {f_any : Addr} {od_any an_any : Option Addr} {sl_any : Array (Option Value)} {oc_any kV_any dc_any pm_any cd_any ct_any : Value}
    {f_is_row : Addr} {od_is_row an_is_row : Option Addr} {sl_is_row : Array (Option Value)} {oc_is_row kV_is_row dc_is_row pm_is_row cd_is_row ct_is_row : Value}
    {f_is_moves : Addr} {od_is_moves an_is_moves : Option Addr} {sl_is_moves : Array (Option Value)} {oc_is_moves kV_is_moves dc_is_moves pm_is_moves cd_is_moves ct_is_moves : Value}
    {f_row_behind : Addr} {od_row_behind an_row_behind : Option Addr} {sl_row_behind : Array (Option Value)} {oc_row_behind kV_row_behind dc_row_behind pm_row_behind cd_row_behind ct_row_behind : Value}
    {f_weights : Addr} {od_weights an_weights : Option Addr} {sl_weights : Array (Option Value)} {oc_weights kV_weights dc_weights pm_weights cd_weights ct_weights : Value}
    {f_share : Addr} {od_share an_share : Option Addr} {sl_share : Array (Option Value)} {oc_share kV_share dc_share pm_share cd_share ct_share : Value}
    {f_led : Addr} {od_led an_led : Option Addr} {sl_led : Array (Option Value)} {oc_led kV_led dc_led pm_led cd_led ct_led : Value}
    {f_check_row : Addr} {od_check_row an_check_row : Option Addr} {sl_check_row : Array (Option Value)} {oc_check_row kV_check_row dc_check_row pm_check_row cd_check_row ct_check_row : Value}
    {f_check_moves : Addr} {od_check_moves an_check_moves : Option Addr} {sl_check_moves : Array (Option Value)} {oc_check_moves kV_check_moves dc_check_moves pm_check_moves cd_check_moves ct_check_moves : Value}
    {f_deeds : Addr} {od_deeds an_deeds : Option Addr} {sl_deeds : Array (Option Value)} {oc_deeds kV_deeds dc_deeds pm_deeds cd_deeds ct_deeds : Value}
    {f_share_of : Addr} {od_share_of an_share_of : Option Addr} {sl_share_of : Array (Option Value)} {oc_share_of kV_share_of dc_share_of pm_share_of cd_share_of ct_share_of : Value}
    {f_row_after : Addr} {od_row_after an_row_after : Option Addr} {sl_row_after : Array (Option Value)} {oc_row_after kV_row_after dc_row_after pm_row_after cd_row_after ct_row_after : Value}
    {f_right37 : Addr} {od_right37 an_right37 : Option Addr} {sl_right37 : Array (Option Value)} {oc_right37 kV_right37 dc_right37 pm_right37 cd_right37 ct_right37 : Value}
    {f_law37 : Addr} {od_law37 an_law37 : Option Addr} {sl_law37 : Array (Option Value)} {oc_law37 kV_law37 dc_law37 pm_law37 cd_law37 ct_law37 : Value}
    {v_FEWEST_SLIDERS : Tok}
    {v_MOST_MOVES : Tok}
    {v_MOST_SLIDERS : Tok}
    (a_is_whole : PySem.W.nsIn K mainGlobals "is_whole" = some (some (.ref f_is_whole))) (l_is_whole : K.lookup f_is_whole = some ⟨oc_is_whole, od_is_whole, .func (PySem.W.fnOf "is_whole" "is_whole" (defArgs s_is_whole) (defBody s_is_whole) (defScope s_is_whole) .none kV_is_whole dc_is_whole pm_is_whole an_is_whole cd_is_whole ct_is_whole), sl_is_whole⟩) (c_is_whole : PySem.W.codeIn K cd_is_whole "is_whole" = true) (k_is_whole : PySem.W.keepIn K (.ref f_is_whole) = true)
    (a_has_slider_length : PySem.W.nsIn K mainGlobals "has_slider_length" = some (some (.ref f_has_slider_length))) (l_has_slider_length : K.lookup f_has_slider_length = some ⟨oc_has_slider_length, od_has_slider_length, .func (PySem.W.fnOf "has_slider_length" "has_slider_length" (defArgs s_has_slider_length) (defBody s_has_slider_length) (defScope s_has_slider_length) .none kV_has_slider_length dc_has_slider_length pm_has_slider_length an_has_slider_length cd_has_slider_length ct_has_slider_length), sl_has_slider_length⟩) (c_has_slider_length : PySem.W.codeIn K cd_has_slider_length "has_slider_length" = true) (k_has_slider_length : PySem.W.keepIn K (.ref f_has_slider_length) = true)
    (a_common_divisor : PySem.W.nsIn K mainGlobals "common_divisor" = some (some (.ref f_common_divisor))) (l_common_divisor : K.lookup f_common_divisor = some ⟨oc_common_divisor, od_common_divisor, .func (PySem.W.fnOf "common_divisor" "common_divisor" (defArgs s_common_divisor) (defBody s_common_divisor) (defScope s_common_divisor) .none kV_common_divisor dc_common_divisor pm_common_divisor an_common_divisor cd_common_divisor ct_common_divisor), sl_common_divisor⟩) (c_common_divisor : PySem.W.codeIn K cd_common_divisor "common_divisor" = true) (k_common_divisor : PySem.W.keepIn K (.ref f_common_divisor) = true)
    (a_lowest_terms : PySem.W.nsIn K mainGlobals "lowest_terms" = some (some (.ref f_lowest_terms))) (l_lowest_terms : K.lookup f_lowest_terms = some ⟨oc_lowest_terms, od_lowest_terms, .func (PySem.W.fnOf "lowest_terms" "lowest_terms" (defArgs s_lowest_terms) (defBody s_lowest_terms) (defScope s_lowest_terms) .none kV_lowest_terms dc_lowest_terms pm_lowest_terms an_lowest_terms cd_lowest_terms ct_lowest_terms), sl_lowest_terms⟩) (c_lowest_terms : PySem.W.codeIn K cd_lowest_terms "lowest_terms" = true) (k_lowest_terms : PySem.W.keepIn K (.ref f_lowest_terms) = true)
    (a_are_there : PySem.W.nsIn K mainGlobals "are_there" = some (some (.ref f_are_there))) (l_are_there : K.lookup f_are_there = some ⟨oc_are_there, od_are_there, .func (PySem.W.fnOf "are_there" "are_there" (defArgs s_are_there) (defBody s_are_there) (defScope s_are_there) .none kV_are_there dc_are_there pm_are_there an_are_there cd_are_there ct_are_there), sl_are_there⟩) (c_are_there : PySem.W.codeIn K cd_are_there "are_there" = true) (k_are_there : PySem.W.keepIn K (.ref f_are_there) = true)
    (a_weights_after : PySem.W.nsIn K mainGlobals "weights_after" = some (some (.ref f_weights_after))) (l_weights_after : K.lookup f_weights_after = some ⟨oc_weights_after, od_weights_after, .func (PySem.W.fnOf "weights_after" "weights_after" (defArgs s_weights_after) (defBody s_weights_after) (defScope s_weights_after) .none kV_weights_after dc_weights_after pm_weights_after an_weights_after cd_weights_after ct_weights_after), sl_weights_after⟩) (c_weights_after : PySem.W.codeIn K cd_weights_after "weights_after" = true) (k_weights_after : PySem.W.keepIn K (.ref f_weights_after) = true)
    (a_openSource : PySem.W.nsIn K mainGlobals "_law_open_source" = some (some (.ref f_openSource))) (l_openSource : K.lookup f_openSource = some ⟨oc_openSource, od_openSource, .func (PySem.W.fnOf "_law_open_source" "_law_open_source" (defArgs s_openSource) (defBody s_openSource) (defScope s_openSource) .none kV_openSource dc_openSource pm_openSource an_openSource cd_openSource ct_openSource), sl_openSource⟩) (c_openSource : PySem.W.codeIn K cd_openSource "_law_open_source" = true) (k_openSource : PySem.W.keepIn K (.ref f_openSource) = true)
    (a_draw : PySem.W.nsIn K mainGlobals "_law_draw" = some (some (.ref f_draw))) (l_draw : K.lookup f_draw = some ⟨oc_draw, od_draw, .func (PySem.W.fnOf "_law_draw" "_law_draw" (defArgs s_draw) (defBody s_draw) (defScope s_draw) .none kV_draw dc_draw pm_draw an_draw cd_draw ct_draw), sl_draw⟩) (c_draw : PySem.W.codeIn K cd_draw "_law_draw" = true) (k_draw : PySem.W.keepIn K (.ref f_draw) = true)
    (a_divisor : PySem.W.nsIn K mainGlobals "_law_divisor" = some (some (.ref f_divisor))) (l_divisor : K.lookup f_divisor = some ⟨oc_divisor, od_divisor, .func (PySem.W.fnOf "_law_divisor" "_law_divisor" (defArgs s_divisor) (defBody s_divisor) (defScope s_divisor) .none kV_divisor dc_divisor pm_divisor an_divisor cd_divisor ct_divisor), sl_divisor⟩) (c_divisor : PySem.W.codeIn K cd_divisor "_law_divisor" = true) (k_divisor : PySem.W.keepIn K (.ref f_divisor) = true)
    (a_are_weights : PySem.W.nsIn K mainGlobals "are_weights" = some (some (.ref f_are_weights))) (l_are_weights : K.lookup f_are_weights = some ⟨oc_are_weights, od_are_weights, .func (PySem.W.fnOf "are_weights" "are_weights" (defArgs s_are_weights) (defBody s_are_weights) (defScope s_are_weights) .none kV_are_weights dc_are_weights pm_are_weights an_are_weights cd_are_weights ct_are_weights), sl_are_weights⟩) (c_are_weights : PySem.W.codeIn K cd_are_weights "are_weights" = true) (k_are_weights : PySem.W.keepIn K (.ref f_are_weights) = true)
    (a_check_slider : PySem.W.nsIn K mainGlobals "check_slider" = some (some (.ref f_check_slider))) (l_check_slider : K.lookup f_check_slider = some ⟨oc_check_slider, od_check_slider, .func (PySem.W.fnOf "check_slider" "check_slider" (defArgs s_check_slider) (defBody s_check_slider) (defScope s_check_slider) .none kV_check_slider dc_check_slider pm_check_slider an_check_slider cd_check_slider ct_check_slider), sl_check_slider⟩) (c_check_slider : PySem.W.codeIn K cd_check_slider "check_slider" = true) (k_check_slider : PySem.W.keepIn K (.ref f_check_slider) = true)
    (a_reduced : PySem.W.nsIn K mainGlobals "reduced" = some (some (.ref f_reduced))) (l_reduced : K.lookup f_reduced = some ⟨oc_reduced, od_reduced, .func (PySem.W.fnOf "reduced" "reduced" (defArgs s_reduced) (defBody s_reduced) (defScope s_reduced) .none kV_reduced dc_reduced pm_reduced an_reduced cd_reduced ct_reduced), sl_reduced⟩) (c_reduced : PySem.W.codeIn K cd_reduced "reduced" = true) (k_reduced : PySem.W.keepIn K (.ref f_reduced) = true)
    (a_is_move : PySem.W.nsIn K mainGlobals "is_move" = some (some (.ref f_is_move))) (l_is_move : K.lookup f_is_move = some ⟨oc_is_move, od_is_move, .func (PySem.W.fnOf "is_move" "is_move" (defArgs s_is_move) (defBody s_is_move) (defScope s_is_move) .none kV_is_move dc_is_move pm_is_move an_is_move cd_is_move ct_is_move), sl_is_move⟩) (c_is_move : PySem.W.codeIn K cd_is_move "is_move" = true) (k_is_move : PySem.W.keepIn K (.ref f_is_move) = true)
    (a_plain : PySem.W.nsIn K mainGlobals "_law_plain" = some (some (.ref f_plain))) (l_plain : K.lookup f_plain = some ⟨oc_plain, od_plain, .func (PySem.W.fnOf "_law_plain" "_law_plain" (defArgs s_plain) (defBody s_plain) (defScope s_plain) .none kV_plain dc_plain pm_plain an_plain cd_plain ct_plain), sl_plain⟩) (c_plain : PySem.W.codeIn K cd_plain "_law_plain" = true) (k_plain : PySem.W.keepIn K (.ref f_plain) = true)
    (a_width : PySem.W.nsIn K mainGlobals "_law_width" = some (some (.ref f_width))) (l_width : K.lookup f_width = some ⟨oc_width, od_width, .func (PySem.W.fnOf "_law_width" "_law_width" (defArgs s_width) (defBody s_width) (defScope s_width) .none kV_width dc_width pm_width an_width cd_width ct_width), sl_width⟩) (c_width : PySem.W.codeIn K cd_width "_law_width" = true) (k_width : PySem.W.keepIn K (.ref f_width) = true)
    (a_any : PySem.W.nsIn K mainGlobals "_law_any" = some (some (.ref f_any))) (l_any : K.lookup f_any = some ⟨oc_any, od_any, .func (PySem.W.fnOf "_law_any" "_law_any" (defArgs s_any) (defBody s_any) (defScope s_any) .none kV_any dc_any pm_any an_any cd_any ct_any), sl_any⟩) (c_any : PySem.W.codeIn K cd_any "_law_any" = true) (k_any : PySem.W.keepIn K (.ref f_any) = true)
    (a_is_row : PySem.W.nsIn K mainGlobals "is_row" = some (some (.ref f_is_row))) (l_is_row : K.lookup f_is_row = some ⟨oc_is_row, od_is_row, .func (PySem.W.fnOf "is_row" "is_row" (defArgs s_is_row) (defBody s_is_row) (defScope s_is_row) .none kV_is_row dc_is_row pm_is_row an_is_row cd_is_row ct_is_row), sl_is_row⟩) (c_is_row : PySem.W.codeIn K cd_is_row "is_row" = true) (k_is_row : PySem.W.keepIn K (.ref f_is_row) = true)
    (a_is_moves : PySem.W.nsIn K mainGlobals "is_moves" = some (some (.ref f_is_moves))) (l_is_moves : K.lookup f_is_moves = some ⟨oc_is_moves, od_is_moves, .func (PySem.W.fnOf "is_moves" "is_moves" (defArgs s_is_moves) (defBody s_is_moves) (defScope s_is_moves) .none kV_is_moves dc_is_moves pm_is_moves an_is_moves cd_is_moves ct_is_moves), sl_is_moves⟩) (c_is_moves : PySem.W.codeIn K cd_is_moves "is_moves" = true) (k_is_moves : PySem.W.keepIn K (.ref f_is_moves) = true)
    (a_row_behind : PySem.W.nsIn K mainGlobals "row_behind" = some (some (.ref f_row_behind))) (l_row_behind : K.lookup f_row_behind = some ⟨oc_row_behind, od_row_behind, .func (PySem.W.fnOf "row_behind" "row_behind" (defArgs s_row_behind) (defBody s_row_behind) (defScope s_row_behind) .none kV_row_behind dc_row_behind pm_row_behind an_row_behind cd_row_behind ct_row_behind), sl_row_behind⟩) (c_row_behind : PySem.W.codeIn K cd_row_behind "row_behind" = true) (k_row_behind : PySem.W.keepIn K (.ref f_row_behind) = true)
    (a_weights : PySem.W.nsIn K mainGlobals "_law_weights" = some (some (.ref f_weights))) (l_weights : K.lookup f_weights = some ⟨oc_weights, od_weights, .func (PySem.W.fnOf "_law_weights" "_law_weights" (defArgs s_weights) (defBody s_weights) (defScope s_weights) .none kV_weights dc_weights pm_weights an_weights cd_weights ct_weights), sl_weights⟩) (c_weights : PySem.W.codeIn K cd_weights "_law_weights" = true) (k_weights : PySem.W.keepIn K (.ref f_weights) = true)
    (a_share : PySem.W.nsIn K mainGlobals "_law_share" = some (some (.ref f_share))) (l_share : K.lookup f_share = some ⟨oc_share, od_share, .func (PySem.W.fnOf "_law_share" "_law_share" (defArgs s_share) (defBody s_share) (defScope s_share) .none kV_share dc_share pm_share an_share cd_share ct_share), sl_share⟩) (c_share : PySem.W.codeIn K cd_share "_law_share" = true) (k_share : PySem.W.keepIn K (.ref f_share) = true)
    (a_led : PySem.W.nsIn K mainGlobals "_law_led" = some (some (.ref f_led))) (l_led : K.lookup f_led = some ⟨oc_led, od_led, .func (PySem.W.fnOf "_law_led" "_law_led" (defArgs s_led) (defBody s_led) (defScope s_led) .none kV_led dc_led pm_led an_led cd_led ct_led), sl_led⟩) (c_led : PySem.W.codeIn K cd_led "_law_led" = true) (k_led : PySem.W.keepIn K (.ref f_led) = true)
    (a_check_row : PySem.W.nsIn K mainGlobals "check_row" = some (some (.ref f_check_row))) (l_check_row : K.lookup f_check_row = some ⟨oc_check_row, od_check_row, .func (PySem.W.fnOf "check_row" "check_row" (defArgs s_check_row) (defBody s_check_row) (defScope s_check_row) .none kV_check_row dc_check_row pm_check_row an_check_row cd_check_row ct_check_row), sl_check_row⟩) (c_check_row : PySem.W.codeIn K cd_check_row "check_row" = true) (k_check_row : PySem.W.keepIn K (.ref f_check_row) = true)
    (a_check_moves : PySem.W.nsIn K mainGlobals "check_moves" = some (some (.ref f_check_moves))) (l_check_moves : K.lookup f_check_moves = some ⟨oc_check_moves, od_check_moves, .func (PySem.W.fnOf "check_moves" "check_moves" (defArgs s_check_moves) (defBody s_check_moves) (defScope s_check_moves) .none kV_check_moves dc_check_moves pm_check_moves an_check_moves cd_check_moves ct_check_moves), sl_check_moves⟩) (c_check_moves : PySem.W.codeIn K cd_check_moves "check_moves" = true) (k_check_moves : PySem.W.keepIn K (.ref f_check_moves) = true)
    (a_deeds : PySem.W.nsIn K mainGlobals "_law_deeds" = some (some (.ref f_deeds))) (l_deeds : K.lookup f_deeds = some ⟨oc_deeds, od_deeds, .func (PySem.W.fnOf "_law_deeds" "_law_deeds" (defArgs s_deeds) (defBody s_deeds) (defScope s_deeds) .none kV_deeds dc_deeds pm_deeds an_deeds cd_deeds ct_deeds), sl_deeds⟩) (c_deeds : PySem.W.codeIn K cd_deeds "_law_deeds" = true) (k_deeds : PySem.W.keepIn K (.ref f_deeds) = true)
    (a_share_of : PySem.W.nsIn K mainGlobals "share_of" = some (some (.ref f_share_of))) (l_share_of : K.lookup f_share_of = some ⟨oc_share_of, od_share_of, .func (PySem.W.fnOf "share_of" "share_of" (defArgs s_share_of) (defBody s_share_of) (defScope s_share_of) .none kV_share_of dc_share_of pm_share_of an_share_of cd_share_of ct_share_of), sl_share_of⟩) (c_share_of : PySem.W.codeIn K cd_share_of "share_of" = true) (k_share_of : PySem.W.keepIn K (.ref f_share_of) = true)
    (a_row_after : PySem.W.nsIn K mainGlobals "row_after" = some (some (.ref f_row_after))) (l_row_after : K.lookup f_row_after = some ⟨oc_row_after, od_row_after, .func (PySem.W.fnOf "row_after" "row_after" (defArgs s_row_after) (defBody s_row_after) (defScope s_row_after) .none kV_row_after dc_row_after pm_row_after an_row_after cd_row_after ct_row_after), sl_row_after⟩) (c_row_after : PySem.W.codeIn K cd_row_after "row_after" = true) (k_row_after : PySem.W.keepIn K (.ref f_row_after) = true)
    (a_right37 : PySem.W.nsIn K mainGlobals "_law_right" = some (some (.ref f_right37))) (l_right37 : K.lookup f_right37 = some ⟨oc_right37, od_right37, .func (PySem.W.fnOf "_law_right" "_law_right" (defArgs s_right37) (defBody s_right37) (defScope s_right37) .none kV_right37 dc_right37 pm_right37 an_right37 cd_right37 ct_right37), sl_right37⟩) (c_right37 : PySem.W.codeIn K cd_right37 "_law_right" = true) (k_right37 : PySem.W.keepIn K (.ref f_right37) = true)
    (a_law37 : PySem.W.nsIn K mainGlobals "law" = some (some (.ref f_law37))) (l_law37 : K.lookup f_law37 = some ⟨oc_law37, od_law37, .func (PySem.W.fnOf "law" "law" (defArgs s_law37) (defBody s_law37) (defScope s_law37) .none kV_law37 dc_law37 pm_law37 an_law37 cd_law37 ct_law37), sl_law37⟩) (c_law37 : PySem.W.codeIn K cd_law37 "law" = true) (k_law37 : PySem.W.keepIn K (.ref f_law37) = true)
    (z_all : PySem.W.nsIn K mainGlobals "all" = some none)
    (z_bool : PySem.W.nsIn K mainGlobals "bool" = some none)
    (z_int : PySem.W.nsIn K mainGlobals "int" = some none)
    (z_isinstance : PySem.W.nsIn K mainGlobals "isinstance" = some none)
    (z_len : PySem.W.nsIn K mainGlobals "len" = some none)
    (z_list : PySem.W.nsIn K mainGlobals "list" = some none)
    (z_max : PySem.W.nsIn K mainGlobals "max" = some none)
    (z_min : PySem.W.nsIn K mainGlobals "min" = some none)
    (z_range : PySem.W.nsIn K mainGlobals "range" = some none)
    (z_sum : PySem.W.nsIn K mainGlobals "sum" = some none)
    (z_tuple : PySem.W.nsIn K mainGlobals "tuple" = some none)
    (z_type : PySem.W.nsIn K mainGlobals "type" = some none)
    (z_zip : PySem.W.nsIn K mainGlobals "zip" = some none)
    (n_FEWEST_SLIDERS : PySem.W.nsIn K mainGlobals "FEWEST_SLIDERS" = some (some (.int 2 v_FEWEST_SLIDERS)))
    (n_MOST_MOVES : PySem.W.nsIn K mainGlobals "MOST_MOVES" = some (some (.int 40 v_MOST_MOVES)))
    (n_MOST_SLIDERS : PySem.W.nsIn K mainGlobals "MOST_SLIDERS" = some (some (.int 8 v_MOST_SLIDERS)))
    (m_gcd : PySem.W.nsIn K mainGlobals "gcd" = some (some (.builtin "math.gcd"))) :
    ∃ fd : FuncData, (∀ (s : Shared) (v : Value), BindsTo s fd ⟨[v], []⟩ [("script", v)]) ∧ ∀ base : Heap, K.In base → base.Ns mainGlobals mg → FnOk l.prog w K mg base CX0 7 fa fd ["script"] (sp_law37 K) := by
  have e := hfa.symm.trans (PySem.W.mg_of X G a_law37)
  cases e
  have F_is_whole := fun_mk (st := s_is_whole) l_is_whole c_is_whole k_is_whole
  have b_is_whole := F_is_whole.binds (ps := ["value"]) fun _ _ _ _ _ _ us hl => match us, hl with | [_], _ => rfl
  have F_has_slider_length := fun_mk (st := s_has_slider_length) l_has_slider_length c_has_slider_length k_has_slider_length
  have b_has_slider_length := F_has_slider_length.binds (ps := ["value"]) fun _ _ _ _ _ _ us hl => match us, hl with | [_], _ => rfl
  have F_common_divisor := fun_mk (st := s_common_divisor) l_common_divisor c_common_divisor k_common_divisor
  have b_common_divisor := F_common_divisor.binds (ps := ["numbers"]) fun _ _ _ _ _ _ us hl => match us, hl with | [_], _ => rfl
  have F_lowest_terms := fun_mk (st := s_lowest_terms) l_lowest_terms c_lowest_terms k_lowest_terms
  have b_lowest_terms := F_lowest_terms.binds (ps := ["top", "bottom"]) fun _ _ _ _ _ _ us hl => match us, hl with | [_, _], _ => rfl
  have F_are_there := fun_mk (st := s_are_there) l_are_there c_are_there k_are_there
  have b_are_there := F_are_there.binds (ps := ["moves", "sliders"]) fun _ _ _ _ _ _ us hl => match us, hl with | [_, _], _ => rfl
  have F_weights_after := fun_mk (st := s_weights_after) l_weights_after c_weights_after k_weights_after
  have b_weights_after := F_weights_after.binds (ps := ["weights", "move"]) fun _ _ _ _ _ _ us hl => match us, hl with | [_, _], _ => rfl
  have F_openSource := fun_mk (st := s_openSource) l_openSource c_openSource k_openSource
  have b_openSource := F_openSource.binds (ps := ["script", "k"]) fun _ _ _ _ _ _ us hl => match us, hl with | [_, _], _ => rfl
  have F_draw := fun_mk (st := s_draw) l_draw c_draw k_draw
  have b_draw := F_draw.binds (ps := ["source", "limit"]) fun _ _ _ _ _ _ us hl => match us, hl with | [_, _], _ => rfl
  have F_divisor := fun_mk (st := s_divisor) l_divisor c_divisor k_divisor
  have b_divisor := F_divisor.binds (ps := ["one", "other"]) fun _ _ _ _ _ _ us hl => match us, hl with | [_, _], _ => rfl
  have F_are_weights := fun_mk (st := s_are_weights) l_are_weights c_are_weights k_are_weights
  have b_are_weights := F_are_weights.binds (ps := ["value"]) fun _ _ _ _ _ _ us hl => match us, hl with | [_], _ => rfl
  have F_check_slider := fun_mk (st := s_check_slider) l_check_slider c_check_slider k_check_slider
  have b_check_slider := F_check_slider.binds (ps := ["row", "slider"]) fun _ _ _ _ _ _ us hl => match us, hl with | [_, _], _ => rfl
  have F_reduced := fun_mk (st := s_reduced) l_reduced c_reduced k_reduced
  have b_reduced := F_reduced.binds (ps := ["numbers"]) fun _ _ _ _ _ _ us hl => match us, hl with | [_], _ => rfl
  have F_is_move := fun_mk (st := s_is_move) l_is_move c_is_move k_is_move
  have b_is_move := F_is_move.binds (ps := ["value"]) fun _ _ _ _ _ _ us hl => match us, hl with | [_], _ => rfl
  have F_plain := fun_mk (st := s_plain) l_plain c_plain k_plain
  have b_plain := F_plain.binds (ps := ["numbers"]) fun _ _ _ _ _ _ us hl => match us, hl with | [_], _ => rfl
  have F_width := fun_mk (st := s_width) l_width c_width k_width
  have b_width := F_width.binds (ps := ["source", "script"]) fun _ _ _ _ _ _ us hl => match us, hl with | [_, _], _ => rfl
  have F_any := fun_mk (st := s_any) l_any c_any k_any
  have b_any := F_any.binds (ps := ["source", "wide"]) fun _ _ _ _ _ _ us hl => match us, hl with | [_, _], _ => rfl
  have F_is_row := fun_mk (st := s_is_row) l_is_row c_is_row k_is_row
  have b_is_row := F_is_row.binds (ps := ["value"]) fun _ _ _ _ _ _ us hl => match us, hl with | [_], _ => rfl
  have F_is_moves := fun_mk (st := s_is_moves) l_is_moves c_is_moves k_is_moves
  have b_is_moves := F_is_moves.binds (ps := ["value"]) fun _ _ _ _ _ _ us hl => match us, hl with | [_], _ => rfl
  have F_row_behind := fun_mk (st := s_row_behind) l_row_behind c_row_behind k_row_behind
  have b_row_behind := F_row_behind.binds (ps := ["row", "moves"]) fun _ _ _ _ _ _ us hl => match us, hl with | [_, _], _ => rfl
  have F_weights := fun_mk (st := s_weights) l_weights c_weights k_weights
  have b_weights := F_weights.binds (ps := ["source", "width", "wide"]) fun _ _ _ _ _ _ us hl => match us, hl with | [_, _, _], _ => rfl
  have F_share := fun_mk (st := s_share) l_share c_share k_share
  have b_share := F_share.binds (ps := ["source", "wide"]) fun _ _ _ _ _ _ us hl => match us, hl with | [_, _], _ => rfl
  have F_led := fun_mk (st := s_led) l_led c_led k_led
  have b_led := F_led.binds (ps := ["weights_here", "deeds"]) fun _ _ _ _ _ _ us hl => match us, hl with | [_, _], _ => rfl
  have F_check_row := fun_mk (st := s_check_row) l_check_row c_check_row k_check_row
  have b_check_row := F_check_row.binds (ps := ["row"]) fun _ _ _ _ _ _ us hl => match us, hl with | [_], _ => rfl
  have F_check_moves := fun_mk (st := s_check_moves) l_check_moves c_check_moves k_check_moves
  have b_check_moves := F_check_moves.binds (ps := ["moves", "sliders"]) fun _ _ _ _ _ _ us hl => match us, hl with | [_, _], _ => rfl
  have F_deeds := fun_mk (st := s_deeds) l_deeds c_deeds k_deeds
  have b_deeds := F_deeds.binds (ps := ["source", "width", "many", "wide"]) fun _ _ _ _ _ _ us hl => match us, hl with | [_, _, _, _], _ => rfl
  have F_share_of := fun_mk (st := s_share_of) l_share_of c_share_of k_share_of
  have b_share_of := F_share_of.binds (ps := ["row", "slider"]) fun _ _ _ _ _ _ us hl => match us, hl with | [_, _], _ => rfl
  have F_row_after := fun_mk (st := s_row_after) l_row_after c_row_after k_row_after
  have b_row_after := F_row_after.binds (ps := ["row", "moves"]) fun _ _ _ _ _ _ us hl => match us, hl with | [_, _], _ => rfl
  have F_right37 := fun_mk (st := s_right37) l_right37 c_right37 k_right37
  have b_right37 := F_right37.binds (ps := ["source", "weights_here", "deeds"]) fun _ _ _ _ _ _ us hl => match us, hl with | [_, _, _], _ => rfl
  have F_law37 := fun_mk (st := s_law37) l_law37 c_law37 k_law37
  have b_law37 := F_law37.binds (ps := ["script"]) fun _ _ _ _ _ _ us hl => match us, hl with | [_], _ => rfl
  let T : Tx K mg := { f_is_whole := _, d_is_whole := _, F_is_whole := F_is_whole, g_is_whole := PySem.W.mg_of X G a_is_whole, b_is_whole := b_is_whole, f_has_slider_length := _, d_has_slider_length := _, F_has_slider_length := F_has_slider_length, g_has_slider_length := PySem.W.mg_of X G a_has_slider_length, b_has_slider_length := b_has_slider_length, f_common_divisor := _, d_common_divisor := _, F_common_divisor := F_common_divisor, g_common_divisor := PySem.W.mg_of X G a_common_divisor, b_common_divisor := b_common_divisor, f_lowest_terms := _, d_lowest_terms := _, F_lowest_terms := F_lowest_terms, g_lowest_terms := PySem.W.mg_of X G a_lowest_terms, b_lowest_terms := b_lowest_terms, f_are_there := _, d_are_there := _, F_are_there := F_are_there, g_are_there := PySem.W.mg_of X G a_are_there, b_are_there := b_are_there, f_weights_after := _, d_weights_after := _, F_weights_after := F_weights_after, g_weights_after := PySem.W.mg_of X G a_weights_after, b_weights_after := b_weights_after, f_openSource := _, d_openSource := _, F_openSource := F_openSource, g_openSource := PySem.W.mg_of X G a_openSource, b_openSource := b_openSource, f_draw := _, d_draw := _, F_draw := F_draw, g_draw := PySem.W.mg_of X G a_draw, b_draw := b_draw, f_divisor := _, d_divisor := _, F_divisor := F_divisor, g_divisor := PySem.W.mg_of X G a_divisor, b_divisor := b_divisor, f_are_weights := _, d_are_weights := _, F_are_weights := F_are_weights, g_are_weights := PySem.W.mg_of X G a_are_weights, b_are_weights := b_are_weights, f_check_slider := _, d_check_slider := _, F_check_slider := F_check_slider, g_check_slider := PySem.W.mg_of X G a_check_slider, b_check_slider := b_check_slider, f_reduced := _, d_reduced := _, F_reduced := F_reduced, g_reduced := PySem.W.mg_of X G a_reduced, b_reduced := b_reduced, f_is_move := _, d_is_move := _, F_is_move := F_is_move, g_is_move := PySem.W.mg_of X G a_is_move, b_is_move := b_is_move, f_plain := _, d_plain := _, F_plain := F_plain, g_plain := PySem.W.mg_of X G a_plain, b_plain := b_plain, f_width := _, d_width := _, F_width := F_width, g_width := PySem.W.mg_of X G a_width, b_width := b_width, f_any := _, d_any := _, F_any := F_any, g_any := PySem.W.mg_of X G a_any, b_any := b_any, f_is_row := _, d_is_row := _, F_is_row := F_is_row, g_is_row := PySem.W.mg_of X G a_is_row, b_is_row := b_is_row, f_is_moves := _, d_is_moves := _, F_is_moves := F_is_moves, g_is_moves := PySem.W.mg_of X G a_is_moves, b_is_moves := b_is_moves, f_row_behind := _, d_row_behind := _, F_row_behind := F_row_behind, g_row_behind := PySem.W.mg_of X G a_row_behind, b_row_behind := b_row_behind, f_weights := _, d_weights := _, F_weights := F_weights, g_weights := PySem.W.mg_of X G a_weights, b_weights := b_weights, f_share := _, d_share := _, F_share := F_share, g_share := PySem.W.mg_of X G a_share, b_share := b_share, f_led := _, d_led := _, F_led := F_led, g_led := PySem.W.mg_of X G a_led, b_led := b_led, f_check_row := _, d_check_row := _, F_check_row := F_check_row, g_check_row := PySem.W.mg_of X G a_check_row, b_check_row := b_check_row, f_check_moves := _, d_check_moves := _, F_check_moves := F_check_moves, g_check_moves := PySem.W.mg_of X G a_check_moves, b_check_moves := b_check_moves, f_deeds := _, d_deeds := _, F_deeds := F_deeds, g_deeds := PySem.W.mg_of X G a_deeds, b_deeds := b_deeds, f_share_of := _, d_share_of := _, F_share_of := F_share_of, g_share_of := PySem.W.mg_of X G a_share_of, b_share_of := b_share_of, f_row_after := _, d_row_after := _, F_row_after := F_row_after, g_row_after := PySem.W.mg_of X G a_row_after, b_row_after := b_row_after, f_right37 := _, d_right37 := _, F_right37 := F_right37, g_right37 := PySem.W.mg_of X G a_right37, b_right37 := b_right37, f_law37 := _, d_law37 := _, F_law37 := F_law37, g_law37 := PySem.W.mg_of X G a_law37, b_law37 := b_law37, z_all := PySem.W.mg_none_of X G z_all, z_bool := PySem.W.mg_none_of X G z_bool, z_int := PySem.W.mg_none_of X G z_int, z_isinstance := PySem.W.mg_none_of X G z_isinstance, z_len := PySem.W.mg_none_of X G z_len, z_list := PySem.W.mg_none_of X G z_list, z_max := PySem.W.mg_none_of X G z_max, z_min := PySem.W.mg_none_of X G z_min, z_range := PySem.W.mg_none_of X G z_range, z_sum := PySem.W.mg_none_of X G z_sum, z_tuple := PySem.W.mg_none_of X G z_tuple, z_type := PySem.W.mg_none_of X G z_type, z_zip := PySem.W.mg_none_of X G z_zip, v_FEWEST_SLIDERS := _, c_FEWEST_SLIDERS := PySem.W.mg_of X G n_FEWEST_SLIDERS, v_MOST_MOVES := _, c_MOST_MOVES := PySem.W.mg_of X G n_MOST_MOVES, v_MOST_SLIDERS := _, c_MOST_SLIDERS := PySem.W.mg_of X G n_MOST_SLIDERS, m_gcd := PySem.W.mg_of X G m_gcd }
  exact ⟨PySem.W.fnOf "law" "law" (defArgs s_law37) (defBody s_law37) (defScope s_law37) .none kV_law37 dc_law37 pm_law37 an_law37 cd_law37 ct_law37, fun s v => .of_eq rfl, fun base _ _ => ok_law37 T⟩
end SL
open PySem PySem.W PyProof.Rows
set_option maxHeartbeats 0 in
theorem PySem.Challenge.cw_sliders_k37_moves_one_after_the_other_holds : PySem.Challenge.rw_sliders_k37_moves_one_after_the_other.Holds := by
  w_on; o_law; k_head; (case hw => w_witness2)
  k_fill
  refine L2.walk_of (l := PySem.Challenge.rw_sliders_k37_moves_one_after_the_other) (n := 63) (k := 7) (x := "script") (CX := fun _ => L2.CX0) (sp := fun w => SL.sp_law37 _) rfl (by decide) rfl ⟨rfl, by decide, by decide⟩ (fun w h Y => PySem.W.kIn_of Y) ?F (fun _ _ a ns hl _ hS => ⟨a, ns, rfl, hS, hl, fun _ => rfl⟩) (fun _ _ _ _ _ h => h)
  case F =>
    intro w mg fa h KX G hmg
    refine' SL.all_mk KX G hmg ?a_is_whole ?l_is_whole ?c_is_whole ?k_is_whole ?a_has_slider_length ?l_has_slider_length ?c_has_slider_length ?k_has_slider_length ?a_common_divisor ?l_common_divisor ?c_common_divisor ?k_common_divisor ?a_lowest_terms ?l_lowest_terms ?c_lowest_terms ?k_lowest_terms ?a_are_there ?l_are_there ?c_are_there ?k_are_there ?a_weights_after ?l_weights_after ?c_weights_after ?k_weights_after ?a_openSource ?l_openSource ?c_openSource ?k_openSource ?a_draw ?l_draw ?c_draw ?k_draw ?a_divisor ?l_divisor ?c_divisor ?k_divisor ?a_are_weights ?l_are_weights ?c_are_weights ?k_are_weights ?a_check_slider ?l_check_slider ?c_check_slider ?k_check_slider ?a_reduced ?l_reduced ?c_reduced ?k_reduced ?a_is_move ?l_is_move ?c_is_move ?k_is_move ?a_plain ?l_plain ?c_plain ?k_plain ?a_width ?l_width ?c_width ?k_width ?a_any ?l_any ?c_any ?k_any ?a_is_row ?l_is_row ?c_is_row ?k_is_row ?a_is_moves ?l_is_moves ?c_is_moves ?k_is_moves ?a_row_behind ?l_row_behind ?c_row_behind ?k_row_behind ?a_weights ?l_weights ?c_weights ?k_weights ?a_share ?l_share ?c_share ?k_share ?a_led ?l_led ?c_led ?k_led ?a_check_row ?l_check_row ?c_check_row ?k_check_row ?a_check_moves ?l_check_moves ?c_check_moves ?k_check_moves ?a_deeds ?l_deeds ?c_deeds ?k_deeds ?a_share_of ?l_share_of ?c_share_of ?k_share_of ?a_row_after ?l_row_after ?c_row_after ?k_row_after ?a_right37 ?l_right37 ?c_right37 ?k_right37 ?a_law37 ?l_law37 ?c_law37 ?k_law37 ?z_all ?z_bool ?z_int ?z_isinstance ?z_len ?z_list ?z_max ?z_min ?z_range ?z_sum ?z_tuple ?z_type ?z_zip ?n_FEWEST_SLIDERS ?n_MOST_MOVES ?n_MOST_SLIDERS ?m_gcd
    (case a_is_whole => k_is); (case l_is_whole => k_is); (case c_is_whole => k_is); (case k_is_whole => k_is); (case a_has_slider_length => k_is); (case l_has_slider_length => k_is); (case c_has_slider_length => k_is); (case k_has_slider_length => k_is); (case a_common_divisor => k_is); (case l_common_divisor => k_is); (case c_common_divisor => k_is); (case k_common_divisor => k_is); (case a_lowest_terms => k_is); (case l_lowest_terms => k_is); (case c_lowest_terms => k_is); (case k_lowest_terms => k_is); (case a_are_there => k_is); (case l_are_there => k_is); (case c_are_there => k_is); (case k_are_there => k_is); (case a_weights_after => k_is); (case l_weights_after => k_is); (case c_weights_after => k_is); (case k_weights_after => k_is); (case a_openSource => k_is); (case l_openSource => k_is); (case c_openSource => k_is); (case k_openSource => k_is); (case a_draw => k_is); (case l_draw => k_is); (case c_draw => k_is); (case k_draw => k_is); (case a_divisor => k_is); (case l_divisor => k_is); (case c_divisor => k_is); (case k_divisor => k_is); (case a_are_weights => k_is); (case l_are_weights => k_is); (case c_are_weights => k_is); (case k_are_weights => k_is); (case a_check_slider => k_is); (case l_check_slider => k_is); (case c_check_slider => k_is); (case k_check_slider => k_is); (case a_reduced => k_is); (case l_reduced => k_is); (case c_reduced => k_is); (case k_reduced => k_is); (case a_is_move => k_is); (case l_is_move => k_is); (case c_is_move => k_is); (case k_is_move => k_is); (case a_plain => k_is); (case l_plain => k_is); (case c_plain => k_is); (case k_plain => k_is); (case a_width => k_is); (case l_width => k_is); (case c_width => k_is); (case k_width => k_is); (case a_any => k_is); (case l_any => k_is); (case c_any => k_is); (case k_any => k_is); (case a_is_row => k_is); (case l_is_row => k_is); (case c_is_row => k_is); (case k_is_row => k_is); (case a_is_moves => k_is); (case l_is_moves => k_is); (case c_is_moves => k_is); (case k_is_moves => k_is); (case a_row_behind => k_is); (case l_row_behind => k_is); (case c_row_behind => k_is); (case k_row_behind => k_is); (case a_weights => k_is); (case l_weights => k_is); (case c_weights => k_is); (case k_weights => k_is); (case a_share => k_is); (case l_share => k_is); (case c_share => k_is); (case k_share => k_is); (case a_led => k_is); (case l_led => k_is); (case c_led => k_is); (case k_led => k_is); (case a_check_row => k_is); (case l_check_row => k_is); (case c_check_row => k_is); (case k_check_row => k_is); (case a_check_moves => k_is); (case l_check_moves => k_is); (case c_check_moves => k_is); (case k_check_moves => k_is); (case a_deeds => k_is); (case l_deeds => k_is); (case c_deeds => k_is); (case k_deeds => k_is); (case a_share_of => k_is); (case l_share_of => k_is); (case c_share_of => k_is); (case k_share_of => k_is); (case a_row_after => k_is); (case l_row_after => k_is); (case c_row_after => k_is); (case k_row_after => k_is); (case a_right37 => k_is); (case l_right37 => k_is); (case c_right37 => k_is); (case k_right37 => k_is); (case a_law37 => k_is); (case l_law37 => k_is); (case c_law37 => k_is); (case k_law37 => k_is); (case z_all => k_is); (case z_bool => k_is); (case z_int => k_is); (case z_isinstance => k_is); (case z_len => k_is); (case z_list => k_is); (case z_max => k_is); (case z_min => k_is); (case z_range => k_is); (case z_sum => k_is); (case z_tuple => k_is); (case z_type => k_is); (case z_zip => k_is); (case n_FEWEST_SLIDERS => k_is); (case n_MOST_MOVES => k_is); (case n_MOST_SLIDERS => k_is); (case m_gcd => k_is)
