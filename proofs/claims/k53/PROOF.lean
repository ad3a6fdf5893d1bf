import PyProof.Rows.All
import Wide.All
import OpenK.AllK
import Wide.FinOn
import PyProof.RowDictHeap
import PyProof.ReprRoads
import HandS.ForMost
import HandS.ForExc
import HandS.ExcInit
import HandS.ExcField
import HandS.IsInst
import HandS.Wide
import HandS.Defaults
import HandS.Conv
import KE.GoesMore
import KE.GoesZip
import HandS.Zip0
import HandS.Walk
import KE.GoesEnum
import HandS.OwnEq
import HandS.Property
import PyProof.P3Eq
import PyProof.StrLawsRepr
import HandS.TryOnly
import PyProof.NeKinds
import HandS.TupMul
import HandS.TupAny
import HandS.Codes
import HandS.Text
import HandS.Evl
import HandS.Style
import PyProof.StrBlock2
import HandS.List
import HandS.DictTup
import HandS.Iter
import HandS.DictComp
import HandS.Replace
import HandS.ReplaceList
import KE.KDictPairs
import KE.KDictKeyed
import PySem.Challenge.RW_maprows_k53_maps_refused
import KE.KDictCopyH
import KE.KDictOf
import HandS.DeepEq
import HandS.GenList
import KE.KDictDisplayH
set_option Elab.async false
set_option linter.all false
set_option exponentiation.threshold 3000
/-! TkWB: how many rows are alike: products of powers less powers; one divides the other. -/
namespace Rw
/-- the sum of what stands above -/
def tri : Nat → Nat
  | 0 => 0
  | n + 1 => tri n + n
theorem tri_add (a : Nat) : ∀ b, tri (a + b) = tri a + tri b + a * b
  | 0 => by simp [tri]
  | b + 1 => by
    show tri (a + b) + (a + b) = tri a + (tri b + b) + a * (b + 1)
    rw [tri_add a b, Nat.mul_add]
    omega
def prodN (l : List Nat) : Nat := l.foldr (· * ·) 1
theorem prodN_cons (a : Nat) (l : List Nat) : prodN (a :: l) = a * prodN l := rfl
theorem prodN_append : ∀ (l m : List Nat), prodN (l ++ m) = prodN l * prodN m
  | [], m => by simp [prodN]
  | a :: l, m => by rw [List.cons_append, prodN_cons, prodN_cons, prodN_append l m, Nat.mul_assoc]
theorem prodN_perm {l m : List Nat} (h : l.Perm m) : prodN l = prodN m := by
  induction h with
  | nil => rfl
  | cons a _ ih => rw [prodN_cons, prodN_cons, ih]
  | swap a b l => simp only [prodN_cons]; rw [← Nat.mul_assoc, ← Nat.mul_assoc, Nat.mul_comm b a]
  | trans _ _ i1 i2 => exact i1.trans i2
theorem sum_perm {l m : List Nat} (h : l.Perm m) : l.sum = m.sum := by
  induction h with
  | nil => rfl
  | cons a _ ih => simp only [List.sum_cons, ih]
  | swap a b l => simp only [List.sum_cons]; omega
  | trans _ _ i1 i2 => exact i1.trans i2
theorem prodN_pos : ∀ {l : List Nat}, (∀ a ∈ l, 0 < a) → 0 < prodN l
  | [], _ => Nat.one_pos
  | a :: l, h => Nat.mul_pos (h a List.mem_cons_self) (prodN_pos fun b hb => h b (List.mem_cons_of_mem _ hb))
theorem prodN_dvd {α : Type} {f g : α → Nat} : ∀ {l : List α}, (∀ a ∈ l, f a ∣ g a) → prodN (l.map f) ∣ prodN (l.map g)
  | [], _ => Nat.dvd_refl _
  | a :: l, h => Nat.mul_dvd_mul (h a List.mem_cons_self) (prodN_dvd fun b hb => h b (List.mem_cons_of_mem _ hb))
theorem prodN_mul {α : Type} (f g : α → Nat) : ∀ l : List α, prodN (l.map fun a => f a * g a) = prodN (l.map f) * prodN (l.map g)
  | [] => rfl
  | a :: l => by
    show f a * g a * prodN _ = f a * prodN _ * (g a * prodN _)
    rw [prodN_mul f g l, Nat.mul_mul_mul_comm]
theorem prodN_pow {α : Type} (p : Nat) (f : α → Nat) : ∀ l : List α, prodN (l.map fun a => p ^ f a) = p ^ (l.map f).sum
  | [] => rfl
  | a :: l => by
    rw [List.map_cons, List.map_cons, List.sum_cons, prodN_cons, prodN_pow p f l, Nat.pow_add]
theorem prodN_take {l : List Nat} (h : ∀ a ∈ l, 0 < a) (i : Nat) : prodN (l.take i) ≤ prodN l := by
  have e : prodN l = prodN (l.take i) * prodN (l.drop i) := by rw [← prodN_append, List.take_append_drop]
  rw [e]
  exact Nat.le_mul_of_pos_right _ (prodN_pos fun a ha => h a (List.mem_of_mem_drop ha))
/-- lists of vectors of which none is a sum of multiples of the others -/
def indep (p m l : Nat) : Nat := prodN ((List.range m).map fun a => p ^ l - p ^ a)
def gl (p n : Nat) : Nat := indep p n n
theorem indep_succ (p m l : Nat) : indep p (m + 1) l = indep p m l * (p ^ l - p ^ m) := by
  unfold indep
  rw [List.range_succ, List.map_append, prodN_append]
  show _ * ((p ^ l - p ^ m) * 1) = _
  rw [Nat.mul_one]
theorem pow_lt {p a l : Nat} (hp : 2 ≤ p) (h : a < l) : p ^ a < p ^ l := Nat.pow_lt_pow_right (by omega) h
theorem indep_pos {p m l : Nat} (hp : 2 ≤ p) (h : m ≤ l) : 0 < indep p m l := by
  refine prodN_pos fun x hx => ?_
  obtain ⟨a, ha, rfl⟩ := List.mem_map.mp hx
  have := pow_lt hp (show a < l by have := List.mem_range.mp ha; omega)
  omega
theorem indep_lt {p l : Nat} (hp : p < 16) (l0 : 0 < l) : ∀ {m : Nat}, indep p m l < 2 ^ (4 * l * m + 1)
  | 0 => by show 1 < 2 ^ (0 + 1); decide
  | m + 1 => by
    rw [indep_succ]
    have h1 := indep_lt hp l0 (m := m)
    have h2 : p ^ l - p ^ m < 2 ^ (4 * l) := by
      have : p ^ l < 16 ^ l := Nat.pow_lt_pow_left hp (by omega)
      rw [Nat.pow_mul]
      show _ < 16 ^ l
      omega
    have e : 4 * l * (m + 1) + 1 = (4 * l * m + 1) + 4 * l := by rw [Nat.mul_add, Nat.mul_one]; omega
    rw [e, Nat.pow_add]
    exact Nat.mul_lt_mul'' h1 h2
theorem indep_lt2 {p l m : Nat} (hp : p < 16) (h : m ≤ l) (h6 : l ≤ 6) : indep p m l < 2 ^ 145 := by
  by_cases z : l = 0
  · have : m = 0 := by omega
    subst this
    show 1 < 2 ^ 145
    decide
  · have h2 : m ≤ 6 := by omega
    refine Nat.lt_of_lt_of_le (indep_lt hp (by omega)) (Nat.pow_le_pow_right (by decide) ?_)
    have : 4 * l * m ≤ 24 * 6 := Nat.mul_le_mul (by omega) h2
    omega
/-- p - 1, p² - 1, .. -/
def fac (p : Nat) : Nat → Nat
  | 0 => 1
  | n + 1 => fac p n * (p ^ (n + 1) - 1)
theorem fac_pos {p : Nat} (hp : 2 ≤ p) : ∀ n, 0 < fac p n
  | 0 => Nat.one_pos
  | n + 1 => by
    refine Nat.mul_pos (fac_pos hp n) ?_
    have := pow_lt hp (show 0 < n + 1 by omega)
    rw [Nat.pow_zero] at this
    omega
/-- the same from above -/
def facD (p l : Nat) : Nat → Nat
  | 0 => 1
  | m + 1 => facD p l m * (p ^ (l - m) - 1)
theorem facD_front (p l : Nat) : ∀ m, m ≤ l → facD p (l + 1) (m + 1) = (p ^ (l + 1) - 1) * facD p l m
  | 0, _ => by show 1 * (p ^ (l + 1 - 0) - 1) = (p ^ (l + 1) - 1) * 1; rw [Nat.one_mul, Nat.mul_one, Nat.sub_zero]
  | m + 1, h => by
    show facD p (l + 1) (m + 1) * (p ^ (l + 1 - (m + 1)) - 1) = _ * (facD p l m * (p ^ (l - m) - 1))
    rw [facD_front p l m (by omega), Nat.mul_assoc, show l + 1 - (m + 1) = l - m by omega]
theorem facD_all (p : Nat) : ∀ n, facD p n n = fac p n
  | 0 => rfl
  | n + 1 => by
    rw [facD_front p n n (Nat.le_refl _), facD_all p n]
    show _ = fac p n * (p ^ (n + 1) - 1)
    rw [Nat.mul_comm]
theorem indep_fac (p l : Nat) : ∀ m, m ≤ l → indep p m l = p ^ tri m * facD p l m
  | 0, _ => rfl
  | m + 1, h => by
    rw [indep_succ, indep_fac p l m (by omega)]
    show _ = p ^ (tri m + m) * (facD p l m * (p ^ (l - m) - 1))
    have e : p ^ l - p ^ m = p ^ m * (p ^ (l - m) - 1) := by
      rw [Nat.mul_sub, ← Nat.pow_add, Nat.mul_one, show m + (l - m) = l by omega]
    rw [e, Nat.pow_add, Nat.mul_mul_mul_comm]
theorem gl_fac (p n : Nat) : gl p n = p ^ tri n * fac p n := by
  unfold gl
  rw [indep_fac p n n (Nat.le_refl _), facD_all]
theorem fac_two {p : Nat} (hp : 2 ≤ p) : ∀ s a b, a + b = s → fac p a * fac p b ∣ fac p (a + b)
  | 0, a, b, h => by
    have : a = 0 := by omega
    subst this
    have : b = 0 := by omega
    subst this
    exact Nat.dvd_refl _
  | s + 1, 0, b, h => by rw [Nat.zero_add]; show 1 * _ ∣ _; rw [Nat.one_mul]; exact Nat.dvd_refl _
  | s + 1, a + 1, 0, h => by show _ * 1 ∣ _; rw [Nat.mul_one, Nat.add_zero]; exact Nat.dvd_refl _
  | s + 1, a + 1, b + 1, h => by
    obtain ⟨g1, h1⟩ := fac_two hp s a (b + 1) (by omega)
    obtain ⟨g2, h2⟩ := fac_two hp s (a + 1) b (by omega)
    have pa : 1 ≤ p ^ (a + 1) := Nat.pow_pos (by omega)
    have pb : 1 ≤ p ^ (b + 1) := Nat.pow_pos (by omega)
    have e : p ^ (a + b + 1 + 1) - 1 = (p ^ (a + 1) - 1) + p ^ (a + 1) * (p ^ (b + 1) - 1) := by
      rw [Nat.mul_sub, ← Nat.pow_add, Nat.mul_one, show a + 1 + (b + 1) = a + b + 1 + 1 by omega]
      have : p ^ (a + 1) ≤ p ^ (a + b + 1 + 1) := Nat.pow_le_pow_right (by omega) (by omega)
      omega
    have e2 : a + 1 + (b + 1) = a + b + 1 + 1 := by omega
    have e1 : fac p (a + b + 1 + 1) = fac p (a + b + 1) * (p ^ (a + b + 1 + 1) - 1) := rfl
    rw [e2, e1, e, Nat.mul_add]
    refine Nat.dvd_add ?_ ?_
    · rw [show a + b + 1 = a + (b + 1) by omega, h1]
      refine ⟨g1, ?_⟩
      show fac p a * fac p (b + 1) * g1 * (p ^ (a + 1) - 1) = fac p a * (p ^ (a + 1) - 1) * fac p (b + 1) * g1
      ac_rfl
    · rw [show a + b + 1 = a + 1 + b by omega, h2]
      refine ⟨g2 * p ^ (a + 1), ?_⟩
      show fac p (a + 1) * fac p b * g2 * (p ^ (a + 1) * (p ^ (b + 1) - 1)) = fac p (a + 1) * (fac p b * (p ^ (b + 1) - 1)) * (g2 * p ^ (a + 1))
      ac_rfl
theorem fac_mono {p : Nat} (hp : 2 ≤ p) {a b : Nat} (h : a ≤ b) : fac p a ∣ fac p b := by
  obtain ⟨c, rfl⟩ := Nat.le.dest h
  exact Nat.dvd_trans ⟨fac p c, rfl⟩ (fac_two hp _ a c rfl)
theorem fac_many {p : Nat} (hp : 2 ≤ p) : ∀ l : List Nat, prodN (l.map (fac p)) ∣ fac p l.sum
  | [] => Nat.dvd_refl _
  | a :: l => by
    rw [List.map_cons, prodN_cons, List.sum_cons]
    exact Nat.dvd_trans (Nat.mul_dvd_mul_left _ (fac_many hp l)) (fac_two hp _ a l.sum rfl)
/-! ### bars and how often they stand -/
abbrev Nums := List ((Nat × Nat) × Nat)
def covB (q : Nat × Nat) (i : Nat) : Bool := decide (q.1 ≤ i) && decide (i ≤ q.2)
/-- the size of a place -/
def szN (T : Nums) (i : Nat) : Nat := (T.map fun q => if covB q.1 i then q.2 else 0).sum
def freeN (L : Nat × Nat → Nat × Nat → Bool) (T U : Nums) : Nat := (T.map fun q => (U.map fun r => if q.1 ≠ r.1 ∧ L q.1 r.1 = true then q.2 * r.2 else 0).sum).sum
def keepN (L : Nat × Nat → Nat × Nat → Bool) (p : Nat) (T : Nums) : Nat := p ^ freeN L T T * prodN (T.map fun q => gl p q.2)
def coatsN (p n : Nat) (T : Nums) : Nat := prodN ((List.range (n + 1)).map fun i => gl p (szN T i))
structure Anti (L : Nat × Nat → Nat × Nat → Bool) (n : Nat) : Prop where
  anti : ∀ q r, q ≠ r → L q r = true → L r q = true → False
  over : ∀ q r, L q r = true → q.1 ≤ n → r.1 ≤ n → ∃ i, i ≤ n ∧ covB q i = true ∧ covB r i = true
theorem sum_le {α : Type} {f g : α → Nat} : ∀ {l : List α}, (∀ a ∈ l, f a ≤ g a) → (l.map f).sum ≤ (l.map g).sum
  | [], _ => Nat.le_refl _
  | a :: l, h => by
    rw [List.map_cons, List.map_cons, List.sum_cons, List.sum_cons]
    have := h a List.mem_cons_self
    have := sum_le fun b (hb : b ∈ l) => h b (List.mem_cons_of_mem _ hb)
    omega
theorem sum_add {α : Type} (f g : α → Nat) : ∀ l : List α, (l.map fun a => f a + g a).sum = (l.map f).sum + (l.map g).sum
  | [] => rfl
  | a :: l => by
    simp only [List.map_cons, List.sum_cons]
    rw [sum_add f g l]
    omega
theorem sum_mul {α : Type} (c : Nat) (f : α → Nat) : ∀ l : List α, (l.map fun a => c * f a).sum = c * (l.map f).sum
  | [] => rfl
  | a :: l => by
    simp only [List.map_cons, List.sum_cons]
    rw [sum_mul c f l, Nat.mul_add]
theorem sum_swap {α β : Type} (f : α → β → Nat) (m : List β) : ∀ l : List α, (l.map fun a => (m.map fun b => f a b).sum).sum = (m.map fun b => (l.map fun a => f a b).sum).sum
  | [] => by
    show 0 = (m.map fun _ => 0).sum
    induction m with
    | nil => rfl
    | cons a m ih => rw [List.map_cons, List.sum_cons, ← ih, Nat.zero_add]
  | a :: l => by
    simp only [List.map_cons, List.sum_cons]
    rw [sum_swap f m l, sum_add]
theorem sum_zero {α : Type} : ∀ l : List α, (l.map fun _ => 0).sum = 0
  | [] => rfl
  | a :: l => by rw [List.map_cons, List.sum_cons, sum_zero l]
theorem sum_one {α : Type} {f : α → Nat} {l : List α} {a : α} (h : a ∈ l) : f a ≤ (l.map f).sum := by
  induction l with
  | nil => cases h
  | cons b l ih =>
    rw [List.map_cons, List.sum_cons]
    rcases List.mem_cons.mp h with e | e
    · subst e; omega
    · have := ih e; omega
theorem freeN_cons (L : Nat × Nat → Nat × Nat → Bool) (q : (Nat × Nat) × Nat) (T : Nums) : freeN L (q :: T) (q :: T) = (T.map fun r => (if q.1 ≠ r.1 ∧ L q.1 r.1 = true then q.2 * r.2 else 0) + (if r.1 ≠ q.1 ∧ L r.1 q.1 = true then r.2 * q.2 else 0)).sum + freeN L T T := by
  have e0 : ¬ (q.1 ≠ q.1 ∧ L q.1 q.1 = true) := fun z => z.1 rfl
  unfold freeN
  simp only [List.map_cons, List.sum_cons]
  rw [if_neg e0, sum_add, sum_add]
  omega
theorem free_le {L : Nat × Nat → Nat × Nat → Bool} {n : Nat} (A : Anti L n) : ∀ {T : Nums}, (∀ q ∈ T, q.1.1 ≤ q.1.2 ∧ q.1.2 ≤ n) → freeN L T T + (T.map fun q => tri q.2).sum ≤ ((List.range (n + 1)).map fun i => tri (szN T i)).sum
  | [], _ => Nat.zero_le _
  | q :: T, h => by
    have ih := free_le A (T := T) fun r hr => h r (List.mem_cons_of_mem _ hr)
    obtain ⟨q1, q2⟩ := h q List.mem_cons_self
    rw [freeN_cons]
    -- what each place has more
    have e1 : ∀ i, tri (szN (q :: T) i) = tri (szN T i) + (if covB q.1 i then tri q.2 + q.2 * szN T i else 0) := fun i => by
      have e0 : szN (q :: T) i = (if covB q.1 i then q.2 else 0) + szN T i := by unfold szN; rw [List.map_cons, List.sum_cons]
      rw [e0]
      by_cases c : covB q.1 i = true
      · rw [if_pos c, if_pos c, tri_add]; omega
      · rw [if_neg c, if_neg c, Nat.zero_add, Nat.add_zero]
    have e2 : ((List.range (n + 1)).map fun i => tri (szN (q :: T) i)).sum = ((List.range (n + 1)).map fun i => tri (szN T i)).sum + ((List.range (n + 1)).map fun i => if covB q.1 i then tri q.2 + q.2 * szN T i else 0).sum := by
      rw [← sum_add]
      exact congrArg List.sum (List.map_congr_left fun i _ => e1 i)
    rw [e2]
    have e3 : ((List.range (n + 1)).map fun i => if covB q.1 i then tri q.2 + q.2 * szN T i else 0).sum = ((List.range (n + 1)).map fun i => if covB q.1 i then tri q.2 else 0).sum + ((List.range (n + 1)).map fun i => if covB q.1 i then q.2 * szN T i else 0).sum := by
      rw [← sum_add]
      refine congrArg List.sum (List.map_congr_left fun i _ => ?_)
      by_cases c : covB q.1 i = true
      · rw [if_pos c, if_pos c, if_pos c]
      · rw [if_neg c, if_neg c, if_neg c]
    have e4 : tri q.2 ≤ ((List.range (n + 1)).map fun i => if covB q.1 i then tri q.2 else 0).sum := by
      have := sum_one (f := fun i => if covB q.1 i then tri q.2 else 0) (List.mem_range.mpr (show q.1.1 < n + 1 by omega))
      have c : covB q.1 q.1.1 = true := by unfold covB; rw [decide_eq_true (Nat.le_refl _), decide_eq_true q1] <;> rfl
      simp only [c, if_true] at this
      exact this
    have e5 : ((List.range (n + 1)).map fun i => if covB q.1 i then q.2 * szN T i else 0).sum = (T.map fun r => ((List.range (n + 1)).map fun i => if covB q.1 i then q.2 * (if covB r.1 i then r.2 else 0) else 0).sum).sum := by
      rw [sum_swap]
      refine congrArg List.sum (List.map_congr_left fun i _ => ?_)
      by_cases c : covB q.1 i = true
      · simp only [c, if_true]
        unfold szN
        rw [sum_mul]
      · simp only [c]
        exact (sum_zero T).symm
    have e6 : (T.map fun r => (if q.1 ≠ r.1 ∧ L q.1 r.1 = true then q.2 * r.2 else 0) + (if r.1 ≠ q.1 ∧ L r.1 q.1 = true then r.2 * q.2 else 0)).sum ≤ (T.map fun r => ((List.range (n + 1)).map fun i => if covB q.1 i then q.2 * (if covB r.1 i then r.2 else 0) else 0).sum).sum := by
      refine sum_le fun r hr => ?_
      obtain ⟨r1, r2⟩ := h r (List.mem_cons_of_mem _ hr)
      have big : ∀ i, i ≤ n → covB q.1 i = true → covB r.1 i = true → q.2 * r.2 ≤ ((List.range (n + 1)).map fun i => if covB q.1 i then q.2 * (if covB r.1 i then r.2 else 0) else 0).sum := fun i hi c1 c2 => by
        have := sum_one (f := fun i => if covB q.1 i then q.2 * (if covB r.1 i then r.2 else 0) else 0) (List.mem_range.mpr (show i < n + 1 by omega))
        simp only [c1, c2, if_true] at this
        exact this
      by_cases a : q.1 ≠ r.1 ∧ L q.1 r.1 = true
      · have b : ¬ (r.1 ≠ q.1 ∧ L r.1 q.1 = true) := fun z => A.anti _ _ a.1 a.2 z.2
        rw [if_pos a, if_neg b]
        obtain ⟨i, hi, c1, c2⟩ := A.over _ _ a.2 (by omega) (by omega)
        exact big i hi c1 c2
      · rw [if_neg a]
        by_cases b : r.1 ≠ q.1 ∧ L r.1 q.1 = true
        · rw [if_pos b]
          obtain ⟨i, hi, c1, c2⟩ := A.over _ _ b.2 (by omega) (by omega)
          rw [Nat.zero_add, Nat.mul_comm r.2]
          exact big i hi c2 c1
        · rw [if_neg b]; exact Nat.zero_le _
    rw [e3, e5, List.map_cons, List.sum_cons]
    omega
/-- the bars that begin at each place -/
theorem by_first (g : (Nat × Nat) × Nat → Nat) : ∀ (T : Nums) (n : Nat), (∀ q ∈ T, q.1.1 ≤ n) → prodN (T.map g) = prodN ((List.range (n + 1)).map fun i => prodN ((T.filter fun q => q.1.1 == i).map g))
  | [], n, _ => by
    show 1 = prodN ((List.range (n + 1)).map fun _ => 1)
    induction (List.range (n + 1)) with
    | nil => rfl
    | cons a l ih => rw [List.map_cons, prodN_cons, ← ih]
  | q :: T, n, h => by
    have ih := by_first g T n fun r hr => h r (List.mem_cons_of_mem _ hr)
    rw [List.map_cons, prodN_cons, ih]
    have hq := h q List.mem_cons_self
    have e : ∀ i, prodN (((q :: T).filter fun q => q.1.1 == i).map g) = (if q.1.1 = i then g q else 1) * prodN ((T.filter fun q => q.1.1 == i).map g) := fun i => by
      rw [List.filter_cons]
      by_cases c : q.1.1 = i
      · rw [if_pos (by simp [c]), if_pos c]; rfl
      · rw [if_neg (by simp [c]), if_neg c, Nat.one_mul]
    rw [show ((List.range (n + 1)).map fun i => prodN (((q :: T).filter fun q => q.1.1 == i).map g)) = (List.range (n + 1)).map fun i => (if q.1.1 = i then g q else 1) * prodN ((T.filter fun q => q.1.1 == i).map g) from List.map_congr_left fun i _ => e i, prodN_mul]
    refine congrArg (· * _) ?_
    -- just one of them
    clear ih e
    have : ∀ m, m ≤ q.1.1 → prodN ((List.range m).map fun i => if q.1.1 = i then g q else 1) = 1 := fun m => by
      induction m with
      | zero => intro _; rfl
      | succ m ih =>
        intro hm
        rw [List.range_succ, List.map_append, prodN_append, ih (by omega)]
        show 1 * ((if q.1.1 = m then g q else 1) * 1) = 1
        rw [if_neg (by omega)]
    have two : ∀ m, q.1.1 < m → prodN ((List.range m).map fun i => if q.1.1 = i then g q else 1) = g q := fun m => by
      induction m with
      | zero => intro z; omega
      | succ m ih =>
        intro hm
        rw [List.range_succ, List.map_append, prodN_append]
        show _ * ((if q.1.1 = m then g q else 1) * 1) = g q
        by_cases c : q.1.1 = m
        · rw [this m (by omega), if_pos c]; omega
        · rw [ih (by omega), if_neg c]; omega
    exact (two (n + 1) (by omega)).symm
theorem begin_le {T : Nums} (h : ∀ q ∈ T, q.1.1 ≤ q.1.2) (i : Nat) : ((T.filter fun q => q.1.1 == i).map (·.2)).sum ≤ szN T i := by
  induction T with
  | nil => exact Nat.le_refl _
  | cons q T ih =>
    have ih := ih fun r hr => h r (List.mem_cons_of_mem _ hr)
    have hq := h q List.mem_cons_self
    have e0 : szN (q :: T) i = (if covB q.1 i then q.2 else 0) + szN T i := by unfold szN; rw [List.map_cons, List.sum_cons]
    rw [e0, List.filter_cons]
    by_cases c : q.1.1 = i
    · have c2 : covB q.1 i = true := by unfold covB; rw [decide_eq_true (by omega), decide_eq_true (by omega)] <;> rfl
      rw [if_pos (by simp [c]), if_pos c2, List.map_cons, List.sum_cons]
      omega
    · rw [if_neg (by simp [c])]
      omega
theorem keep_dvd {L : Nat × Nat → Nat × Nat → Bool} {n p : Nat} (hp : 2 ≤ p) (A : Anti L n) {T : Nums} (h : ∀ q ∈ T, q.1.1 ≤ q.1.2 ∧ q.1.2 ≤ n) : keepN L p T ∣ coatsN p n T := by
  unfold keepN coatsN
  have e1 : prodN (T.map fun q => gl p q.2) = p ^ (T.map fun q => tri q.2).sum * prodN (T.map fun q => fac p q.2) := by
    rw [← prodN_pow, ← prodN_mul]
    exact congrArg prodN (List.map_congr_left fun q _ => gl_fac p q.2)
  have e2 : prodN ((List.range (n + 1)).map fun i => gl p (szN T i)) = p ^ ((List.range (n + 1)).map fun i => tri (szN T i)).sum * prodN ((List.range (n + 1)).map fun i => fac p (szN T i)) := by
    rw [← prodN_pow, ← prodN_mul]
    exact congrArg prodN (List.map_congr_left fun i _ => gl_fac p _)
  rw [e1, e2, ← Nat.mul_assoc, ← Nat.pow_add]
  refine Nat.mul_dvd_mul (Nat.pow_dvd_pow p (free_le A h)) ?_
  rw [by_first (fun q => fac p q.2) T n fun q hq => by have := h q hq; omega]
  refine prodN_dvd fun i _ => ?_
  have := fac_many hp ((T.filter fun q => q.1.1 == i).map (·.2))
  rw [List.map_map] at this
  exact Nat.dvd_trans this (fac_mono hp (begin_le (fun q hq => (h q hq).1) i))
theorem gl_pos {p n : Nat} (hp : 2 ≤ p) : 0 < gl p n := indep_pos hp (Nat.le_refl _)
theorem keep_pos {L : Nat × Nat → Nat × Nat → Bool} {p : Nat} (hp : 2 ≤ p) (T : Nums) : 0 < keepN L p T := Nat.mul_pos (Nat.pow_pos (by omega)) (prodN_pos fun x hx => by
  obtain ⟨q, _, rfl⟩ := List.mem_map.mp hx
  exact gl_pos hp)
theorem coats_pos {p n : Nat} (hp : 2 ≤ p) (T : Nums) : 0 < coatsN p n T := prodN_pos fun x hx => by
  obtain ⟨q, _, rfl⟩ := List.mem_map.mp hx
  exact gl_pos hp
theorem prodN_lt {b : Nat} : ∀ {l : List Nat}, (∀ a ∈ l, a < 2 ^ b) → prodN l < 2 ^ (b * l.length + 1)
  | [], _ => by show 1 < 2 ^ (b * 0 + 1); rw [Nat.mul_zero]; decide
  | a :: l, h => by
    have h1 := h a List.mem_cons_self
    have h2 := prodN_lt fun c (hc : c ∈ l) => h c (List.mem_cons_of_mem _ hc)
    have e : b * (a :: l).length + 1 = b + (b * l.length + 1) := by rw [List.length_cons, Nat.mul_add]; omega
    rw [e, Nat.pow_add]
    exact Nat.mul_lt_mul'' h1 h2
theorem coats_lt {p n : Nat} (hp : p < 16) (n6 : n ≤ 6) {T : Nums} (s6 : ∀ i, i ≤ n → szN T i ≤ 6) : coatsN p n T < 2 ^ 1016 := by
  have h := prodN_lt (b := 145) (l := (List.range (n + 1)).map fun i => gl p (szN T i)) fun a ha => by
    obtain ⟨i, hi, rfl⟩ := List.mem_map.mp ha
    exact indep_lt2 hp (Nat.le_refl _) (s6 i (by have := List.mem_range.mp hi; omega))
  rw [List.length_map, List.length_range] at h
  refine Nat.lt_of_lt_of_le h (Nat.pow_le_pow_right (by decide) ?_)
  have : 145 * (n + 1) ≤ 145 * 7 := Nat.mul_le_mul_left _ (by omega)
  omega
theorem keep_lt {L : Nat × Nat → Nat × Nat → Bool} {n p : Nat} (hp : 2 ≤ p) (hp2 : p < 16) (n6 : n ≤ 6) (A : Anti L n) {T : Nums} (h : ∀ q ∈ T, q.1.1 ≤ q.1.2 ∧ q.1.2 ≤ n) (s6 : ∀ i, i ≤ n → szN T i ≤ 6) : keepN L p T < 2 ^ 1016 :=
  Nat.lt_of_le_of_lt (Nat.le_of_dvd (coats_pos hp T) (keep_dvd hp A h)) (coats_lt hp2 n6 s6)
/-! ### the same numbers in another order, with bars of number 0 -/
theorem free_perm {L : Nat × Nat → Nat × Nat → Bool} {T U : Nums} (h : T.Perm U) : freeN L T T = freeN L U U := by
  have a : ∀ V : Nums, freeN L T V = freeN L U V := fun V => sum_perm (h.map _)
  have b : ∀ V : Nums, freeN L V T = freeN L V U := fun V => congrArg List.sum (List.map_congr_left fun q _ => sum_perm (h.map _))
  rw [a, b]
theorem keep_perm {L : Nat × Nat → Nat × Nat → Bool} {p : Nat} {T U : Nums} (h : T.Perm U) : keepN L p T = keepN L p U := by
  unfold keepN
  rw [free_perm h, prodN_perm (h.map _)]
theorem sz_perm {T U : Nums} (h : T.Perm U) (i : Nat) : szN T i = szN U i := sum_perm (h.map _)
def posN (T : Nums) : Nums := T.filter fun q => decide (0 < q.2)
theorem sum_pos (g : (Nat × Nat) × Nat → Nat) (h0 : ∀ q, q.2 = 0 → g q = 0) : ∀ T : Nums, ((posN T).map g).sum = (T.map g).sum
  | [] => rfl
  | q :: T => by
    unfold posN
    rw [List.filter_cons]
    have ih := sum_pos g h0 T
    unfold posN at ih
    by_cases c : 0 < q.2
    · rw [if_pos (decide_eq_true c), List.map_cons, List.map_cons, List.sum_cons, List.sum_cons, ih]
    · rw [if_neg (by simp [c]), ih, List.map_cons, List.sum_cons]
      rw [h0 q (by omega), Nat.zero_add]
theorem sz_pos (T : Nums) (i : Nat) : szN (posN T) i = szN T i := sum_pos _ (fun q h => by rw [h]; split <;> rfl) T
end Rw

set_option Elab.async false
set_option linter.all false
set_option maxRecDepth 100000
set_option maxHeartbeats 4000000
/-! TkA: own rules that all laws of this program share: a def called where no repr runs (FnG), the end of a row from it, repr of data, try with several named clauses. -/
namespace Rw
open PySem PySem.Spec PyProof.Rows L2

/-! ### defs that are called where no repr is under way -/
theorem guards_deep (A : Around) (e : Env) : (A.deeper e).guards = A.guards := by rfl
/-- FnOk, but only where no repr is under way -/
structure FnG (P : Program) (w : World) (K : PySem.W.Frag) (mg : Str → Option Value) (base : Heap) (CX : CXT) (k : Nat) (f : Addr) (fd : FuncData) (ps : List Str) (sp : Sp) : Prop where
  many : ∀ vs H Q E, sp vs H Q E → vs.length = ps.length
  go : ∀ (A : Around) (fr : List Env) (s : Shared) (H : Hp) (ar : Args) (us : List Value) (vs : List V) (Q : VK) (E : XK), A.guards = some [] → Room k A → Env0 P w K mg base A fr s H →
    BindsTo s fd ar (ps.zip us) → Vals vs us → sp vs H Q E → codeAny (model P w) A (.call (.ref f) ar) (CR CX fr P w H s Q E) s

section
variable {P : Program} {w : World} {K : PySem.W.Frag} {mg : Str → Option Value} {base : Heap} {CX : CXT}
theorem fnG_of {k : Nat} {f : Addr} {name qual : Str} {pa : Arguments} {bd : List Stmt} {sc : Scope} {dV kV doc pm cdv ct oc : Value} {an od : Option Addr} {osl : Array (Option Value)} {N ps : List Str} {sp : Sp}
    (lk : K.lookup f = some ⟨oc, od, .func (PySem.W.fnOf name qual pa bd sc dV kV doc pm an cdv ct), osl⟩) (hcd : PySem.W.codeIn K cdv qual = true) (S : FnScope N ps sc)
    (many : ∀ vs H Q E, sp vs H Q E → vs.length = ps.length)
    (walk : ∀ (A : Around) (fr : List Env) (s : Shared) (H : Hp) (vs : List V) (Q : VK) (E : XK), A.guards = some [] → Room k (A.deeper (envOfC qual sc s.heap.objs.size f cdv)) → sp vs H Q E →
      ∃ t, PSs (cxOf CX P w K mg base N qual sc f cdv A fr s H E) bd t ∧ t { nx := fun _ H' => Q .non H', rt := Q } (start N vs) H) :
    FnG P w K mg base CX (k + 1) f (PySem.W.fnOf name qual pa bd sc dV kV doc pm an cdv ct) ps sp := by
  constructor
  · exact many
  intro A fr s H ar us vs Q E gu room ev bnd rel prom
  have cnt := many vs H Q E prom
  have kin : K.In s.heap := PySem.W.Frag.In.keeps ev.mod.kin (fun b o e => (ev.bs b o e).1)
  have lim : s.heap.NoLimit := Heap.NoLimit.keeps ev.mod.nolimit (fun b o e => (ev.bs b o e).1)
  refine codeAny_call_function (Room.depth room) (kin f _ lk) rfl S.co S.gen rfl (PySem.W.codeRec_of kin hcd) ?_
  refine bnd _ _ _ _ ?_
  refine wpAny_newFunctionEnv_cells S.kind ?_ ?_
  · intro y hy
    obtain ⟨n, v⟩ := y
    have hp := (List.of_mem_zip hy).1
    cases S.par n hp with
    | inl q => exact Or.inl q
    | inr q => exact Or.inr ⟨q, PySem.W.cellsFrom_some sc.names (s.heap.objs.size + 1) [] (Or.inl q)⟩
  intro env he s1 x
  subst he
  refine And.intro (lim.keeps (InCallC.toInCall x).keep) ?_
  refine codeAny_func ?_
  have start_ok := inv_start (CX := CX) (E := E) (f := f) (cd := cdv) S room.hd ev cnt rel x
  obtain ⟨t, ht, hq⟩ := walk A fr s H vs Q E gu (Room.deeper room _) prom
  refine wpAny_mono (PSs.run ht [] s1 (start N vs) H _ start_ok hq) ?_ (fun _ _ z => z)
  intro fl s2 hs
  cases fl with
  | ret u =>
    obtain ⟨v, σ2, H2, J, rv, q⟩ := hs
    exact Exists.intro v ⟨H2, J.os, J.bare, J.base, J.hok, rv, q⟩
  | next =>
    obtain ⟨σ2, H2, J, q⟩ := hs
    exact Exists.intro V.non ⟨H2, J.os, J.bare, J.base, J.hok, rfl, q⟩
  | brk => exact (hs.choose_spec.choose_spec.2).elim
  | cont => exact (hs.choose_spec.choose_spec.2).elim
/-- a def of the text: its body's term and reading, where no repr is under way -/
theorem funG {x qual : Str} {st : Stmt} {f : Addr} {fd : FuncData} {N ps : List Str} {k : Nat} {sp : Sp} (F : Fun K x qual st f fd) (S : FnScope N ps (defScope st)) (many : ∀ vs H Q E, sp vs H Q E → vs.length = ps.length)
    (walk : ∀ (cdv : Value) (A : Around) (fr : List Env) (s : Shared) (H : Hp) (vs : List V) (Q : VK) (E : XK), (cxOf CX0 P w K mg base N qual (defScope st) f cdv A fr s H E).A.guards = some [] →
      Room k (A.deeper (envOfC qual (defScope st) s.heap.objs.size f cdv)) → sp vs H Q E →
      ∃ t, PSs (cxOf CX0 P w K mg base N qual (defScope st) f cdv A fr s H E).nox (defBody st) t ∧ t { nx := fun _ H' => Q .non H', rt := Q } (start N vs) H) : FnG P w K mg base CX0 (k + 1) f fd ps sp := by
  obtain ⟨oc, od, kV, doc, pm, an, cdv, ct, osl, rfl, lk, hcd⟩ := F.ex
  refine fnG_of lk hcd S many ?_
  intro A fr s H vs Q E gu room prom
  obtain ⟨t, d, q⟩ := walk cdv A fr s H vs Q E gu room prom
  exact ⟨t, PSs.nox d, q⟩
end

section
variable {X : Cx} {CX : CXT} {k : Nat} {f : Addr} {fd : FuncData} {ps : List Str} {sp : Sp} {dvs : List V} {ds : List Value} {E : XK} {x : Str} {p pos : Pos} {e : Expr} {es : List Expr} {t : TA}
/-- f(e, ..) of such a def -/
theorem pe_callG (F : FnG X.prog X.w X.K X.mg X.base CX k f fd ps sp) (gu : X.A.guards = some []) (room : Room k X.A) (hg : Gl X x) (hm : X.mg x = some (.ref f)) (hk : PySem.W.keepIn X.K (.ref f) = true)
    (bnd : Binds X.K fd ps ds) (hd : Vals dvs ds) (hx : Passes CX X E) (ha : PA X (e :: es) t) (hdb : (x == ("__debug__" : Str)) = false := by decide)
    (he : starEach (e :: es) X.env = (false, eval e X.env) :: starEach es X.env := by rfl) (hpl : (backTo pos (starEach es X.env)).any (·.1) = false := by rfl) :
    PE X (.Call (.Name x p) (e :: es) [] pos) (tCall sp dvs E t) := by
  constructor
  intro pins s σ H Q I h
  refine wpAny_Call_Name_kw (ld_glob I hg hm ?_ hdb)
  refine PySem.W.callWith_K (h₀ := X.base) I.ok.mod.kin hk ?_ he hpl
  refine thn (PA.run ha pos pins s σ H _ I h) ?_
  intro us s1 hh
  obtain ⟨vs, H1, I1, r, q⟩ := hh
  refine ⟨I1.kIn, ?_⟩
  have r2 : Vals (vs ++ dvs) (us ++ ds) := Vals.append r hd
  have cnt : (us ++ ds).length = ps.length := (r2.length).symm.trans (F.many _ _ _ _ q)
  refine wpAny_call (codeAny_mono (F.go X.A X.stack s1 H1 ⟨us, []⟩ (us ++ ds) (vs ++ dvs) Q E gu room I1.env0 (bnd s1 us I1.kIn cnt) r2 q) ?_)
  intro res s2 hq
  cases res with
  | error er => exact hx pins σ H1 s1 er s2 I1 hq
  | ok fl =>
    cases fl with
    | ret u => exact Inv.after I1 hq
    | next => exact hq.elim
    | brk => exact hq.elim
    | cont => exact hq.elim
end
end Rw

set_option Elab.async false
set_option linter.all false
set_option maxRecDepth 100000
set_option maxHeartbeats 4000000
/-! TkB: the end of a law's row from a def that is called where no repr is under way. -/
namespace Rw
open PySem PySem.Spec PyProof.Rows L2

/-- nothing is tracked in H but perhaps a -/
def Lone (H : Hp) (a : Addr) : Prop := ∀ b, H b ≠ none → b = a

section
variable {P : Program} {w : World} {K : PySem.W.Frag} {mg mb : Str → Option Value} {s : Shared} {a : Addr} {H : Hp} {o : Obj}
theorem lone_base {b : Addr} {u : Obj} (e : s.heap.get? b = some u) (n : H b = none) : (hidT s.heap H).get? b = some u := hidT_get e n
theorem lone_free (A : Lone H a) {b : Addr} (n : b ≠ a) : H b = none := by
  cases q : H b with
  | none => rfl
  | some u => exact (n (A b (by rw [q]; exact fun z => nomatch z))).elim
theorem lone_dict (A : Lone H a) (ha : s.heap.get? a = some o) (hd : ∀ es n, o.data ≠ .dict es n) {b : Addr} {u : Obj} {es : Array DictEntry} {n : Nat} (e : s.heap.get? b = some u) (d : u.data = .dict es n) : H b = none :=
  lone_free A fun z => by
    rw [z, ha] at e
    cases e
    exact hd es n d
theorem lone_ns (A : Lone H a) (ha : s.heap.get? a = some o) (hd : ∀ es n, o.data ≠ .dict es n) {b : Addr} {m : Str → Option Value} (h : s.heap.Ns b m) : (hidT s.heap H).Ns b m := by
  obtain ⟨u, es, n, e, d, r⟩ := h
  exact ⟨u, es, n, lone_base e (lone_dict A ha hd e d), d, r⟩
theorem lone_mod (A : Lone H a) (ha : s.heap.get? a = some o) (hd : ∀ es n, o.data ≠ .dict es n) (KX : K.In s.heap) (hK : H a ≠ none → K.lookup a = none) (g : s.heap.Ns mainGlobals mg) (b : s.heap.Ns builtinsNs mb)
    (bb : ∀ x : Str, x ≠ "__name__" → mb x = bootBuiltins x) (lim : s.heap.NoLimit) : Mod K mg (hidT s.heap H) := by
  have kin : K.In (hidT s.heap H) := fun c u e => by
    refine lone_base (KX c u e) ?_
    by_cases z : c = a
    · cases q : H a with
      | none => rw [z]; exact q
      | some y =>
        rw [z, hK (by rw [q]; exact fun z => nomatch z)] at e
        cases e
    · exact lone_free A z
  refine ⟨kin, lone_ns A ha hd g, ⟨mb, lone_ns A ha hd b, bb⟩, ?_⟩
  obtain ⟨mc, h1, h2⟩ := lim
  exact ⟨mc, lone_ns A ha hd h1, h2⟩

/-- what a law's run leaves, from its promise -/
theorem lone_run {CX : CXT} {k : Nat} {fa : Addr} {fd : FuncData} {x : Str} {sp : Sp} (A : Lone H a) (ha : s.heap.get? a = some o) (hd : ∀ es n, o.data ≠ .dict es n) (KX : K.In s.heap) (hK : H a ≠ none → K.lookup a = none)
    (g : s.heap.Ns mainGlobals mg) (b : s.heap.Ns builtinsNs mb) (bb : ∀ x : Str, x ≠ "__name__" → mb x = bootBuiltins x) (lim : s.heap.NoLimit) (hg : s.gens = #[]) (only : Only H) (hok : HOk P w H s.heap) (gu : callerA.guards = some []) (hr : Room k callerA)
    (F : ∀ base : Heap, K.In base → base.Ns mainGlobals mg → FnG P w K mg base CX k fa fd [x] sp) (bnd : ∀ (s : Shared) (u : Value), BindsTo s fd ⟨[u], []⟩ [(x, u)])
    (hs : sp [.ref a] H (fun v _ => v = .bl true) fun _ _ _ => False) (hCX : ∀ e s', CX [] H s (fun _ _ _ => False) e s' → False) :
    codeAny (model P w) callerA (.call (.ref fa) ⟨[.ref a], []⟩) (fun r s' => r = .ok (.ret (.bool true)) ∧ OldK s.heap s'.heap ∧ s'.os = s.os ∧ AllBare s'.gens) s := by
  have M := lone_mod A ha hd KX hK g b bb lim
  have ev : Env0 P w K mg (hidT s.heap H) callerA [] s H := by
    refine ⟨rfl, M, fun c u e => of_hidT e, Nat.le_of_eq (hidT_size _ _), True.intro, ?_, hok, .of_eq hg⟩
    intro c hc
    cases hc
  refine codeAny_mono ((F _ M.kin M.glob).go callerA [] s H ⟨[.ref a], []⟩ [.ref a] [.ref a] _ _ gu hr ev (bnd s (.ref a)) (.cons rfl .nil) hs) ?_
  intro r s' h
  cases r with
  | error e => exact False.elim (hCX e s' h)
  | ok fl =>
    cases fl with
    | next => exact h.elim
    | brk => exact h.elim
    | cont => exact h.elim
    | ret u =>
      obtain ⟨v, H', os, bare, un, hok', r', q⟩ := h
      have ev : v = V.bl true := q
      rw [ev] at r'
      cases (show u = Value.bool true from r')
      refine ⟨rfl, OldK.of_keep ?_, os, bare⟩
      intro c u e
      cases q : H c with
      | none => exact un.keep c u e q (fun z => nomatch z) (fun z => nomatch z)
      | some y =>
        cases only c with
        | inl z =>
          rw [q] at z
          cases z
        | inr z =>
          obtain ⟨ob, xs, z⟩ := z
          have e1 := (hok c _ z).1
          have e2 := (hok' c _ (un.frzs c ob _ z)).1
          rw [e] at e1
          cases e1
          exact e2

theorem lawG {CX : CXT} {k : Nat} {fa : Addr} {fd : FuncData} {x : Str} {sp : Sp} {vs : List Value} {ns : List Int} (KX : K.In s.heap) (g : s.heap.Ns mainGlobals mg) (b : s.heap.Ns builtinsNs mb)
    (bb : ∀ x : Str, x ≠ "__name__" → mb x = bootBuiltins x) (lim : s.heap.NoLimit) (hg : s.gens = #[]) (ha : s.heap.get? a = some { cls := .type "list", data := .seq vs.toArray }) (hi : IntsAre vs ns) (hl : ns.length ≤ sizeLine)
    (gu : callerA.guards = some []) (hr : Room k callerA) (F : ∀ base : Heap, K.In base → base.Ns mainGlobals mg → FnG P w K mg base CX k fa fd [x] sp) (bnd : ∀ (s : Shared) (u : Value), BindsTo s fd ⟨[u], []⟩ [(x, u)])
    (hs : ∀ H : Hp, Only H → SqL K H a (ns.map V.int) → sp [.ref a] H (fun v _ => v = .bl true) fun _ _ _ => False) (hCX : ∀ H e s', CX [] H s (fun _ _ _ => False) e s' → False) :
    codeAny (model P w) callerA (.call (.ref fa) ⟨[.ref a], []⟩) (fun r s' => r = .ok (.ret (.bool true)) ∧ OldK s.heap s'.heap ∧ s'.os = s.os ∧ AllBare s'.gens) s := by
  have rv := vals_ints hi
  have nd : ∀ es n, ({ cls := .type "list", data := .seq vs.toArray } : Obj).data ≠ .dict es n := fun es n z => nomatch z
  cases hk : K.lookup a with
  | some o =>
    have e := KX a o hk
    rw [ha] at e
    cases e
    have sq : SqL K (fun _ => none) a (ns.map V.int) := Or.inr ⟨_, vs.toArray, _, hk, rfl, rfl, rfl, (by rw [List.size_toArray, hi.length]; exact hl), (by simpa using rv)⟩
    have on : Only (fun _ => none) := fun _ => Or.inl rfl
    exact lone_run (H := fun _ => none) (fun b z => absurd rfl z) ha nd KX (fun z => absurd rfl z) g b bb lim hg on (fun c u z => nomatch z) gu hr F bnd (hs _ on sq) (hCX _)
  | none =>
    have on : Only (upd (fun _ => none) a (.frz { cls := .type "list", data := .seq vs.toArray } (.lst (ns.map V.int)))) := fun c => by
      by_cases z : c = a
      · rw [z]
        exact Or.inr ⟨_, _, upd_same⟩
      · exact Or.inl (upd_ne z)
    refine lone_run (a := a) (fun c z => ?_) ha nd KX (fun _ => hk) g b bb lim hg on (fun c u z => ?_) gu hr F bnd (hs _ on (.inl (.inr ⟨_, upd_same⟩))) (hCX _)
    · by_cases y : c = a
      · exact y
      · exact (z (upd_ne y)).elim
    · by_cases y : c = a
      · rw [y, upd_same] at z
        cases z
        rw [y]
        exact ⟨ha, by rw [List.length_map]; exact hl, vs, _, rv, ha⟩
      · rw [upd_ne y] at z
        cases z
end

/-- the row's walk -/
theorem walkG {l : PySem.W.OpenLaw} {n k : Nat} {q : Program} {loose : List Str} {XP : (Str → Option Value) → Heap → Prop} {YP : World → Heap → Prop} {d : DefRec} {K : Params → PySem.W.Frag} {sp : PySem.W.Frag → Sp} {x : Str}
    (hn : l.most = some n) (hn2 : n ≤ sizeLine) (hdf : d.params.defaults = []) (gu : callerA.guards = some []) (hr : Room k callerA) (hY : ∀ (w : World) (h : Heap), YP w h → (K w.params).In h)
    (F : ∀ (w : World) (mg : Str → Option Value) (fa : Addr) (h : Heap), (K w.params).In h → h.Ns mainGlobals mg → mg d.name = some (.ref fa) →
      ∃ fd : FuncData, (∀ (s : Shared) (u : Value), BindsTo s fd ⟨[u], []⟩ [(x, u)]) ∧ ∀ base : Heap, (K w.params).In base → base.Ns mainGlobals mg → FnG l.prog w (K w.params) mg base CX0 k fa fd [x] (sp (K w.params)))
    (hs : ∀ (K : PySem.W.Frag) (H : Hp) (a : Addr) (ns : List Int), ns.length ≤ n → Only H → SqL K H a (ns.map V.int) → sp K [.ref a] H (fun v _ => v = .bl true) fun _ _ _ => False) :
    PySem.W.WalkO q loose XP YP l.row.toRowW d [] (fun f vs => PySem.call f vs) := by
  refine Att.attach_call hn hdf ?_
  intro w s0 s1 mg mb fa o pm cd doc a vs ns G Y ho hd hcd hmg hobj hints hlen hg
  have KX := hY w s1.heap Y
  obtain ⟨fd, bnd, FF⟩ := F w mg fa s1.heap KX G.T.g hmg
  exact lawG KX G.T.g G.T.b G.T.builtins G.T.nolimit hg hobj hints (Nat.le_trans hlen hn2) gu hr FF bnd (fun H on sq => hs (K w.params) H a ns hlen on sq) (fun _ _ _ z => z)
end Rw

set_option Elab.async false
set_option linter.all false
set_option maxRecDepth 100000
set_option maxHeartbeats 4000000
/-! TkC: data with dicts among them; repr of data. -/
namespace Rw
open PySem PySem.Spec PyProof.Rows L2

/-- how a dict's key reads -/
def keyD : Key → PyData
  | .inl i => .int i
  | .inr x => .str x
mutual
/-- what v is, as data: lists and tuples that are tracked, dicts with keys that are ints or texts -/
inductive Any (H : Hp) : V → PyData → Prop
  | non : Any H .non .none
  | bl (b : Bool) : Any H (.bl b) (.bool b)
  | int (i : Int) : Any H (.int i) (.int i)
  | str (x : Str) : Any H (.str x) (.str x)
  | lst {a : Addr} {xs : List V} {ds : List PyData} : H a = some (.lst xs) → AnyL H xs ds → Any H (.ref a) (.list ds)
  | tup {a : Addr} {xs : List V} {ds : List PyData} : H a = some (.tup xs) → AnyL H xs ds → Any H (.ref a) (.tuple ds)
  | dct {a : Addr} {kvs : List (Key × V)} {ds : List (PyData × PyData)} : H a = some (.dK kvs) → AnyK H kvs ds → Any H (.ref a) (.dict ds)
inductive AnyL (H : Hp) : List V → List PyData → Prop
  | nil : AnyL H [] []
  | cons {v : V} {vs : List V} {d : PyData} {ds : List PyData} : Any H v d → AnyL H vs ds → AnyL H (v :: vs) (d :: ds)
inductive AnyK (H : Hp) : List (Key × V) → List (PyData × PyData) → Prop
  | nil : AnyK H [] []
  | cons {k : Key} {v : V} {vs : List (Key × V)} {d : PyData} {ds : List (PyData × PyData)} : Any H v d → AnyK H vs ds → AnyK H ((k, v) :: vs) ((keyD k, d) :: ds)
end

/-! ### how such data is shown -/
section
variable {prog : Program} {w : World} {h : Heap}
/-- u lies as the data d in h, and is shown by repr -/
def Shows (prog : Program) (w : World) (h : Heap) (u : Value) (d : PyData) : Prop := ∃ as, Reads h u d as ∧ ∃ bs, ReadAtMost h d.depth bs ∧ ReprK prog w bs h d.depth u d.shown
def ShowsL (prog : Program) (w : World) (h : Heap) (us : List Value) (ds : List PyData) : Prop := ∃ as, ReadsAll h us ds as ∧ ∃ bs, ReadAtMost h (PyData.depthAll ds) bs ∧ ReprAllK prog w bs h (PyData.depthAll ds) us (PyData.shownAll ds)
theorem shows_flat {u : Value} {d : PyData} (r : Reads h u d []) (k : ReprIs prog w u d.shown) : Shows prog w h u d := ⟨[], r, [], fun _ z => (nomatch z), ReprK.of_is k [] h d.depth⟩
theorem showsL_nil : ShowsL prog w h [] [] := ⟨[], .nil, [], fun _ z => (nomatch z), by simp only [PyData.shownAll]; exact .nil⟩
theorem showsL_cons {u : Value} {d : PyData} {us : List Value} {ds : List PyData} (x : Shows prog w h u d) (y : ShowsL prog w h us ds) : ShowsL prog w h (u :: us) (d :: ds) := by
  obtain ⟨a1, r1, b1, m1, k1⟩ := x
  obtain ⟨a2, r2, b2, m2, k2⟩ := y
  have e : PyData.depthAll (d :: ds) = max d.depth (PyData.depthAll ds) := by simp only [PyData.depthAll]
  have l1 : d.depth ≤ max d.depth (PyData.depthAll ds) := Nat.le_max_left _ _
  have l2 : PyData.depthAll ds ≤ max d.depth (PyData.depthAll ds) := Nat.le_max_right _ _
  refine ⟨a1 ++ a2, .cons r1 r2, b1 ++ b2, ?_, ?_⟩
  · rw [e]
    exact ReadAtMost.append (m1.mono l1) (m2.mono l2)
  · rw [e]
    simp only [PyData.shownAll]
    exact .cons (ReprK.level_le (ReprK.more k1 fun b z => List.mem_append_left b2 z) l1) (ReprAllK.more_le (fun b z => List.mem_append_right b1 z) l2 k2)
theorem shown_le {ds : List PyData} {n : Nat} (z : ∀ t ∈ PyData.shownAll ds, t.length ≤ n) : ∀ d ∈ ds, d.shown.length ≤ n := by
  induction ds with
  | nil => intro d hd; cases hd
  | cons c cs ih =>
    intro d hd
    simp only [PyData.shownAll] at z
    rcases List.mem_cons.mp hd with e | e
    · rw [e]
      exact z _ List.mem_cons_self
    · exact ih (fun t ht => z t (List.mem_cons_of_mem _ ht)) d e
/-- the parts of a list -/
structure ListAt (h : Heap) (a : Addr) (us : List Value) (o : Obj) (n : Nat) : Prop where
  get : h.get? a = some o
  cls : o.cls = .type "list"
  dat : o.data = .seq us.toArray n
structure TupleAt (h : Heap) (a : Addr) (us : List Value) (o : Obj) (n : Nat) : Prop where
  get : h.get? a = some o
  cls : o.cls = .type "tuple"
  dat : o.data = .seq us.toArray n
structure DictAt' (h : Heap) (a : Addr) (es : Array DictEntry) (o : Obj) (n : Nat) : Prop where
  get : h.get? a = some o
  cls : o.cls = .type "dict"
  dat : o.data = .dict es n
  off : (a == sysModules) = false
theorem list_reads {a : Addr} {us : List Value} {o : Obj} {n : Nat} {ds : List PyData} {as : List Addr} (L : ListAt h a us o n) (r : ReadsAll h us ds as) : Reads h (.ref a) (.list ds) (a :: as) := .list L.get L.cls L.dat r
theorem tuple_reads {a : Addr} {us : List Value} {o : Obj} {n : Nat} {ds : List PyData} {as : List Addr} (L : TupleAt h a us o n) (r : ReadsAll h us ds as) : Reads h (.ref a) (.tuple ds) as := .tuple L.get L.cls L.dat r
theorem off_of {a : Addr} {d : PyData} {as bs : List Addr} {m : Nat} (r : Reads h (.ref a) d as) (e : d.depth = m + 1) (k : ReadAtMost h m bs) : a ∉ bs := not_mem_of_deeper r (by omega) k
theorem shows_list {a : Addr} {us : List Value} {o : Obj} {n : Nat} {ds : List PyData} (L : ListAt h a us o n) (x : ShowsL prog w h us ds) : Shows prog w h (.ref a) (.list ds) := by
  obtain ⟨as, r, bs, m, k⟩ := x
  have R := list_reads L r
  have dp : (PyData.list ds).depth = PyData.depthAll ds + 1 := by simp only [PyData.depth]
  refine ⟨_, R, a :: bs, ReadAtMost.cons R (by omega) m, ?_⟩
  rw [dp]
  simp only [PyData.shown]
  cases us with
  | nil =>
    cases r
    simp only [PyData.shownAll, listText_nil]
    exact ReprK.listEmpty L.get L.cls L.dat
  | cons u us => exact ReprK.list L.get L.cls L.dat (off_of R dp m) (by simpa using k.length_eq) (fun i y e => k.item i y (by simpa using e))
theorem shows_tuple {a : Addr} {us : List Value} {o : Obj} {n : Nat} {ds : List PyData} (L : TupleAt h a us o n) (x : ShowsL prog w h us ds) : Shows prog w h (.ref a) (.tuple ds) := by
  obtain ⟨as, r, bs, m, k⟩ := x
  have R := tuple_reads L r
  have dp : (PyData.tuple ds).depth = PyData.depthAll ds + 1 := by simp only [PyData.depth]
  refine ⟨_, R, a :: bs, ReadAtMost.cons R (by omega) m, ?_⟩
  rw [dp]
  simp only [PyData.shown]
  exact ReprK.tuple L.get L.cls L.dat (off_of R dp m) k
theorem shows_dict {a : Addr} {es : Array DictEntry} {o : Obj} {n : Nat} {kvs : List (PyData × PyData)} (L : DictAt' h a es o n) (x : ShowsL prog w h (es.toList.map (·.key)) (kvs.map (·.1))) (y : ShowsL prog w h (es.toList.map (·.val)) (kvs.map (·.2))) :
    (∃ as, Reads h (.ref a) (.dict kvs) as) ∧ (∃ bs, ReadAtMost h (PyData.depthKv kvs) bs ∧ a ∉ bs ∧ ReprEntriesK prog w bs h (PyData.depthKv kvs) es.toList (PyData.shownKv kvs)) := by
  obtain ⟨a1, r1, b1, m1, k1⟩ := x
  obtain ⟨a2, r2, b2, m2, k2⟩ := y
  have R : Reads h (.ref a) (.dict kvs) (a :: a1 ++ a2) := .dict L.get L.cls L.dat r1 r2
  have dp : (PyData.dict kvs).depth = PyData.depthKv kvs + 1 := by simp only [PyData.depth]
  have m : ReadAtMost h (PyData.depthKv kvs) (b1 ++ b2) := ReadAtMost.append (m1.mono (PyData.depthAll_keys_le kvs)) (m2.mono (PyData.depthAll_vals_le kvs))
  refine ⟨⟨_, R⟩, b1 ++ b2, m, off_of R dp m, ?_⟩
  rw [PyData.shownKv_eq]
  have j1 := ReprAllK.more_le (fun b z => List.mem_append_left b2 z) (PyData.depthAll_keys_le kvs) k1
  have j2 := ReprAllK.more_le (fun b z => List.mem_append_right b1 z) (PyData.depthAll_vals_le kvs) k2
  exact ReprEntriesK.of_two es.toList _ _ j1 j2
theorem shows_dict' {a : Addr} {es : Array DictEntry} {o : Obj} {n : Nat} {kvs : List (PyData × PyData)} (L : DictAt' h a es o n) (x : ShowsL prog w h (es.toList.map (·.key)) (kvs.map (·.1))) (y : ShowsL prog w h (es.toList.map (·.val)) (kvs.map (·.2))) :
    Shows prog w h (.ref a) (.dict kvs) := by
  obtain ⟨⟨as, R⟩, bs, m, na, k⟩ := shows_dict L x y
  have dp : (PyData.dict kvs).depth = PyData.depthKv kvs + 1 := by simp only [PyData.depth]
  refine ⟨as, R, a :: bs, ReadAtMost.cons R (by omega) m, ?_⟩
  rw [dp]
  simp only [PyData.shown]
  exact ReprK.dict L.get L.cls L.dat L.off na k
end

section
variable {X : Cx} {pins : List (Addr × Obj)} {σ : L2.St} {H : Hp} {s : Shared}
theorem key_shows {P : Program} {w : World} {h : Heap} (k : Key) (v : Value) (hk : (mixKind P w).is k v = true) (hs : (keyD k).showable = true) (hz : (keyD k).shown.length ≤ sizeLine) : Shows P w h v (keyD k) := by
  rcases keyIs_shape hk with ⟨i, t, e1, e2⟩ | ⟨x, t, e1, e2⟩
  · subst e1 e2
    refine shows_flat (.int i t) ?_
    simp only [keyD, PyData.shown]
    exact ReprIs.int t (by simpa [keyD, PyData.showable] using hs)
  · subst e1 e2
    refine shows_flat (.str x t) ?_
    simp only [keyD, PyData.shown]
    exact ReprIs.str x t (by simpa only [keyD, PyData.shown] using hz)
theorem lst_at (I : Inv X pins σ H s) {a : Addr} {xs : List V} (e : H a = some (.lst xs)) : ∃ us o n, ListAt s.heap a us o n ∧ Vals xs us := by
  obtain ⟨_, its, n, rv, g⟩ := (show ObjOk X.prog X.w H s.heap a (.lst xs) from I.hok a _ e)
  exact ⟨its, _, n, ⟨g, rfl, rfl⟩, rv⟩
theorem tup_at (I : Inv X pins σ H s) {a : Addr} {xs : List V} (e : H a = some (.tup xs)) : ∃ us o n, TupleAt s.heap a us o n ∧ Vals xs us := by
  obtain ⟨_, its, rv, o, g, c, n, dt⟩ := (show ObjOk X.prog X.w H s.heap a (.tup xs) from I.hok a _ e)
  exact ⟨its, o, n, ⟨g, c, dt⟩, rv⟩
theorem dct_at (I : Inv X pins σ H s) {a : Addr} {kvs : List (Key × V)} (e : H a = some (.dK kvs)) : ∃ vs es o n, DictAt' s.heap a es o n ∧ KV kvs vs ∧ Pairs (mixKind X.prog X.w) es.toList vs := by
  obtain ⟨_, off, vs, rel, o, es, n, g, c, dt, _, p, _⟩ := (show ObjOk X.prog X.w H s.heap a (.dK kvs) from I.hok a _ e)
  exact ⟨vs, es, o, n, ⟨g, c.1, dt, off⟩, rel, p⟩
mutual
theorem any_shows (I : Inv X pins σ H s) : ∀ (d : PyData) (v : V) (u : Value), Any H v d → RelV v u → d.showable = true → d.shown.length ≤ sizeLine → Shows X.prog X.w s.heap u d
  | .none, v, u, h, r, _, _ => by
    cases h
    cases (show u = Value.none from r)
    exact shows_flat .none (by simp only [PyData.shown]; exact ReprIs.none)
  | .bool b, v, u, h, r, _, _ => by
    cases h
    cases (show u = Value.bool b from r)
    exact shows_flat (.bool b) (by simp only [PyData.shown]; exact ReprIs.bool b)
  | .int i, v, u, h, r, sh, _ => by
    cases h
    obtain ⟨t, e⟩ := (show ∃ t, u = Value.int i t from r)
    rw [e]
    exact shows_flat (.int i t) (by simp only [PyData.shown]; exact ReprIs.int t (by simpa [PyData.showable] using sh))
  | .str x, v, u, h, r, _, sz => by
    cases h
    obtain ⟨t, e⟩ := (show ∃ t, u = Value.str x t from r)
    rw [e]
    exact shows_flat (.str x t) (by simp only [PyData.shown]; exact ReprIs.str x t (by simpa only [PyData.shown] using sz))
  | .list ds, v, u, h, r, sh, sz => by
    cases h with
    | lst ea ha =>
      rename_i a xs
      cases (show u = Value.ref a from r)
      obtain ⟨us, o, n, L, rv⟩ := lst_at I ea
      have z : (listText (PyData.shownAll ds)).length ≤ sizeLine := by simpa only [PyData.shown] using sz
      exact shows_list L (any_showsL I ds xs us ha rv (by simpa [PyData.showable] using sh) fun t ht => Nat.le_trans (listText_mem_le ht) z)
  | .tuple ds, v, u, h, r, sh, sz => by
    cases h with
    | tup ea ha =>
      rename_i a xs
      cases (show u = Value.ref a from r)
      obtain ⟨us, o, n, L, rv⟩ := tup_at I ea
      have z : (tupleText (PyData.shownAll ds)).length ≤ sizeLine := by simpa only [PyData.shown] using sz
      exact shows_tuple L (any_showsL I ds xs us ha rv (by simpa [PyData.showable] using sh) fun t ht => Nat.le_trans (tupleText_mem_le ht) z)
  | .dict ds, v, u, h, r, sh, sz => by
    cases h with
    | dct ea ha =>
      rename_i a kvs
      cases (show u = Value.ref a from r)
      obtain ⟨vs, es, o, n, L, rel, p⟩ := dct_at I ea
      have z : (dictText (PyData.shownKv ds)).length ≤ sizeLine := by simpa only [PyData.shown] using sz
      obtain ⟨x, y⟩ := any_showsK I ds kvs vs es.toList ha rel p (by simpa [PyData.showable] using sh) fun t ht => Nat.le_trans (dictText_mem_le ht) z
      exact shows_dict' L x y
theorem any_showsL (I : Inv X pins σ H s) : ∀ (ds : List PyData) (vs : List V) (us : List Value), AnyL H vs ds → Vals vs us → PyData.showableAll ds = true → (∀ t ∈ PyData.shownAll ds, t.length ≤ sizeLine) → ShowsL X.prog X.w s.heap us ds
  | [], vs, us, h, r, _, _ => by
    cases h
    cases r
    exact showsL_nil
  | d :: ds, vs, us, h, r, sh, sz => by
    have sh' : d.showable = true ∧ PyData.showableAll ds = true := by simpa [PyData.showableAll] using sh
    simp only [PyData.shownAll] at sz
    cases h with
    | cons h1 h2 =>
      cases r with
      | cons r1 r2 => exact showsL_cons (any_shows I d _ _ h1 r1 sh'.1 (sz _ List.mem_cons_self)) (any_showsL I ds _ _ h2 r2 sh'.2 fun t ht => sz t (List.mem_cons_of_mem _ ht))
theorem any_showsK (I : Inv X pins σ H s) : ∀ (ds : List (PyData × PyData)) (kvs : List (Key × V)) (us : List (Key × Value)) (es : List DictEntry), AnyK H kvs ds → KV kvs us → Pairs (mixKind X.prog X.w) es us → PyData.showableKv ds = true →
    (∀ t ∈ PyData.shownKv ds, t.length ≤ sizeLine) → ShowsL X.prog X.w s.heap (es.map (·.key)) (ds.map (·.1)) ∧ ShowsL X.prog X.w s.heap (es.map (·.val)) (ds.map (·.2))
  | [], vs, us, es, h, r, p, _, _ => by
    cases h
    cases r
    cases p
    exact ⟨showsL_nil, showsL_nil⟩
  | (kd, d) :: ds, vs, us, es, h, r, p, sh, sz => by
    have sh' : (kd.showable = true ∧ d.showable = true) ∧ PyData.showableKv ds = true := by simpa [PyData.showableKv] using sh
    simp only [PyData.shownKv] at sz
    have top := sz _ List.mem_cons_self
    rw [strLen_append, strLen_append] at top
    cases h with
    | cons h1 h2 =>
      cases r with
      | cons r1 r2 =>
        rename_i k v vs' q us'
        obtain ⟨kq, uq⟩ := q
        obtain ⟨ek, r1⟩ := r1
        cases (show k = kq from ek)
        cases p with
        | cons hk hv hp =>
          obtain ⟨x, y⟩ := any_showsK I ds _ _ _ h2 r2 hp sh'.2 fun t ht => sz t (List.mem_cons_of_mem _ ht)
          refine ⟨showsL_cons (key_shows k _ hk sh'.1.1 (by omega)) x, ?_⟩
          have e := any_shows I d _ _ h1 r1 sh'.1.2 (by omega)
          rw [← hv] at e
          exact showsL_cons e y
end
/-- repr of data that lies at an address -/
def rRepr : List V → Hp → VK → Prop := fun xs H Q => ∃ (a : Addr) (d : PyData), xs = [.ref a] ∧ Any H (.ref a) d ∧ d.showable = true ∧ d.depth ≤ 60 ∧ d.shown.length ≤ sizeLine ∧ Q (.str d.shown) H
theorem call_repr (gu : X.A.guards = some []) (hu : X.A.units + 64 < cLine) : CallR X (.builtin "repr") rRepr := by
  intro pins s σ H xs us Q I r h
  obtain ⟨a, d, e, an, sh, dp, sz, q⟩ := h
  subst e
  obtain ⟨u, e, ru⟩ := vals1 r
  subst e
  cases (show u = Value.ref a from ru)
  have fin : ∀ h' u tk, (∀ b o, s.heap.get? b = some o → h'.get? b = some o) → EP X pins σ Q (.str d.shown u) { s with heap := h', toks := tk } := fun h' t tk keep => ⟨V.str d.shown, H, Inv.kept I keep, ⟨t, rfl⟩, q⟩
  have gu1 : X.A.in1.guards = some [] := gu
  have un1 : X.A.in1.units = X.A.units + 1 := rfl
  cases an with
  | lst ea ha =>
    rename_i xs ds
    obtain ⟨us, o, n, L, rv⟩ := lst_at I ea
    have z : (listText (PyData.shownAll ds)).length ≤ sizeLine := by simpa only [PyData.shown] using sz
    have D : (PyData.list ds).depth = PyData.depthAll ds + 1 := by simp only [PyData.depth]
    obtain ⟨as, rd, bs, m, k⟩ := any_showsL I ds xs us ha rv (by simpa [PyData.showable] using sh) fun t ht => Nat.le_trans (listText_mem_le ht) z
    have ty : s.TypeIs (.ref a) "list" := ⟨o, L.get, L.cls⟩
    refine call_repr_slot (by omega) ty F.slot_list_repr.toG ?_
    simp only [PyData.shown] at fin
    cases us with
    | nil =>
      cases rd
      simp only [PyData.shownAll, listText_nil] at fin
      exact call_list_repr_empty ty L.get L.dat ⟨_, _, rfl, fin s.heap _ _ fun _ _ z => z⟩
    | cons u us => exact call_list_reprK L.get L.cls L.dat (off_of (list_reads L rd) D m) (by simpa using k.length_eq) (fun i y e => k.item i y (by simpa using e)) gu1 (fun b _ => Clear.nil b) (by omega) (fun _ _ z => z) (fun h' t tk keep => ⟨_, _, rfl, fin h' t tk keep⟩) z
  | tup ea ha =>
    rename_i xs ds
    obtain ⟨us, o, n, L, rv⟩ := tup_at I ea
    have z : (tupleText (PyData.shownAll ds)).length ≤ sizeLine := by simpa only [PyData.shown] using sz
    have D : (PyData.tuple ds).depth = PyData.depthAll ds + 1 := by simp only [PyData.depth]
    obtain ⟨as, rd, bs, m, k⟩ := any_showsL I ds xs us ha rv (by simpa [PyData.showable] using sh) fun t ht => Nat.le_trans (tupleText_mem_le ht) z
    refine call_repr_slot (by omega) ⟨o, L.get, L.cls⟩ F.slot_tuple_repr ?_
    simp only [PyData.shown] at fin
    exact call_tuple_reprK L.get L.cls L.dat (off_of (tuple_reads L rd) D m) k gu1 (fun b _ => Clear.nil b) (by omega) (fun _ _ z => z) (fun h' t tk keep => ⟨_, _, rfl, fin h' t tk keep⟩) z
  | dct ea ha =>
    rename_i kvs ds
    obtain ⟨vs, es, o, n, L, rel, p⟩ := dct_at I ea
    have z : (dictText (PyData.shownKv ds)).length ≤ sizeLine := by simpa only [PyData.shown] using sz
    have D : (PyData.dict ds).depth = PyData.depthKv ds + 1 := by simp only [PyData.depth]
    obtain ⟨x, y⟩ := any_showsK I ds kvs vs es.toList ha rel p (by simpa [PyData.showable] using sh) fun t ht => Nat.le_trans (dictText_mem_le ht) z
    obtain ⟨_, bs, m, na, k⟩ := shows_dict L x y
    refine call_repr_slot (by omega) ⟨o, L.get, L.cls⟩ F.slot_dict_repr ?_
    simp only [PyData.shown] at fin
    exact call_dict_reprK L.get L.cls L.dat L.off na k gu1 (fun b _ => Clear.nil b) (by omega) (fun _ _ z => z) (fun h' t tk keep => ⟨_, _, rfl, fin h' t tk keep⟩) z
/-- repr of a truth value -/
def boolS (b : Bool) : Str := if b then "True" else "False"
theorem call_reprB : CallR X (.builtin "repr") (fun xs H Q => ∃ b, xs = [.bl b] ∧ Q (.str (boolS b)) H) := by
  intro pins s σ H xs us Q I r h
  obtain ⟨b, e, q⟩ := h
  subst e
  obtain ⟨u, e, ru⟩ := vals1 r
  subst e
  cases (show u = Value.bool b from ru)
  exact PySem.P.repr_of_bool ⟨V.str (boolS b), H, I.tok _, ⟨_, rfl⟩, q⟩
end
end Rw

set_option Elab.async false
set_option linter.all false
set_option maxRecDepth 100000
set_option maxHeartbeats 4000000
/-! TkD: try with several except clauses, each with a name or without. -/
namespace Rw
open PySem PySem.Spec PyProof.Rows L2

/-- a clause: its class, the slot of its name, its suite -/
structure Cl where
  c : Value
  slot : Option Nat
  ts : Addr → Value → Option Addr → TS
/-- the suite with the error at a, its name bound ahead of it and gone behind it -/
def Cl.run (q : Cl) (a : Addr) (cls : Value) (d : Option Addr) : TS := fun D σ H => match q.slot with
  | none => q.ts a cls d D σ H
  | some i => q.ts a cls d { nx := fun τ J => D.nx (τ.set i none) J, rt := D.rt, bk := fun τ J => D.bk (τ.set i none) J, ct := fun τ J => D.ct (τ.set i none) J } (σ.set i (some (.ref a))) H
/-- what the clauses wish of an error -/
def wCls (K : PySem.W.Frag) (Wo : WX) (D : Ends) : List Cl → WX
  | [] => Wo
  | q :: r => fun cls d σ H => ∃ b, PySem.W.exmOne K cls q.c = some b ∧ (b = true → ∀ a, H a = none → q.run a cls d D σ H) ∧ (b = false → wCls K Wo D r cls d σ H)
def SuiteOk (X : Cx) (sts : List Stmt) (ts : Addr → Value → Option Addr → TS) : Prop :=
  ∀ (a : Addr) (oe : Obj) (cls : Value) (d : Option Addr) (pn : List (Addr × Obj)), Zc cls d oe → (∃ vs, oe.data = .fields vs) → PSs (X.suite a ((a, oe) :: pn)) sts (ts a cls d)
inductive ClsOk (X : Cx) : List ExceptHandler → List Cl → Prop
  | nil : ClsOk X [] []
  | anon {x : Str} {c : Value} {ts : Addr → Value → Option Addr → TS} {st : Stmt} {sts : List Stmt} {np hp : Pos} {hs : List ExceptHandler} {l : List Cl} (hc : Names X x c) (ok : SuiteOk X (st :: sts) ts) (r : ClsOk X hs l) :
      ClsOk X (.ExceptHandler (some (.Name x np)) none (st :: sts) hp :: hs) (⟨c, none, ts⟩ :: l)
  | as {x n : Str} {i : Nat} {c : Value} {ts : Addr → Value → Option Addr → TS} {st : Stmt} {sts : List Stmt} {np hp : Pos} {hs : List ExceptHandler} {l : List Cl} (hi : X.N[i]? = some n) (hl : X.env.kindOf n = some .local) (hc : Names X x c)
      (ok : SuiteOk X (st :: sts) ts) (r : ClsOk X hs l) : ClsOk X (.ExceptHandler (some (.Name x np)) (some n) (st :: sts) hp :: hs) (⟨c, some i, ts⟩ :: l)

section
variable {X : Cx}
/-- what stands when an error has landed in this frame -/
structure Down (X : Cx) (B : Heap) (pins : List (Addr × Obj)) (σ : L2.St) (H : Hp) (a : Addr) (cls : Value) (d : Option Addr) (sI s : Shared) : Prop where
  inv : Inv X pins σ H sI
  nb : ∀ b o, sI.heap.get? b = some o → b ∉ frs X.stack → B.get? b = some o
  os : s.os = sI.os
  ag : AllBare s.gens
  free : H a = none
  up : sI.heap.UpToSlots s.heap
  fly : HandSPX.FlyingZ B (X.env :: X.outer) a (Zc cls d) s.heap
theorem Down.goes {B : Heap} {pins : List (Addr × Obj)} {σ : L2.St} {H : Hp} {a : Addr} {cls : Value} {d : Option Addr} {sI s : Shared} (W : Down X B pins σ H a cls d sI s) : Inv X pins σ H s :=
  Inv.landed W.inv W.nb W.fly.1 W.up W.os W.ag
theorem Down.more {B : Heap} {pins : List (Addr × Obj)} {σ : L2.St} {H : Hp} {a : Addr} {cls : Value} {d : Option Addr} {sI s : Shared} {h : Heap} (W : Down X B pins σ H a cls d sI s)
    (fl : HandSPX.FlyingZ B (X.env :: X.outer) a (Zc cls d) h) (u : s.heap.UpToSlots h) : Down X B pins σ H a cls d sI { s with heap := h } :=
  ⟨W.inv, W.nb, W.os, W.ag, W.free, Heap.UpToSlots.trans W.up u, fl⟩
/-- the error's own object: none of the frames -/
theorem Down.off {B : Heap} {pins : List (Addr × Obj)} {σ : L2.St} {H : Hp} {a : Addr} {cls : Value} {d : Option Addr} {sI s : Shared} (W : Down X B pins σ H a cls d sI s) (hf : X.env.frame = some X.env.locals) :
    a ≠ X.env.locals ∧ a ∉ X.fs := by
  obtain ⟨oe, vs, he, _, hd⟩ := W.fly.there
  have no : a ∉ frs (X.env :: X.outer) := fun hm => by
    obtain ⟨_, o, e, nf⟩ := Heap.FunFrames.mem W.fly.2.2.1 hm
    rw [he] at e
    cases e
    exact nf vs hd
  constructor
  · intro z
    exact no (List.mem_filterMap.mpr ⟨X.env, List.mem_cons_self, hf.trans (congrArg some z.symm)⟩)
  · intro hm
    obtain ⟨e, he, q⟩ := List.mem_filterMap.mp hm
    exact no (List.mem_filterMap.mpr ⟨e, List.mem_cons_of_mem X.env he, q⟩)
/-- in the suite -/
theorem Down.suite {B : Heap} {pins : List (Addr × Obj)} {σ : L2.St} {H : Hp} {a : Addr} {cls : Value} {d : Option Addr} {sI s : Shared} (W : Down X B pins σ H a cls d sI s) (hf : X.env.frame = some X.env.locals) :
    ∃ oe : Obj, s.heap.get? a = some oe ∧ Zc cls d oe ∧ (∃ vs, oe.data = .fields vs) ∧ Inv (X.suite a ((a, oe) :: (X.pn ++ pins))) [] σ H s := by
  obtain ⟨oe, vs, he, hz, hd⟩ := W.fly.there
  obtain ⟨n1, n2⟩ := W.off hf
  exact ⟨oe, he, hz, ⟨vs, hd⟩, Inv.suite W.goes he hd W.free n1 n2⟩

/-- the class of a clause is looked up, and asked -/
theorem Down.asks {B : Heap} {pins : List (Addr × Obj)} {σ : L2.St} {H : Hp} {a : Addr} {cls c : Value} {d : Option Addr} {sI s : Shared} {x : Str} {np : Pos} {b : Bool} {E : Value → Shared → Prop} {Q : Bool → Shared → Prop}
    (W : Down X B pins σ H a cls d sI s) (hf : X.env.frame = some X.env.locals) (hc : Names X x c) (hb : PySem.W.exmOne X.K cls c = some b) (q : Q b s) :
    wpAny (model X.prog X.w) (X.A.mark (some (.ref a))) (eval (.Name x np) X.env) (fun v s' => v = c ∧ s' = s) E s := by
  obtain ⟨oe, he, hz, _, S⟩ := W.suite hf
  obtain ⟨hg, hdbg, hm⟩ := hc
  rcases hm with hm | ⟨hm, hv, hn⟩
  · exact ld_glob (X := X.suite a ((a, oe) :: (X.pn ++ pins))) S hg hm ⟨rfl, rfl⟩ hdbg
  · exact ld_blt (X := X.suite a ((a, oe) :: (X.pn ++ pins))) S hg hm hv ⟨rfl, rfl⟩ hn hdbg

/-- the clauses, one after the other -/
theorem Down.clauses {B : Heap} {pins : List (Addr × Obj)} {σ : L2.St} {H : Hp} {a : Addr} {cls : Value} {d : Option Addr} {sI : Shared} {Wo : WX} {D : Ends} (hs : X.stack = X.env :: X.outer) (hf : X.env.frame = some X.env.locals) (hN : X.N.Nodup) (tk : Takes X Wo) :
    ∀ {hds : List ExceptHandler} {l : List Cl}, ClsOk X hds l → ∀ {s : Shared}, Down X B pins σ H a cls d sI s → wCls X.K Wo D l cls d σ H → wpAny (model X.prog X.w) X.A (handleBy (.ref a) X.env hds) (SP X pins D) X.xe s := by
  intro hds l hk
  induction hk with
  | nil =>
    intro s W wish
    refine wpAny_handleBy_nil ?_
    obtain ⟨_, _, _, oe, vs, T, oT, ts, he, hz, hd, h1, hr⟩ := id W.fly
    have nT : ¬ ((Value.ref T == Value.none) = true) := by simp
    unfold PySem.passOn
    refine wpAny_bind (wpAny_field he hd h1 ?_)
    rw [if_neg nT]
    have out : wpAny (model X.prog X.w) X.A (setFlight (.ref a) X.env.frame) (fun _ s4 => wpAny (model X.prog X.w) X.A (throw (.ref a) : Sem Flow) (SP X pins D) X.xe s4) X.xe s := by
      rw [hf]
      refine HandSPX.setFlight_upZ W.fly ?_
      intro h4 hh4 up4
      refine wpAny_throw (tk (.ref a) _ ⟨a, B, sI, pins, σ, H, cls, d, rfl, W.inv, W.nb, W.up.trans up4, ?_, W.free, W.os, W.ag, wish⟩)
      rw [hs]
      exact Or.inr (Or.inr hh4)
    first
      | exact wpAny_bind (wpAny_pure (wpAny_bind out))
      | exact wpAny_bind out
  | @anon x c ts st sts np hp hs' l' hc ok r ih =>
    intro s W wish
    obtain ⟨b, hb, yes, no⟩ := wish
    refine wpAny_handleBy_cons (codeAny_handlers_test ?_) (fun q => nomatch q)
    refine wpAny_mono (W.asks (E := fun _ _ => False) (Q := fun _ _ => True) hf hc hb True.intro) ?_ (fun _ _ z => z.elim)
    rintro v s' ⟨rfl, rfl⟩
    obtain ⟨oe, he, hz, hd, S⟩ := W.suite hf
    have LT : PySem.W.Looks (model X.prog X.w) s'.heap (typeOf (.ref a)) cls := fun A Q E s2 k q => wpAny_typeOf_ref (k a oe he) (by rw [hz.1]; exact q)
    refine (PySem.W.exm_one (M := model X.prog X.w) S.kIn LT hb).here ?_
    cases b with
    | false => exact ih W (no rfl)
    | true =>
      refine codeAny_handlers_suite (HandSPX.lands_againZ W.fly ?_)
      intro h4 fl4 up4
      obtain ⟨oe4, he4, hz4, hd4, S4⟩ := (W.more fl4 up4).suite hf
      refine wpAny_mono (PSs.run (ok a oe4 cls d (X.pn ++ pins) hz4 hd4) [] _ σ H D S4 (yes rfl a W.free)) ?_ (fun _ _ z => z.elim)
      intro fl s6 hsp
      have ok0 := W.inv.ok
      cases fl with
      | ret u =>
        obtain ⟨v6, σ6, H6, S6, r6, q6⟩ := hsp
        exact ⟨v6, σ6, H6, Inv.unsuite S6 ok0, r6, q6⟩
      | next =>
        obtain ⟨σ6, H6, S6, q6⟩ := hsp
        exact ⟨σ6, H6, Inv.unsuite S6 ok0, q6⟩
      | brk =>
        obtain ⟨σ6, H6, S6, q6⟩ := hsp
        exact ⟨σ6, H6, Inv.unsuite S6 ok0, q6⟩
      | cont =>
        obtain ⟨σ6, H6, S6, q6⟩ := hsp
        exact ⟨σ6, H6, Inv.unsuite S6 ok0, q6⟩
  | @as x n i c ts st sts np hp hs' l' hi hl hc ok r ih =>
    intro s W wish
    obtain ⟨b, hb, yes, no⟩ := wish
    refine wpAny_handleBy_cons (codeAny_handlers_test ?_) (fun q => nomatch q)
    refine wpAny_mono (W.asks (E := fun _ _ => False) (Q := fun _ _ => True) hf hc hb True.intro) ?_ (fun _ _ z => z.elim)
    rintro v s' ⟨rfl, rfl⟩
    obtain ⟨oe, he, hz, hd, S⟩ := W.suite hf
    have LT : PySem.W.Looks (model X.prog X.w) s'.heap (typeOf (.ref a)) cls := fun A Q E s2 k q => wpAny_typeOf_ref (k a oe he) (by rw [hz.1]; exact q)
    refine (PySem.W.exm_one (M := model X.prog X.w) S.kIn LT hb).here ?_
    cases b with
    | false => exact ih W (no rfl)
    | true =>
      refine codeAny_handlers_suite_as (HandSPX.lands_againZ W.fly ?_)
      intro h4 fl4 up4
      obtain ⟨oe4, he4, hz4, hd4, S4⟩ := (W.more fl4 up4).suite hf
      have ok0 := W.inv.ok
      refine store_ok (X := X.suite a ((a, oe4) :: (X.pn ++ pins))) (v := .ref a) S4 hN hi (Or.inl hl) rfl ?_ (Or.inr hl)
      intro s5 S5
      refine wpAny_mono (PSs.run (ok a oe4 cls d (X.pn ++ pins) hz4 hd4) [] s5 _ H _ S5 (yes rfl a W.free)) ?_ (fun _ _ z => z.elim)
      intro fl s6 hsp
      have gone : ∀ {τ : L2.St} {J : Hp} {Q : Shared → Prop}, Inv (X.suite a ((a, oe4) :: (X.pn ++ pins))) [] τ J s6 → (∀ s7, Inv X pins (τ.set i none) J s7 → Q s7) →
          wpAny (model X.prog X.w) X.A (do bindName X.env n .none; unbindBehindTheSuite X.env n hp) (fun _ s7 => Q s7) X.xe s6 := by
        intro τ J Q S6 hq
        exact gone_ok (Inv.unsuite S6 ok0) hN hi hl hq
      cases fl with
      | ret u =>
        obtain ⟨v6, σ6, H6, S6, r6, q6⟩ := hsp
        exact gone S6 (fun s7 J7 => ⟨v6, _, H6, J7, r6, q6⟩)
      | next =>
        obtain ⟨σ6, H6, S6, q6⟩ := hsp
        exact gone S6 (fun s7 J7 => ⟨_, H6, J7, q6⟩)
      | brk =>
        obtain ⟨σ6, H6, S6, q6⟩ := hsp
        exact gone S6 (fun s7 J7 => ⟨_, H6, J7, q6⟩)
      | cont =>
        obtain ⟨σ6, H6, S6, q6⟩ := hsp
        exact gone S6 (fun s7 J7 => ⟨_, H6, J7, q6⟩)

/-- try: body / except ..: .. / except ..: .. -/
theorem ps_tries {body : List Stmt} {h0 : ExceptHandler} {hds : List ExceptHandler} {l : List Cl} {pos : Pos} {tb : WX → TS} {Wo : WX} (hs : X.stack = X.env :: X.outer) (hf : X.env.frame = some X.env.locals) (hN : X.N.Nodup) (tk : Takes X Wo)
    (hb : ∀ (W : WX) (pn : List (Addr × Obj)) (xe : Value → Shared → Prop), Takes (X.tr pn xe) W → PassesOwn (model X.prog X.w) X.A X.env xe → PSs (X.tr pn xe) body (tb W)) (hh : ClsOk X (h0 :: hds) l) :
    PS X (.Try body (h0 :: hds) [] [] pos) (fun D σ H => tb (wCls X.K Wo D l) D σ H) := by
  constructor
  intro pins s σ H D I h
  have ok0 := I.ok
  have fr : X.A.frames = some (X.env :: X.outer) := (Cx.Ok.frames ok0).trans (congrArg some hs)
  refine wpAny_Try_except ?_
  have land : ∀ (u : Value) (s' : Shared), XE (X.tr (X.pn ++ pins) (fun e s₁ => wpAny (model X.prog X.w) X.A (noteFrame e X.env) (fun _ s₂ => wpAny (model X.prog X.w) X.A (setFlight e none) (fun _ s₃ =>
      wpAny (model X.prog X.w) X.A (handleBy e X.env (h0 :: hds)) (SP X pins D) X.xe s₃) X.xe s₂) X.xe s₁)) (wCls X.K Wo D l) u s' →
      wpAny (model X.prog X.w) X.A (noteFrame u X.env) (fun _ s₂ => wpAny (model X.prog X.w) X.A (setFlight u none) (fun _ s₃ => wpAny (model X.prog X.w) X.A (handleBy u X.env (h0 :: hds)) (SP X pins D) X.xe s₃) X.xe s₂) X.xe s' := by
    intro u s' xx
    obtain ⟨a, B, sI, pins', τ, J, cls, d, eu, I', nb, up, sky, na, os, ag, wish⟩ := xx
    subst eu
    have sky2 : Sky B (X.env :: X.outer) a (Zc cls d) X.env.locals s'.heap := hs ▸ sky
    refine Sky.land Zc.steady fr hf sky2 ?_
    intro h3 fl3 up3
    exact Down.clauses hs hf hN tk hh ⟨Inv.ofTry I' ok0, nb, os, ag, na, up.trans up3, fl3⟩ wish
  refine wpAny_mono (PSs.run (hb (wCls X.K Wo D l) (X.pn ++ pins) _ land PassesOwn.looking) [] s σ H D (Inv.toTry I _) h) ?_ (fun e s1 he => he)
  intro fl s1 hsp
  cases fl with
  | ret u =>
    obtain ⟨v, τ, J, I', r, q⟩ := hsp
    exact ⟨v, τ, J, Inv.ofTry I' ok0, r, q⟩
  | next =>
    obtain ⟨τ, J, I', q⟩ := hsp
    exact wpAny_execs_nil ⟨τ, J, Inv.ofTry I' ok0, q⟩
  | brk =>
    obtain ⟨τ, J, I', q⟩ := hsp
    exact ⟨τ, J, Inv.ofTry I' ok0, q⟩
  | cont =>
    obtain ⟨τ, J, I', q⟩ := hsp
    exact ⟨τ, J, Inv.ofTry I' ok0, q⟩
end
end Rw

set_option Elab.async false
set_option linter.all false
set_option maxRecDepth 100000
set_option maxHeartbeats 4000000
/-! TkE: own defs by name (Own, OwnG), own errors with one value (Err), data kept over heaps, the kinds of things. -/
namespace Rw
open PySem PySem.Spec PyProof.Rows L2

/-! ### a def by its name -/
/-- x names a def that keeps sp when it is called with all but the values dvs -/
structure Own (P : Program) (w : World) (K : PySem.W.Frag) (mg : Str → Option Value) (base : Heap) (CX : CXT) (k : Nat) (x : Str) (ps : List Str) (dvs : List V) (sp : Sp) : Prop where
  has : ∃ (f : Addr) (fd : FuncData) (ds : List Value), mg x = some (.ref f) ∧ PySem.W.keepIn K (.ref f) = true ∧ FnOk P w K mg base CX k f fd ps sp ∧ Binds K fd ps ds ∧ Vals dvs ds
structure OwnG (P : Program) (w : World) (K : PySem.W.Frag) (mg : Str → Option Value) (base : Heap) (CX : CXT) (k : Nat) (x : Str) (ps : List Str) (dvs : List V) (sp : Sp) : Prop where
  has : ∃ (f : Addr) (fd : FuncData) (ds : List Value), mg x = some (.ref f) ∧ PySem.W.keepIn K (.ref f) = true ∧ FnG P w K mg base CX k f fd ps sp ∧ Binds K fd ps ds ∧ Vals dvs ds
/-- where a def of the text stands behind the top -/
structure Df (K : PySem.W.Frag) (mg : Str → Option Value) (x : Str) (st : Stmt) (ps : List Str) : Prop where
  has : ∃ (f : Addr) (fd : FuncData), mg x = some (.ref f) ∧ Fun K x x st f fd ∧ Binds K fd ps []
section
variable {P : Program} {w : World} {K : PySem.W.Frag} {mg : Str → Option Value} {base : Heap} {CX : CXT} {k : Nat} {x : Str} {ps : List Str} {dvs : List V} {sp : Sp} {st : Stmt}
theorem Df.own (D : Df K mg x st ps) (h : ∀ (f : Addr) (fd : FuncData), Fun K x x st f fd → FnOk P w K mg base CX k f fd ps sp) : Own P w K mg base CX k x ps [] sp := by
  obtain ⟨f, fd, g, F, b⟩ := D.has
  exact ⟨f, fd, [], g, F.kp, h f fd F, b, .nil⟩
theorem Df.ownG (D : Df K mg x st ps) (h : ∀ (f : Addr) (fd : FuncData), Fun K x x st f fd → FnG P w K mg base CX k f fd ps sp) : OwnG P w K mg base CX k x ps [] sp := by
  obtain ⟨f, fd, g, F, b⟩ := D.has
  exact ⟨f, fd, [], g, F.kp, h f fd F, b, .nil⟩
end
section
variable {X : Cx} {CX : CXT} {k : Nat} {ps : List Str} {sp : Sp} {dvs : List V} {E : XK} {x : Str} {p pos : Pos} {e : Expr} {es : List Expr} {t : TA}
theorem pe_own (F : Own X.prog X.w X.K X.mg X.base CX k x ps dvs sp) (hr : Room k X.A) (hx : Passes CX X E) (ha : PA X (e :: es) t) (hg : Gl X x := by rfl) (hdb : (x == ("__debug__" : Str)) = false := by decide)
    (he : starEach (e :: es) X.env = (false, eval e X.env) :: starEach es X.env := by rfl) (hpl : (backTo pos (starEach es X.env)).any (·.1) = false := by rfl) : PE X (.Call (.Name x p) (e :: es) [] pos) (tCall sp dvs E t) := by
  obtain ⟨f, fd, ds, hm, hk, G, b, v⟩ := F.has
  exact pe_call G hr hg hm hk b v hx ha hdb he hpl
theorem pe_ownG (F : OwnG X.prog X.w X.K X.mg X.base CX k x ps dvs sp) (gu : X.A.guards = some []) (hr : Room k X.A) (hx : Passes CX X E) (ha : PA X (e :: es) t) (hg : Gl X x := by rfl) (hdb : (x == ("__debug__" : Str)) = false := by decide)
    (he : starEach (e :: es) X.env = (false, eval e X.env) :: starEach es X.env := by rfl) (hpl : (backTo pos (starEach es X.env)).any (·.1) = false := by rfl) : PE X (.Call (.Name x p) (e :: es) [] pos) (tCall sp dvs E t) := by
  obtain ⟨f, fd, ds, hm, hk, G, b, v⟩ := F.has
  exact pe_callG G gu hr hg hm hk b v hx ha hdb he hpl
/-- such a call in a try's body: what is raised is wished for at the slots -/
def tOwnS (sp : Sp) (dvs : List V) (W : WX) (t : TA) : TE := fun σ H Q => t σ H fun vs H1 => sp (vs ++ dvs) H1 Q (fun cls d H' => W cls d σ H')
theorem pe_ownS {W : WX} (F : Own X.prog X.w X.K X.mg X.base CX k x ps dvs sp) (hr : Room k X.A) (hx : ∀ σ, PassesAt CX X σ (fun cls d H' => W cls d σ H')) (ha : PA X (e :: es) t) (hg : Gl X x := by rfl) (hdb : (x == ("__debug__" : Str)) = false := by decide)
    (he : starEach (e :: es) X.env = (false, eval e X.env) :: starEach es X.env := by rfl) (hpl : (backTo pos (starEach es X.env)).any (·.1) = false := by rfl) : PE X (.Call (.Name x p) (e :: es) [] pos) (tOwnS sp dvs W t) := by
  obtain ⟨f, fd, ds, hm, hk, G, b, v⟩ := F.has
  constructor
  intro pins s σ H Q I h
  refine wpAny_Call_Name_kw (ld_glob I hg hm ?_ hdb)
  refine PySem.W.callWith_K (h₀ := X.base) I.ok.mod.kin hk ?_ he hpl
  refine thn (PA.run ha pos pins s σ H _ I h) ?_
  intro us s1 hh
  obtain ⟨vs, H1, I1, r, q⟩ := hh
  refine ⟨I1.kIn, ?_⟩
  have r2 : Vals (vs ++ dvs) (us ++ ds) := Vals.append r v
  have cnt : (us ++ ds).length = ps.length := (r2.length).symm.trans (G.len _ _ _ _ q)
  refine wpAny_call (codeAny_mono (G.run X.A X.stack s1 H1 ⟨us, []⟩ (us ++ ds) (vs ++ dvs) Q _ hr I1.env0 (b s1 us I1.kIn cnt) r2 q) ?_)
  intro res s2 hq
  cases res with
  | error er => exact hx σ pins H1 s1 er s2 I1 hq
  | ok fl =>
    cases fl with
    | ret u => exact Inv.after I1 hq
    | next => exact hq.elim
    | brk => exact hq.elim
    | cont => exact hq.elim
end

/-! ### own errors: a class with __init__(self, value): self.value = value -/
/-- x names such a class, at C -/
structure Err (K : PySem.W.Frag) (mg : Str → Option Value) (x : Str) (C : Addr) : Prop where
  g : mg x = some (.ref C)
  ox : OexC K C
  xf : XfC K C
  no : PySem.W.findIn K (.ref C) "value" = some none
  ini : ∃ (f : Addr) (q : Str) (st : Stmt) (fd : FuncData), PySem.W.findIn K (.ref C) "__init__" = some (some (.ref f)) ∧ PySem.W.typeIn K (.ref f) = some (.type "function") ∧ Fun K "__init__" q st f fd ∧ Binds K fd ["self", "value"] [] ∧
    FnScope ["self", "value"] ["self", "value"] (defScope st) ∧
    (∀ X : Cx, X.N = (["self", "value"] : List Str) → X.env.scope = defScope st → ∃ t : TS, PSs X (defBody st) t ∧ (∀ D σ H, tOst X.K "value" (tVar 0) (tVar 1) D σ H → t D σ H))
/-- an error of the class at C with the value v is let out, all else as it was -/
def Thrown (C : Addr) (v : V) (H : Hp) (E : XK) : Prop := ∀ (d : Addr) (H' : Hp), Same H H' → H d = none → H' d = some (.xd [(("value" : Str), v)]) → E (.ref C) (some d) H'
def spIni (K : PySem.W.Frag) (C : Addr) : Sp := fun vs H Q _ => ∃ (a : Addr) (v : V), vs = [.ref a, v] ∧ H a = some (exo a C none) ∧ ∀ dx, H dx = none → dx ≠ a → Q .non (upd (upd H dx (exd dx [(("value" : Str), v)])) a (exo a C (some dx)))
section
variable {P : Program} {w : World} {K : PySem.W.Frag} {mg : Str → Option Value} {base : Heap}
theorem Err.init {x : Str} {C : Addr} (T : Err K mg x C) : ∃ (f : Addr) (fd : FuncData), PySem.W.findIn K (.ref C) "__init__" = some (some (.ref f)) ∧ PySem.W.typeIn K (.ref f) = some (.type "function") ∧ Binds K fd ["self", "value"] [] ∧
    FnOk P w K mg base CX0 1 f fd ["self", "value"] (spIni K C) := by
  obtain ⟨f, q, st, fd, h1, h2, F, b, S, dv⟩ := T.ini
  refine ⟨f, fd, h1, h2, b, F.ok S (fun vs H Q E h => ?_) (fun cdv A outer s H vs Q E hr h => ?_)⟩
  · obtain ⟨a, v, e, _⟩ := h
    rw [e]
    rfl
  · obtain ⟨a, v, e, ea, k⟩ := h
    subst e
    obtain ⟨t, d, go⟩ := dv (cxOf CX0 P w K mg base ["self", "value"] q (defScope st) f cdv A outer s H E).nox rfl rfl
    refine ⟨t, d, go _ _ _ ?_⟩
    exact ⟨v, rfl, .ref a, rfl, a, C, rfl, T.ox, T.no, Or.inl ⟨ea, k⟩⟩
end
section
variable {X : Cx} {x : Str} {C : Addr} {e : Expr} {te : TE} {p pos pos2 : Pos} {W : WX}
/-- raise x(e) -/
def tThrow (K : PySem.W.Frag) (C : Addr) (W : WX) (te : TE) : TS := fun _ σ H => tMkO C (spIni K C) [] (tCons te tNil) σ H fun cls d H' => W cls d σ H'
theorem ps_throw (T : Err X.K X.mg x C) (hc : X.calm = true) (hr : Room 2 X.A) (tk : Takes X W) (he : PE X e te) (hg : Gl X x := by rfl) (hdb : (x == ("__debug__" : Str)) = false := by decide)
    (hs : starEach (e :: []) X.env = (false, eval e X.env) :: starEach [] X.env := by rfl) (hpl : (backTo pos (starEach [] X.env)).any (·.1) = false := by rfl) :
    PS X (.Raise (some (.Call (.Name x p) [e] [] pos)) none pos2) (tThrow X.K C W te) := by
  obtain ⟨f, fd, h1, h2, b, F⟩ := T.init (P := X.prog) (w := X.w) (base := X.base)
  exact ps_raise (pos := pos2) hc tk (pmk_oex (x := x) (p := p) (pos := pos) (dvs := []) (ds := []) T.ox h1 h2 F hr b .nil pass0 hg T.g (pa_cons he pa_nil hs) hdb hs hpl)
/-- what the reading of a raise asks, from Thrown -/
theorem thrown_go {K : PySem.W.Frag} {H : Hp} {E : XK} {v : V} (h : Thrown C v H E) : [v].length ≤ 1000 ∧ ∀ a, H a = none → spIni K C (.ref a :: ([v] ++ [])) (upd H a (exo a C none))
    (fun u H2 => u = .non ∧ ∃ (d : Addr) (fs : List (Str × V)), H2 a = some (exo a C (some d)) ∧ H2 d = some (exd d fs) ∧ H d = none ∧ E (.ref C) (some d) (upd (del H2 a) d (.xd fs))) (fun _ _ _ => False) := by
  refine ⟨by show 1 ≤ 1000; decide, fun a ha => ⟨a, v, rfl, upd_same, fun dx hd ne => ⟨rfl, dx, _, upd_same, by rw [upd_ne ne, upd_same], ?_, ?_⟩⟩⟩
  · rw [upd_ne ne] at hd
    exact hd
  · rw [upd_ne ne] at hd
    refine h dx _ (fun b o e => ?_) hd upd_same
    rw [upd_ne (ne_of_none e hd), del_ne (ne_of_none e ha), upd_ne (ne_of_none e ha), upd_ne (ne_of_none e hd), upd_ne (ne_of_none e ha)]
    exact e
end
end Rw

set_option Elab.async false
set_option linter.all false
set_option maxRecDepth 100000
set_option maxHeartbeats 4000000
/-! TkF: the kinds of data, what data is kept over heaps, numbers among the primes. -/
namespace Rw
open PySem PySem.Spec PyProof.Rows L2

/-! ### kinds -/
def kindS : PyData → String
  | .none => "NoneType" | .bool _ => "bool" | .int _ => "int" | .str _ => "str" | .list _ => "list" | .tuple _ => "tuple" | .dict _ => "dict"
def intish : PyData → Bool
  | .int _ => true | .bool _ => true | _ => false
def boolish : PyData → Bool
  | .bool _ => true | _ => false
def isIntD : PyData → Bool
  | .int _ => true | _ => false
section
variable {K : PySem.W.Frag} {H H' : Hp} {v : V} {d : PyData}
theorem any_ty (h : Any H v d) : TyX K H v (.type (kindS d)) := by
  cases h with
  | non => exact .base .non
  | bl b => exact .base (.bl b)
  | int i => exact .base (.int i)
  | str x => exact .base (.str x)
  | lst e _ => exact .base (.lst e)
  | tup e _ => exact .base (.tup e)
  | dct e _ => exact .base (.dK e)
theorem kit_int (d : PyData) : PySem.W.kitOne K (.type (kindS d)) (.type "int") = some (intish d) := by
  cases d with
  | none => exact kit_ty (show kitB "NoneType" "int" = some false by decide +kernel)
  | bool b => exact kit_ty (show kitB "bool" "int" = some true by decide +kernel)
  | int i => exact kit_ty (show kitB "int" "int" = some true by decide +kernel)
  | str x => exact kit_ty (show kitB "str" "int" = some false by decide +kernel)
  | list xs => exact kit_ty (show kitB "list" "int" = some false by decide +kernel)
  | tuple xs => exact kit_ty (show kitB "tuple" "int" = some false by decide +kernel)
  | dict kvs => exact kit_ty (show kitB "dict" "int" = some false by decide +kernel)
theorem kit_bool (d : PyData) : PySem.W.kitOne K (.type (kindS d)) (.type "bool") = some (boolish d) := by
  cases d with
  | none => exact kit_ty (show kitB "NoneType" "bool" = some false by decide +kernel)
  | bool b => exact kit_ty (show kitB "bool" "bool" = some true by decide +kernel)
  | int i => exact kit_ty (show kitB "int" "bool" = some false by decide +kernel)
  | str x => exact kit_ty (show kitB "str" "bool" = some false by decide +kernel)
  | list xs => exact kit_ty (show kitB "list" "bool" = some false by decide +kernel)
  | tuple xs => exact kit_ty (show kitB "tuple" "bool" = some false by decide +kernel)
  | dict kvs => exact kit_ty (show kitB "dict" "bool" = some false by decide +kernel)
theorem int_of (h : Any H v d) (e : isIntD d = true) : ∃ n, d = .int n ∧ v = .int n := by
  cases h with
  | int i => exact ⟨i, rfl, rfl⟩
  | _ => cases e
mutual
theorem any_keep (k : Same H H') : ∀ (d : PyData) (v : V), Any H v d → Any H' v d
  | .none, _, h => by
    cases h
    exact .non
  | .bool b, _, h => by
    cases h
    exact .bl b
  | .int i, _, h => by
    cases h
    exact .int i
  | .str x, _, h => by
    cases h
    exact .str x
  | .list ds, _, h => by
    cases h with
    | lst e a => exact .lst (k _ _ e) (any_keepL k ds _ a)
  | .tuple ds, _, h => by
    cases h with
    | tup e a => exact .tup (k _ _ e) (any_keepL k ds _ a)
  | .dict ds, _, h => by
    cases h with
    | dct e a => exact .dct (k _ _ e) (any_keepK k ds _ a)
theorem any_keepL (k : Same H H') : ∀ (ds : List PyData) (vs : List V), AnyL H vs ds → AnyL H' vs ds
  | [], _, h => by
    cases h
    exact .nil
  | d :: ds, _, h => by
    cases h with
    | cons a b => exact .cons (any_keep k d _ a) (any_keepL k ds _ b)
theorem any_keepK (k : Same H H') : ∀ (ds : List (PyData × PyData)) (vs : List (Key × V)), AnyK H vs ds → AnyK H' vs ds
  | [], _, h => by
    cases h
    exact .nil
  | (_, d) :: ds, _, h => by
    cases h with
    | cons a b => exact .cons (any_keep k d _ a) (any_keepK k ds _ b)
end
theorem Any.keep (h : Any H v d) (k : Same H H') : Any H' v d := any_keep k d v h
end

/-! ### all but one object -/
/-- what was tracked but at p is as it was -/
def Grow (p : Addr) (H H' : Hp) : Prop := ∀ b o, b ≠ p → H b = some o → H' b = some o
theorem Grow.refl {p : Addr} {H : Hp} : Grow p H H := fun _ _ _ e => e
theorem Grow.trans {p : Addr} {H H1 H2 : Hp} (a : Grow p H H1) (b : Grow p H1 H2) : Grow p H H2 := fun c o n e => b c o n (a c o n e)
theorem Grow.of {p : Addr} {H H' : Hp} (a : Same H H') : Grow p H H' := fun c o _ e => a c o e
theorem Grow.put {p : Addr} {H : Hp} {o : HO} : Grow p H (upd H p o) := fun c u n e => by
  rw [upd_ne n]
  exact e
theorem Grow.del {p : Addr} {H H' : Hp} (a : Grow p H H') : Same (del H p) (del H' p) := fun c o e => by
  by_cases z : c = p
  · rw [z, del_same] at e
    cases e
  · rw [del_ne z] at e
    rw [del_ne z]
    exact a c o z e
theorem same_del {p : Addr} {H : Hp} : Same (del H p) H := fun c o e => by
  by_cases z : c = p
  · rw [z, del_same] at e
    cases e
  · rw [del_ne z] at e
    exact e
theorem same_new {p : Addr} {H : Hp} {o : HO} (h : H p = none) : Same H (upd H p o) := fun c u e => by
  rw [upd_ne (ne_of_none e h)]
  exact e
theorem del_new {p q : Addr} {H : Hp} {o : HO} (h : H q = none) : Same (del H p) (del (upd H q o) p) := Grow.del (Grow.of (same_new h))
theorem ne_new {H : Hp} {p q : Addr} {o : HO} (hp : H p = some o) (h : H q = none) : q ≠ p := (ne_of_none hp h).symm

/-! ### the primes -/
def primesL : List Int := [2, 3, 5, 7, 11, 13]
def isPr : PyData → Bool
  | .int n => decide (n ∈ primesL)
  | _ => false
theorem inV_ints (n : Int) : ∀ l : List Int, inV (.int n) (l.map V.int) = decide (n ∈ l)
  | [] => rfl
  | a :: l => by
    show (eqV (.int a) (.int n) || inV (.int n) (l.map V.int)) = _
    rw [inV_ints n l]
    show ((a == n) || decide (n ∈ l)) = _
    by_cases h : a = n
    · subst h
      simp
    · have h2 : ¬ n = a := fun z => h z.symm
      simp [h, h2]
theorem flat_ints : ∀ l : List Int, (l.map V.int).all flatV = true
  | [] => rfl
  | a :: l => by
    show (true && (l.map V.int).all flatV) = true
    rw [flat_ints l] <;> rfl
theorem prime_cases {p : Int} (h : p ∈ primesL) : p = 2 ∨ p = 3 ∨ p = 5 ∨ p = 7 ∨ p = 11 ∨ p = 13 := by
  simpa [primesL] using h
theorem prime_pos {p : Int} (h : p ∈ primesL) : 2 ≤ p ∧ p ≤ 13 := by
  rcases prime_cases h with e | e | e | e | e | e <;> omega
/-- a number that is no multiple of the prime has an inverse -/
theorem has_inverse {p n : Int} (h : p ∈ primesL) (hn : n % p ≠ 0) : ∃ j : Nat, ((j : Int) + 1) < p ∧ ((1 + (j : Int)) * n) % p = 1 := by
  have key : ∀ (p : Int) (r : Int), p ∈ primesL → 0 ≤ r → r < p → r ≠ 0 → ∃ j : Nat, ((j : Int) + 1) < p ∧ ((1 + (j : Int)) * r) % p = 1 := by
    intro p r hp h0 h1 h2
    have c : ∀ p ∈ [2, 3, 5, 7, 11, 13], ∀ r ∈ List.range p, r ≠ 0 → ∃ j ∈ List.range 12, j + 1 < p ∧ ((1 + j) * r) % p = 1 := by decide +kernel
    obtain ⟨j, _, a, b⟩ := c p.toNat (by rcases prime_cases hp with e | e | e | e | e | e <;> subst e <;> decide) r.toNat (List.mem_range.mpr (by omega)) (by omega)
    refine ⟨j, by omega, ?_⟩
    have e1 : ((p.toNat : Nat) : Int) = p := Int.toNat_of_nonneg (by omega)
    have e2 : ((r.toNat : Nat) : Int) = r := Int.toNat_of_nonneg h0
    have b2 : ((((1 + j) * r.toNat % p.toNat : Nat)) : Int) = ((1 : Nat) : Int) := by rw [b]
    rw [Int.natCast_emod, Int.natCast_mul, e1, e2, Int.natCast_add] at b2
    exact b2
  have hp := prime_pos h
  obtain ⟨j, a, b⟩ := key p (n % p) h (Int.emod_nonneg n (by omega)) (Int.emod_lt_of_pos n (by omega)) hn
  refine ⟨j, a, ?_⟩
  rw [Int.mul_emod, Int.emod_emod_of_dvd n (Int.dvd_refl p), ← Int.mul_emod] at b
  exact b
theorem fmod_pos {a b : Int} (h : 0 < b) : a.fmod b = a % b := Int.fmod_eq_emod_of_nonneg a (by omega)
end Rw

set_option Elab.async false
set_option linter.all false
set_option maxRecDepth 100000
set_option maxHeartbeats 4000000
/-! TkG: what stands behind the top, as facts that the kernel is asked. -/
namespace Rw
open PySem PySem.Spec PyProof.Rows L2
/-- a def of the text stands at f under the name x -/
def DefAt (K : PySem.W.Frag) (x qual : Str) (st : Stmt) (f : Addr) : Prop :=
  ∃ (oc : Value) (od : Option Addr) (kV dc pm : Value) (an : Option Addr) (cd ct : Value) (sl : Array (Option Value)), K.lookup f = some ⟨oc, od, .func (PySem.W.fnOf x qual (defArgs st) (defBody st) (defScope st) .none kV dc pm an cd ct), sl⟩ ∧
    PySem.W.codeIn K cd qual = true ∧ PySem.W.keepIn K (.ref f) = true
def DefHere (K : PySem.W.Frag) (x : Str) (st : Stmt) : Prop := ∃ f : Addr, PySem.W.nsIn K mainGlobals x = some (some (.ref f)) ∧ DefAt K x x st f
/-- a def with defaults -/
def DflHere (K : PySem.W.Frag) (x : Str) (st : Stmt) (ds : List Value) : Prop :=
  ∃ (f T : Addr) (oc : Value) (od : Option Addr) (kV dc pm : Value) (an : Option Addr) (cd ct : Value) (sl : Array (Option Value)) (tc : Value) (td : Option Addr) (n : Nat) (ts : Array (Option Value)), PySem.W.nsIn K mainGlobals x = some (some (.ref f)) ∧
    K.lookup f = some ⟨oc, od, .func (PySem.W.fnOf x x (defArgs st) (defBody st) (defScope st) (.ref T) kV dc pm an cd ct), sl⟩ ∧ PySem.W.codeIn K cd x = true ∧ PySem.W.keepIn K (.ref f) = true ∧
    K.lookup T = some ⟨tc, td, .seq ds.toArray n, ts⟩
/-- an own error class x below the class at R, its __init__ is st -/
def ErrHere (K : PySem.W.Frag) (x q : Str) (st : Stmt) (R C : Addr) : Prop :=
  ∃ (f N : Addr) (nm qn : Str) (bs : List Value) (sn : List Str) (sub : List Value) (ab : Bool) (col : Option Bool) (dd : Option Addr) (m0 m1 m2 m3 m5 : Option Value), PySem.W.nsIn K mainGlobals x = some (some (.ref C)) ∧
    K.lookup C = some (excClassObj nm qn C N bs [.ref R, .type "ValueError", .type "Exception", .type "BaseException", .type "object"] true sn sub ab col dd m0 m1 m2 m3 m5 "ValueError.__new__") ∧
    PySem.W.findIn K (.ref C) "__setattr__" = some (some (.builtin "object.__setattr__")) ∧ PySem.W.findIn K (.ref C) "__getattribute__" = some (some (.builtin "BaseException.__getattribute__")) ∧ PySem.W.findIn K (.ref C) "__getattr__" = some none ∧
    PySem.W.findIn K (.ref C) "value" = some none ∧ PySem.W.findIn K (.ref C) "__init__" = some (some (.ref f)) ∧ PySem.W.typeIn K (.ref f) = some (.type "function") ∧ DefAt K "__init__" q st f ∧
    PySem.W.keepIn K (.ref C) = true ∧ PySem.W.subIn K (.ref C) (.type "BaseException") = some true ∧ PySem.W.typeIn K (.ref C) = some (.type "type") ∧ PySem.W.hasDictIn K C = true
section
variable {K : PySem.W.Frag} {mg : Str → Option Value} {h : Heap}
theorem DefHere.df {x : Str} {st : Stmt} {ps : List Str} (D : DefHere K x st) (X : K.In h) (G : h.Ns mainGlobals mg)
    (b : ∀ (kV doc pm : Value) (an : Option Addr) (cdv ct : Value) (us : List Value), us.length = ps.length → bindArgs (PySem.W.fnOf x x (defArgs st) (defBody st) (defScope st) .none kV doc pm an cdv ct) ⟨us, []⟩ = pure (ps.zip us)) : Df K mg x st ps := by
  obtain ⟨f, g, oc, od, kV, dc, pm, an, cd, ct, sl, l, c, k⟩ := D
  have F := fun_mk (st := st) l c k
  exact ⟨f, _, PySem.W.mg_of X G g, F, F.binds b⟩
theorem exm_of {A C : Addr} {b : Bool} (h1 : PySem.W.subIn K (.ref C) (.type "BaseException") = some true) (h2 : PySem.W.isClsIn K C = true) (h3 : PySem.W.typeIn K (.ref C) = some (.type "type")) (h4 : PySem.W.subIn K (.ref A) (.ref C) = some b) :
    PySem.W.exmOne K (.ref A) (.ref C) = some b := by
  have e1 : (PySem.W.subIn K (.ref C) (.type "BaseException") == some true) = true := by
    rw [h1] <;> rfl
  have h2' : (PySem.W.clsIn K C).isSome = true := h2
  have e2 : ((PySem.W.clsIn K C).isSome && PySem.W.typeIn K (.ref C) == some (.type "type")) = true := by
    rw [h2', h3] <;> rfl
  unfold PySem.W.exmOne
  rw [if_pos e1]
  show (if ((PySem.W.clsIn K C).isSome && PySem.W.typeIn K (.ref C) == some (.type "type")) = true then PySem.W.subIn K (.ref A) (.ref C) else none) = some b
  rw [if_pos e2]
  exact h4
/-- the body of __init__(self, value): self.value = value -/
def IsIni (st : Stmt) : Prop := ∃ p1 p2 p3 p4 : Pos, defBody st = [.Assign [.Attribute (.Name "self" p1) "value" p2] (.Name "value" p3) p4] ∧ (defScope st).names.lookup ("self" : Str) = some NameKind.local ∧ (defScope st).names.lookup ("value" : Str) = some NameKind.local
theorem ini_walk {st : Stmt} (I : IsIni st) (X : Cx) (hN : X.N = (["self", "value"] : List Str)) (hS : X.env.scope = defScope st) : ∃ t : TS, PSs X (defBody st) t ∧ (∀ D σ H, tOst X.K "value" (tVar 0) (tVar 1) D σ H → t D σ H) := by
  obtain ⟨p1, p2, p3, p4, e, l1, l2⟩ := I
  rw [e]
  refine ⟨_, pss_one (ps_ost (pe_var (i := 0) (by rw [hN]; rfl) (.inl (by rw [hS]; exact l1))) (pe_var (i := 1) (by rw [hN]; rfl) (.inl (by rw [hS]; exact l2)))), fun D σ H z => z⟩
theorem ErrHere.err {x q : Str} {st : Stmt} {R C : Addr} (E : ErrHere K x q st R C) (X : K.In h) (G : h.Ns mainGlobals mg) (S : FnScope ["self", "value"] ["self", "value"] (defScope st)) (I : IsIni st)
    (b : ∀ (kV doc pm : Value) (an : Option Addr) (cdv ct : Value) (us : List Value), us.length = 2 → bindArgs (PySem.W.fnOf "__init__" q (defArgs st) (defBody st) (defScope st) .none kV doc pm an cdv ct) ⟨us, []⟩ = pure ((["self", "value"] : List Str).zip us)) : Err K mg x C := by
  obtain ⟨f, N, nm, qn, bs, sn, sub, ab, col, dd, m0, m1, m2, m3, m5, g, l, sa, ga, gg, no, ini, ty, ⟨oc, od, kV, dc, pm, an, cd, ct, sl, lf, cf, kf⟩, kc, ex, tc, hd⟩ := E
  have F := fun_mk (x := "__init__") (qual := q) (st := st) lf cf kf
  exact {
    g := PySem.W.mg_of X G g
    ox := ⟨⟨nm, qn, N, bs, _, sn, sub, ab, col, dd, m0, m1, m2, m3, m5, l, rfl⟩, sa, ex, tc, kc⟩
    xf := ⟨ga, gg, ex, hd⟩
    no := no
    ini := ⟨f, q, st, _, ini, ty, F, F.binds b, S, ini_walk I⟩ }
/-- a tuple of ints of the text -/
def IntsHere (K : PySem.W.Frag) (x : Str) (a : Addr) (us : List Value) : Prop := ∃ (dd : Option Addr) (n : Nat) (sl : Array (Option Value)), PySem.W.nsIn K mainGlobals x = some (some (.ref a)) ∧ K.lookup a = some ⟨.type "tuple", dd, .seq us.toArray n, sl⟩
theorem IntsHere.sq {x : Str} {a : Addr} {us : List Value} {xs : List V} (E : IntsHere K x a us) (r : Vals xs us) (z : us.length ≤ sizeLine) (H : Hp) : SqT K H a xs := by
  obtain ⟨dd, n, sl, _, l⟩ := E
  exact Or.inr ⟨_, us.toArray, n, l, rfl, rfl, by simpa using z, by simpa using r⟩
/-! the same from its facts, the rest found by the kernel -/
theorem DefHere.of {x : Str} {st : Stmt} {f : Addr} {oc : Value} {od : Option Addr} {kV dc pm : Value} {an : Option Addr} {cd ct : Value} {sl : Array (Option Value)} (g : PySem.W.nsIn K mainGlobals x = some (some (.ref f)))
    (l : K.lookup f = some ⟨oc, od, .func (PySem.W.fnOf x x (defArgs st) (defBody st) (defScope st) .none kV dc pm an cd ct), sl⟩) (c : PySem.W.codeIn K cd x = true) (k : PySem.W.keepIn K (.ref f) = true) : DefHere K x st :=
  ⟨f, g, oc, od, kV, dc, pm, an, cd, ct, sl, l, c, k⟩
theorem DflHere.of {x : Str} {st : Stmt} {ds : List Value} {f T : Addr} {oc : Value} {od : Option Addr} {kV dc pm : Value} {an : Option Addr} {cd ct : Value} {sl : Array (Option Value)} {tc : Value} {td : Option Addr} {n : Nat} {ts : Array (Option Value)}
    (g : PySem.W.nsIn K mainGlobals x = some (some (.ref f))) (l : K.lookup f = some ⟨oc, od, .func (PySem.W.fnOf x x (defArgs st) (defBody st) (defScope st) (.ref T) kV dc pm an cd ct), sl⟩) (c : PySem.W.codeIn K cd x = true) (k : PySem.W.keepIn K (.ref f) = true)
    (t : K.lookup T = some ⟨tc, td, .seq ds.toArray n, ts⟩) : DflHere K x st ds := ⟨f, T, oc, od, kV, dc, pm, an, cd, ct, sl, tc, td, n, ts, g, l, c, k, t⟩
theorem ErrHere.of {x q : Str} {st : Stmt} {R C f N : Addr} {nm qn : Str} {bs : List Value} {sn : List Str} {sub : List Value} {ab : Bool} {col : Option Bool} {dd : Option Addr} {m0 m1 m2 m3 m5 : Option Value}
    {oc : Value} {od : Option Addr} {kV dc pm : Value} {an : Option Addr} {cd ct : Value} {sl : Array (Option Value)} (g : PySem.W.nsIn K mainGlobals x = some (some (.ref C)))
    (xl : K.lookup C = some (excClassObj nm qn C N bs [.ref R, .type "ValueError", .type "Exception", .type "BaseException", .type "object"] true sn sub ab col dd m0 m1 m2 m3 m5 "ValueError.__new__"))
    (sa : PySem.W.findIn K (.ref C) "__setattr__" = some (some (.builtin "object.__setattr__"))) (ga : PySem.W.findIn K (.ref C) "__getattribute__" = some (some (.builtin "BaseException.__getattribute__"))) (gg : PySem.W.findIn K (.ref C) "__getattr__" = some none)
    (no : PySem.W.findIn K (.ref C) "value" = some none) (ini : PySem.W.findIn K (.ref C) "__init__" = some (some (.ref f))) (ty : PySem.W.typeIn K (.ref f) = some (.type "function"))
    (l : K.lookup f = some ⟨oc, od, .func (PySem.W.fnOf "__init__" q (defArgs st) (defBody st) (defScope st) .none kV dc pm an cd ct), sl⟩) (c : PySem.W.codeIn K cd q = true) (k : PySem.W.keepIn K (.ref f) = true)
    (kc : PySem.W.keepIn K (.ref C) = true) (ex : PySem.W.subIn K (.ref C) (.type "BaseException") = some true) (tc : PySem.W.typeIn K (.ref C) = some (.type "type")) (hd : PySem.W.hasDictIn K C = true) : ErrHere K x q st R C :=
  ⟨f, N, nm, qn, bs, sn, sub, ab, col, dd, m0, m1, m2, m3, m5, g, xl, sa, ga, gg, no, ini, ty, ⟨oc, od, kV, dc, pm, an, cd, ct, sl, l, c, k⟩, kc, ex, tc, hd⟩
theorem IntsHere.of {x : Str} {a : Addr} {us : List Value} {dd : Option Addr} {n : Nat} {sl : Array (Option Value)} (g : PySem.W.nsIn K mainGlobals x = some (some (.ref a))) (l : K.lookup a = some ⟨.type "tuple", dd, .seq us.toArray n, sl⟩) : IntsHere K x a us := ⟨dd, n, sl, g, l⟩
end
end Rw

set_option Elab.async false
set_option linter.all false
set_option maxRecDepth 100000
set_option maxHeartbeats 4000000
/-! TkZ: zip of lists and tuples, in any order. -/
namespace Rw
open PySem PySem.Spec PyProof.Rows L2

/-- a list (true) or a tuple (false) -/
def SqB (K : PySem.W.Frag) (H : Hp) : Bool → Addr → List V → Prop
  | true, a, xs => SqL K H a xs
  | false, a, xs => SqT K H a xs
def itB (h : Heap) : Bool → Addr → Addr → Nat → Prop
  | true, it, l, i => h.IsListIter it l i
  | false, it, l, i => h.IsTupleIter it l i
def sqB (h : Heap) : Bool → Addr → Array Value → Prop
  | true, l, xs => h.IsList l xs
  | false, l, xs => h.IsTuple l xs
def nmB : Bool → String
  | true => "list_iterator"
  | false => "tuple_iterator"
section
variable {X : Cx} {pins : List (Addr × Obj)} {σ : L2.St} {H : Hp} {s : Shared} {h h' : Heap} {k : Bool} {a it : Addr} {i : Nat} {xs ys : List V}
theorem sqB_inv (I : Inv X pins σ H s) (q : SqB X.K H k a xs) : ∃ its : List Value, Vals xs its ∧ sqB s.heap k a its.toArray ∧ a < s.heap.objs.size := by
  cases k with
  | true =>
    obtain ⟨its, r, p, _⟩ := I.list q
    exact ⟨its, r, p.isList, p.lt⟩
  | false =>
    obtain ⟨its, r, p, _⟩ := I.tuple q
    obtain ⟨o, ho, _⟩ := id p
    exact ⟨its, r, p, Heap.lt_size ho⟩
theorem sqB_inj (I : Inv X pins σ H s) (q : SqB X.K H k a xs) (q' : SqB X.K H k a ys) : xs = ys := by
  cases k with
  | true => exact I.list_inj q q'
  | false => exact I.tuple_inj q q'
theorem itB_obj (t : itB h k it a i) : ∃ o, h.get? it = some o ∧ ∀ v, o.data ≠ .cell v := by
  cases k with
  | true =>
    obtain ⟨o, e, _, d⟩ := t
    exact ⟨o, e, fun v q => by rw [d] at q; cases q⟩
  | false =>
    obtain ⟨o, e, _, d⟩ := t
    exact ⟨o, e, fun v q => by rw [d] at q; cases q⟩
theorem itB_at (t : itB h k it a i) (e : ∀ o, h.get? it = some o → h'.get? it = some o) : itB h' k it a i := by
  cases k with
  | true => exact Heap.IsListIter.at t e
  | false => exact Heap.IsTupleIter.at t e
theorem drawsB {prog : Program} {w : World} {A : Around} (hh : A.handled = none) (k : Bool) (it l : Addr) (hne : l ≠ it) (items : Array Value) :
    Draws prog w A it [it, l] items.size (fun i v => items[i]? = some v) (fun i h => itB h k it l i ∧ sqB h k l items) := by
  cases k with
  | true => exact Draws.list hh it l hne items
  | false => exact Draws.tuple hh it l hne items
theorem sepB {z TI TO i1 i2 a b : Addr} (D : ZipApart z TI TO i1 i2 a b) : ZipSep2 z TI TO i1 i2 [i1, a] [i2, b] where
  TIz := D.TIz
  TOz := D.TOz
  TITO := D.TITO
  TIi1 := D.TIi1
  mem1 := List.mem_cons_self
  zf1 := by simp; exact ⟨D.i1z.symm, D.l1z.symm⟩
  Tf1 := by simp; exact ⟨D.TOi1, D.l1TO.symm⟩
  TIi2 := D.TIi2
  mem2 := List.mem_cons_self
  zf2 := by simp; exact ⟨D.i2z.symm, D.l2z.symm⟩
  Tf2 := by simp; exact ⟨D.TOi2, D.l2TO.symm⟩
  sep1_2 := by simp; exact ⟨D.i12, D.l2i1.symm⟩
  sep2_1 := by simp; exact ⟨D.i12.symm, D.l1i2.symm⟩
end

/-- the lists or tuples at a and b as they stand at each turn, the items in new pairs -/
def ItB (K : PySem.W.Frag) (k1 k2 : Bool) (a b : Addr) : It :=
  ⟨fun i H => ∃ (xs ys : List V) (x y : V), SqB K H k1 a xs ∧ SqB K H k2 b ys ∧ xs[i]? = some x ∧ ys[i]? = some y,
    fun i H v H' => ∃ T x y, v = .ref T ∧ H T = none ∧ H' = upd H T (.tup [x, y]) ∧ (∀ xs, SqB K H k1 a xs → xs[i]? = some x) ∧ ∀ ys, SqB K H k2 b ys → ys[i]? = some y,
    fun i H => ∃ xs ys : List V, SqB K H k1 a xs ∧ SqB K H k2 b ys ∧ i ≤ xs.length ∧ i ≤ ys.length ∧ (xs.length = i ∨ ys.length = i)⟩
theorem turn_zipB {P : Program} {w : World} {K : PySem.W.Frag} {k1 k2 : Bool} {elts : List Expr} {kk : Nat} {tpos : Pos} {a b z TI TO i1 i2 : Addr} (D : ZipApart z TI TO i1 i2 a b) :
    Turn P w K (.Tuple elts kk tpos) (ItB K k1 k2 a b) [z, TI, TO, i1, i2] z (fun i h => IsZip h z TI TO .none ∧ IsPair h TI (.ref i1) (.ref i2) ∧ (∃ x y, IsPair h TO x y) ∧ itB h k1 i1 a i ∧ itB h k2 i2 b i) where
  mem := by simp
  obj := fun i h st c hc => by
    obtain ⟨hz, hTI, ⟨x, y, hTO⟩, h1, h2⟩ := st
    have e' : c = z ∨ c = TI ∨ c = TO ∨ c = i1 ∨ c = i2 := by simpa using hc
    rcases e' with q | q | q | q | q
    · rw [q]; exact ⟨_, hz, fun v q => nomatch q⟩
    · rw [q]; exact ⟨_, hTI, fun v q => nomatch q⟩
    · rw [q]; exact ⟨_, hTO, fun v q => nomatch q⟩
    · rw [q]; exact itB_obj h1
    · rw [q]; exact itB_obj h2
  keep := fun i h h' st k => by
    obtain ⟨hz, hTI, ⟨x, y, hTO⟩, h1, h2⟩ := st
    exact ⟨k z (by simp) _ hz, k TI (by simp) _ hTI, ⟨x, y, k TO (by simp) _ hTO⟩, itB_at h1 fun o q => k i1 (by simp) o q, itB_at h2 fun o q => k i2 (by simp) o q⟩
  item := by
    intro X hP hw hK hc i pins s σ H E I hf st hg
    subst hP hw hK
    obtain ⟨hz, hTI, ⟨x0, y0, hTO⟩, h1, h2⟩ := st
    obtain ⟨xs, ys, x, y, hqx, hqy, hx, hy⟩ := hg
    obtain ⟨its, rv, p, _⟩ := sqB_inv I hqx
    obtain ⟨its2, rv2, p2, _⟩ := sqB_inv I hqy
    obtain ⟨u, hu, ru⟩ := rv.get hx
    obtain ⟨u2, hu2, ru2⟩ := rv2.get hy
    have hzl : z < s.heap.objs.size := Heap.lt_size hz
    have hd : X.A.in1.handled = none := I.ok.hd hc
    have g1 : i < its.toArray.size := by
      have := (List.getElem?_eq_some_iff.mp hu).1
      simpa using this
    have g2 : i < its2.toArray.size := by
      have := (List.getElem?_eq_some_iff.mp hu2).1
      simpa using this
    refine wpAny_pyNext_zipD2_item (sepB D) (drawsB hd k1 i1 a D.l1i1 its.toArray) (drawsB hd k2 i2 b D.l2i2 its2.toArray) hz hTI hTO ⟨h1, p⟩ ⟨h2, p2⟩ g1 g2 fun x1 x2 h' tk e1 e2 z' TO' t1 t2 hT hsz hk => ?_
    have hx1 : x1 = u := by
      have q : its[i]? = some x1 := by simpa using e1
      rw [hu] at q
      exact (Option.some.inj q).symm
    have hx2 : x2 = u2 := by
      have q : its2[i]? = some x2 := by simpa using e2
      rw [hu2] at q
      exact (Option.some.inj q).symm
    subst hx1 hx2
    refine ⟨_, rfl, wpAny_letOwnedTupleGo_zip (s := { s with heap := h', toks := tk }) z' fun h'' z'' sb => ?_⟩
    have hT2 : h''.get? s.heap.objs.size = some { cls := .type "tuple", data := .seq #[x1, x2] } := (sb.2 _ (Nat.ne_of_gt hzl)).trans hT
    have new : ObjOk X.prog X.w (upd H s.heap.objs.size (.tup [x, y])) h'' s.heap.objs.size (.tup [x, y]) :=
      ⟨by show 2 ≤ sizeLine; decide, [x1, x2], .cons ru (.cons ru2 .nil), ⟨_, hT2, rfl, _, rfl⟩⟩
    have I1 : Inv X pins σ (upd H s.heap.objs.size (.tup [x, y])) { s with heap := h'', toks := tk } :=
      I.turnedNew (t' := tk) (ch := [z, TI, TO, i1, i2]) (fun c o hb q => (sb.2 c (fun q' => hb (by simp [q']))).trans (hk c o (fun q' => hb (by simp [q'])) (fun q' => hb (by simp [q'])) (fun q' => hb (by simp [q'])) (fun q' => hb (by simp [q'])) q)) hf (Nat.le_refl _) new
    refine ⟨.ref s.heap.objs.size, _, I1, rfl, ⟨_, x, y, rfl, I.hok.fresh (Nat.le_refl _), rfl, fun l hl => by rw [sqB_inj I hl hqx]; exact hx, fun l hl => by rw [sqB_inj I hl hqy]; exact hy⟩, ⟨z'', ?_, ⟨x1, x2, ?_⟩, ?_, ?_⟩, fun c hcm => ?_⟩
    · exact (sb.2 _ D.TIz).trans (hk _ _ D.TIz D.TITO D.TIi1 D.TIi2 hTI)
    · exact (sb.2 _ D.TOz).trans TO'
    · exact itB_at t1.1 fun o q => (sb.2 _ D.i1z).trans q
    · exact itB_at t2.1 fun o q => (sb.2 _ D.i2z).trans q
    · have hlt : c < s.heap.objs.size := by
        have e' : c = z ∨ c = TI ∨ c = TO ∨ c = i1 ∨ c = i2 := by simpa using hcm
        rcases e' with q | q | q | q | q
        · rw [q]; exact hzl
        · rw [q]; exact Heap.lt_size hTI
        · rw [q]; exact Heap.lt_size hTO
        · rw [q]; obtain ⟨_, e1, _⟩ := itB_obj h1; exact Heap.lt_size e1
        · rw [q]; obtain ⟨_, e2, _⟩ := itB_obj h2; exact Heap.lt_size e2
      rw [upd_ne (Nat.ne_of_lt hlt)]
      exact (hf c hcm).1
  done := by
    intro X hP hw hK hc i pins s σ H E I hf st hg
    subst hP hw hK
    obtain ⟨hz, hTI, ⟨x0, y0, hTO⟩, h1, h2⟩ := st
    obtain ⟨xs, ys, hqx, hqy, l1, l2, hend⟩ := hg
    obtain ⟨its, rv, p, _⟩ := sqB_inv I hqx
    obtain ⟨its2, rv2, p2, _⟩ := sqB_inv I hqy
    have m1 := rv.length
    have m2 := rv2.length
    have hd : X.A.in1.handled = none := I.ok.hd hc
    have z1 : its.toArray.size = its.length := by simp
    have z2 : its2.toArray.size = its2.length := by simp
    exact wpAny_pyNext_zipD2_end (sepB D) (drawsB hd k1 i1 a D.l1i1 its.toArray) (drawsB hd k2 i2 b D.l2i2 its2.toArray) hz hTI hTO ⟨h1, p⟩ ⟨h2, p2⟩ (by omega) (by omega) (by omega) fun h' tk hk => ⟨rfl, I.turnedL (t' := tk) (ch := [z, TI, TO, i1, i2]) (fun c o hb q =>
      hk c o (fun q' => hb (by simp [q'])) (fun q' => hb (by simp [q'])) (fun q' => hb (by simp [q'])) (fun q' => hb (by simp [q'])) q) hf⟩
  self := fun A i s Q E st h => wpAny_pyIter_zip st.1 h

abbrev zipBH1 (k1 : Bool) (h : Heap) (l1 : Addr) : Heap := h.push { cls := .type (nmB k1), data := .fields #[.ref l1, .int 0 0] }
abbrev zipBH2 (k1 k2 : Bool) (h : Heap) (l1 l2 : Addr) : Heap := (zipBH1 k1 h l1).push { cls := .type (nmB k2), data := .fields #[.ref l2, .int 0 0] }
abbrev zipBH3 (k1 k2 : Bool) (h : Heap) (l1 l2 : Addr) : Heap := (zipBH2 k1 k2 h l1 l2).push { cls := .type "tuple", data := .seq #[.ref h.objs.size, .ref (zipBH1 k1 h l1).objs.size] }
abbrev zipBH4 (k1 k2 : Bool) (h : Heap) (l1 l2 : Addr) : Heap := (zipBH3 k1 k2 h l1 l2).push { cls := .type "tuple", data := .seq #[.none, .none] }
abbrev zipBH5 (k1 k2 : Bool) (h : Heap) (l1 l2 : Addr) : Heap := (zipBH4 k1 k2 h l1 l2).push { cls := .type "zip", data := .fields #[.none, .bool false, .bool false, .ref (zipBH2 k1 k2 h l1 l2).objs.size, .ref (zipBH3 k1 k2 h l1 l2).objs.size] }
theorem meets_zipB_lt (l1 l2 : Addr) (xs ys : Array Value) :
    Meets (Builtin.«zip.__new__» ⟨[.type "zip", .ref l1, .ref l2], []⟩) (fun _ R s => s.heap.IsList l1 xs ∧ s.heap.IsTuple l2 ys ∧
      R (.ok (.ret (.ref (zipBH4 true false s.heap l1 l2).objs.size))) { s with heap := zipBH5 true false s.heap l1 l2 }) :=
  .of_wp fun prog w A R s h => by
    obtain ⟨hp, g, d, tk, os⟩ := s; obtain ⟨hl1, hl2, h⟩ := h
    have hsub := sub_zip
    have hL1 : Heap.IsList (Shared.heap ⟨hp, g, d, tk, os⟩) l1 xs := hl1
    have hL2 : Heap.IsTuple (Shared.heap ⟨hp.push { cls := .type "list_iterator", data := .fields #[.ref l1, .int 0 0] }, g, d, tk, os⟩) l2 ys := Heap.IsTuple.push hl2 _
    wp_walk using wpAny_pyIter_list hL1, wpAny_pyIter_tuple hL2
    exact ⟨_, rfl, h⟩
theorem meets_zipB_tl (l1 l2 : Addr) (xs ys : Array Value) :
    Meets (Builtin.«zip.__new__» ⟨[.type "zip", .ref l1, .ref l2], []⟩) (fun _ R s => s.heap.IsTuple l1 xs ∧ s.heap.IsList l2 ys ∧
      R (.ok (.ret (.ref (zipBH4 false true s.heap l1 l2).objs.size))) { s with heap := zipBH5 false true s.heap l1 l2 }) :=
  .of_wp fun prog w A R s h => by
    obtain ⟨hp, g, d, tk, os⟩ := s; obtain ⟨hl1, hl2, h⟩ := h
    have hsub := sub_zip
    have hL1 : Heap.IsTuple (Shared.heap ⟨hp, g, d, tk, os⟩) l1 xs := hl1
    have hL2 : Heap.IsList (Shared.heap ⟨hp.push { cls := .type "tuple_iterator", data := .fields #[.ref l1, .int 0 0] }, g, d, tk, os⟩) l2 ys := Heap.IsList.push hl2 _
    wp_walk using wpAny_pyIter_tuple hL1, wpAny_pyIter_list hL2
    exact ⟨_, rfl, h⟩
theorem meets_zipB (k1 k2 : Bool) (l1 l2 : Addr) (xs ys : Array Value) :
    Meets (Builtin.«zip.__new__» ⟨[.type "zip", .ref l1, .ref l2], []⟩) (fun _ R s => sqB s.heap k1 l1 xs ∧ sqB s.heap k2 l2 ys ∧
      R (.ok (.ret (.ref (zipBH4 k1 k2 s.heap l1 l2).objs.size))) { s with heap := zipBH5 k1 k2 s.heap l1 l2 }) := by
  cases k1 <;> cases k2
  · exact RZ.meets_zipT_new l1 l2 xs ys
  · exact meets_zipB_tl l1 l2 xs ys
  · exact meets_zipB_lt l1 l2 xs ys
  · exact meets_zip_new l1 l2 xs ys
theorem itB_new {h : Heap} {k : Bool} {it l : Addr} (e : h.get? it = some { cls := .type (nmB k), data := .fields #[.ref l, .int 0 0] }) : itB h k it l 0 := by
  cases k with
  | true => exact ⟨_, e, rfl, rfl⟩
  | false => exact ⟨_, e, rfl, rfl⟩
section
variable {prog : Program} {w : World} {A : Around} {E : Value → Shared → Prop} {s : Shared}
theorem call_zipB {k1 k2 : Bool} {l1 l2 : Addr} {xs ys : Array Value} {Q : Value → Shared → Prop} (hl1 : sqB s.heap k1 l1 xs) (hl2 : sqB s.heap k2 l2 ys)
    (h : ∀ h', IsZip h' (s.heap.objs.size + 4) (s.heap.objs.size + 2) (s.heap.objs.size + 3) .none → IsPair h' (s.heap.objs.size + 2) (.ref s.heap.objs.size) (.ref (s.heap.objs.size + 1)) →
      IsPair h' (s.heap.objs.size + 3) .none .none → itB h' k1 s.heap.objs.size l1 0 → itB h' k2 (s.heap.objs.size + 1) l2 0 → h'.objs.size = s.heap.objs.size + 5 →
      (∀ c o, s.heap.get? c = some o → h'.get? c = some o) → Q (.ref (s.heap.objs.size + 4)) { s with heap := h' }) :
    wpAny (model prog w) A (call (.type "zip") [.ref l1, .ref l2]) Q E s := by
  refine callType_new F.called_zip (by decide) (F.typeCall_zip_2 _ _) (F.newCall_zip_2 _ _) (fun obj => F.args_object_init_3 obj _ _) F.entry_zip_new
    (meets_zipB k1 k2 l1 l2 xs ys) ⟨hl1, hl2, ?_⟩
  have z1 : (zipBH1 k1 s.heap l1).objs.size = s.heap.objs.size + 1 := Heap.size_push ..
  have z2 : (zipBH2 k1 k2 s.heap l1 l2).objs.size = s.heap.objs.size + 2 := by rw [Heap.size_push, z1]
  have z3 : (zipBH3 k1 k2 s.heap l1 l2).objs.size = s.heap.objs.size + 3 := by rw [Heap.size_push, z2]
  have z4 : (zipBH4 k1 k2 s.heap l1 l2).objs.size = s.heap.objs.size + 4 := by rw [Heap.size_push, z3]
  have z5 : (zipBH5 k1 k2 s.heap l1 l2).objs.size = s.heap.objs.size + 5 := by rw [Heap.size_push, z4]
  have g5 : (zipBH5 k1 k2 s.heap l1 l2).get? (zipBH4 k1 k2 s.heap l1 l2).objs.size = some _ := Heap.get?_push_size _ rfl
  have g4 : (zipBH5 k1 k2 s.heap l1 l2).get? (zipBH3 k1 k2 s.heap l1 l2).objs.size = some _ := Heap.get?_push_of_some _ (Heap.get?_push_size _ rfl)
  have g3 : (zipBH5 k1 k2 s.heap l1 l2).get? (zipBH2 k1 k2 s.heap l1 l2).objs.size = some _ := Heap.get?_push_of_some _ (Heap.get?_push_of_some _ (Heap.get?_push_size _ rfl))
  have g2 : (zipBH5 k1 k2 s.heap l1 l2).get? (zipBH1 k1 s.heap l1).objs.size = some _ := Heap.get?_push_of_some _ (Heap.get?_push_of_some _ (Heap.get?_push_of_some _ (Heap.get?_push_size _ rfl)))
  have g1 : (zipBH5 k1 k2 s.heap l1 l2).get? s.heap.objs.size = some _ := Heap.get?_push_of_some _ (Heap.get?_push_of_some _ (Heap.get?_push_of_some _ (Heap.get?_push_of_some _ (Heap.get?_push_size _ rfl))))
  show _ ∧ _
  rw [z2, z3, z4] at g5
  rw [z1, z2] at g3
  rw [z3] at g4
  rw [z1] at g2
  rw [z4]
  exact ⟨⟨_, g5, rfl⟩, h _ g5 g3 g4 (itB_new g1) (itB_new g2) z5 fun c o x =>
    Heap.get?_push_of_some _ (Heap.get?_push_of_some _ (Heap.get?_push_of_some _ (Heap.get?_push_of_some _ (Heap.get?_push_of_some _ x))))⟩
end
def iZipB (K : PySem.W.Frag) (ta : TA) : TI := fun σ H R => ta σ H fun vs H1 => ∃ a b k1 k2 xs ys, vs = [.ref a, .ref b] ∧ SqB K H1 k1 a xs ∧ SqB K H1 k2 b ys ∧ R (ItB K k1 k2 a b) H1
theorem pi_zipB {X : Cx} {e e2 : Expr} {ta : TA} {p pos tpos : Pos} {elts : List Expr} {kk : Nat} (hg : Gl X "zip") (hm : X.mg "zip" = none) (ha : PA X [e, e2] ta)
    (hs : starEach [e, e2] X.env = (false, eval e X.env) :: starEach [e2] X.env := by rfl) (hpl : (backTo pos (starEach [e2] X.env)).any (·.1) = false := by rfl) :
    PI X (.Tuple elts kk tpos) (.Call (.Name "zip" p) [e, e2] [] pos) (iZipB X.K ta) := by
  refine ⟨fun pins s σ H R I h => ?_⟩
  refine Call_ (ld_blt I hg hm PyProof.Rows.boot_zip (PyProof.Rows.callWith_type1 (thn (ha.run pos pins s σ H _ I h) fun us s1 ⟨vs, H1, I1, r1, q1⟩ => ?_) hs hpl))
  obtain ⟨a, b, k1, k2, xs, ys, ex, hqx, hqy, q⟩ := q1
  subst ex
  cases r1 with
  | cons r rr =>
    cases rr with
    | cons r' rr =>
      cases rr
      cases r
      cases r'
      obtain ⟨its, rv, p1, la⟩ := sqB_inv I1 hqx
      obtain ⟨its2, rv2, p2, lb⟩ := sqB_inv I1 hqy
      refine call_zipB p1 p2 fun h' hz hTI hTO h1 h2 hsz hk => wpAny_pyIter_zip hz ?_
      have I2 : Inv X pins σ H1 { s1 with heap := h' } := I1.kept (t' := s1.toks) hk
      refine ⟨s1.heap.objs.size + 4, [s1.heap.objs.size + 4, s1.heap.objs.size + 2, s1.heap.objs.size + 3, s1.heap.objs.size, s1.heap.objs.size + 1], _, _, H1, rfl, I2, turn_zipB (PySem.W.ktu_apart s1.heap.objs.size a b la lb), ⟨hz, hTI, ⟨_, _, hTO⟩, h1, h2⟩, fun c hcm => ?_, q⟩
      have e' : c = s1.heap.objs.size + 4 ∨ c = s1.heap.objs.size + 2 ∨ c = s1.heap.objs.size + 3 ∨ c = s1.heap.objs.size ∨ c = s1.heap.objs.size + 1 := by simpa using hcm
      have hle : s1.heap.objs.size ≤ c := by
        rcases e' with z | z | z | z | z
        · rw [z]; exact Nat.le_add_right _ _
        · rw [z]; exact Nat.le_add_right _ _
        · rw [z]; exact Nat.le_add_right _ _
        · rw [z]; exact Nat.le_refl _
        · rw [z]; exact Nat.le_add_right _ _
      exact I1.fpOk hle (I1.hok.fresh hle)
end Rw

set_option Elab.async false
set_option linter.all false
set_option maxRecDepth 100000
set_option maxHeartbeats 4000000
/-! TkL: lists and tuples as data, comprehensions that make data of data. -/
namespace Rw
open PySem PySem.Spec PyProof.Rows L2

/-! ### lists and tuples as data -/
def isSeqD : PyData → Bool
  | .list _ => true | .tuple _ => true | _ => false
def itemsD : PyData → List PyData
  | .list ds => ds | .tuple ds => ds | _ => []
def isVecD (n : Int) (d : PyData) : Bool := isSeqD d && (decide (((itemsD d).length : Int) = n) && (itemsD d).all isIntD)
def isMatD (h w : Int) (d : PyData) : Bool := isSeqD d && (decide (((itemsD d).length : Int) = h) && (itemsD d).all (isVecD w))
/-- not too long, the ints not too great -/
structure Fit1 (d : PyData) : Prop where
  len : (itemsD d).length ≤ 1000
  sm : ∀ n, PyData.int n ∈ itemsD d → n.natAbs.log2 < 400
structure Fit (d : PyData) : Prop where
  top : Fit1 d
  sub : ∀ e, e ∈ itemsD d → Fit1 e
section
variable {K : PySem.W.Frag} {H H' : Hp} {v : V} {d : PyData} {xs : List V} {ds : List PyData}
theorem kit_seq (d : PyData) : PySem.W.kitAny K (.type (kindS d)) [.type "list", .type "tuple"] = some (isSeqD d) := by
  have z : PySem.W.kitAny K (.type (kindS d)) [] = some false := rfl
  have l0 : ∀ a, kitB a "list" = some false → kitB a "tuple" = some false → PySem.W.kitAny K (.type a) [.type "list", .type "tuple"] = some false := fun a p q =>
    kitAny_cons (b := false) (kit_ty p) (fun _ => kitAny_cons (b := false) (kit_ty q) (fun _ => z) (fun e => by cases e)) (fun e => by cases e)
  cases d with
  | none => exact l0 "NoneType" (by decide +kernel) (by decide +kernel)
  | bool b => exact l0 "bool" (by decide +kernel) (by decide +kernel)
  | int b => exact l0 "int" (by decide +kernel) (by decide +kernel)
  | str b => exact l0 "str" (by decide +kernel) (by decide +kernel)
  | dict b => exact l0 "dict" (by decide +kernel) (by decide +kernel)
  | list b => exact kitAny_cons (b := true) (kit_ty (show kitB "list" "list" = some true by decide +kernel)) (fun e => by cases e) (fun _ => rfl)
  | tuple b => exact kitAny_cons (b := false) (kit_ty (show kitB "tuple" "list" = some false by decide +kernel)) (fun _ => kitAny_cons (b := true) (kit_ty (show kitB "tuple" "tuple" = some true by decide +kernel)) (fun e => by cases e) (fun _ => rfl)) (fun e => by cases e)
theorem anyL_len : ∀ {xs : List V} {ds : List PyData}, AnyL H xs ds → xs.length = ds.length
  | _, _, .nil => rfl
  | _, _, .cons _ b => congrArg (· + 1) (anyL_len b)
theorem anyL_at : ∀ {xs : List V} {ds : List PyData} {i : Nat} {x : V}, AnyL H xs ds → xs[i]? = some x → ∃ d, ds[i]? = some d ∧ Any H x d
  | _, _, i, x, .nil, h => by simp at h
  | _, _, 0, x, .cons a _, h => by
    cases h
    exact ⟨_, rfl, a⟩
  | _, _, i + 1, x, .cons _ b, h => by
    obtain ⟨d, h1, h2⟩ := anyL_at (i := i) b (by simpa using h)
    exact ⟨d, by simpa using h1, h2⟩
theorem anyL_of : ∀ {xs : List V} {ds : List PyData} {i : Nat} {d : PyData}, AnyL H xs ds → ds[i]? = some d → ∃ x, xs[i]? = some x ∧ Any H x d
  | _, _, i, x, .nil, h => by simp at h
  | _, _, 0, x, .cons a _, h => by
    cases h
    exact ⟨_, rfl, a⟩
  | _, _, i + 1, x, .cons _ b, h => by
    obtain ⟨d, h1, h2⟩ := anyL_of (i := i) b (by simpa using h)
    exact ⟨d, by simpa using h1, h2⟩
theorem anyL_keep (k : Same H H') (h : AnyL H xs ds) : AnyL H' xs ds := any_keepL k ds xs h
theorem anyL_snoc : ∀ {xs : List V} {ds : List PyData} {x : V} {d : PyData}, AnyL H xs ds → Any H x d → AnyL H (xs ++ [x]) (ds ++ [d])
  | _, _, _, _, .nil, b => .cons b .nil
  | _, _, _, _, .cons a r, b => .cons a (anyL_snoc r b)
theorem anyL_ints : ∀ {ns : List Int} {xs : List V}, AnyL H xs (ns.map .int) → xs = ns.map V.int
  | [], _, h => by
    cases h
    rfl
  | n :: ns, _, h => by
    cases h with
    | cons a b =>
      cases a
      rw [anyL_ints b] <;> rfl
theorem anyL_bools : ∀ {ns : List Bool} {xs : List V}, AnyL H xs (ns.map .bool) → xs = ns.map V.bl
  | [], _, h => by
    cases h
    rfl
  | n :: ns, _, h => by
    cases h with
    | cons a b =>
      cases a
      rw [anyL_bools b] <;> rfl
theorem anyL_flags {g : PyData → Bool} {ds : List PyData} {xs : List V} (h : AnyL H xs (ds.map fun d => PyData.bool (g d))) : xs = (ds.map g).map V.bl := by
  refine anyL_bools (H := H) ?_
  rw [List.map_map]
  exact h
theorem ints_anyL : ∀ (ns : List Int), AnyL H (ns.map V.int) (ns.map .int)
  | [] => .nil
  | n :: ns => .cons (.int n) (ints_anyL ns)
/-- data that is a list or a tuple, with its items -/
theorem seq_of (h : Any H v d) (e : isSeqD d = true) : ∃ (k : Bool) (a : Addr) (xs : List V), v = .ref a ∧ (∀ {H' : Hp}, Same H H' → ∀ K, SqB K H' k a xs) ∧ AnyL H xs (itemsD d) := by
  cases h with
  | lst ea ha => exact ⟨true, _, _, rfl, fun k K => SqL.of (k _ _ ea), ha⟩
  | tup ea ha => exact ⟨false, _, _, rfl, fun k K => SqT.of (k _ _ ea), ha⟩
  | _ => cases e
theorem SqB.or {k : Bool} {a : Addr} (h : SqB K H k a xs) : SqL K H a xs ∨ SqT K H a xs := by
  cases k with
  | true => exact .inl h
  | false => exact .inr h
theorem vec_ints : ∀ {ds : List PyData}, ds.all isIntD = true → ∃ ns : List Int, ds = ns.map .int
  | [], _ => ⟨[], rfl⟩
  | d :: ds, h => by
    simp only [List.all_cons, Bool.and_eq_true] at h
    obtain ⟨ns, e⟩ := vec_ints h.2
    cases d with
    | int n => exact ⟨n :: ns, by rw [e] <;> rfl⟩
    | _ => cases h.1
end

/-! ### walks -/
def ItS (K : PySem.W.Frag) : Bool → Addr → It
  | true, a => Itl K a
  | false, a => Itt K a
def iSeq (K : PySem.W.Frag) (tl : TE) : TI := fun σ H R => tl σ H fun x H1 => ∃ a k xs, x = .ref a ∧ SqB K H1 k a xs ∧ R (ItS K k a) H1
theorem pi_seq {X : Cx} {tg l : Expr} {tl : TE} (hl : PE X l tl) : PI X tg l (iSeq X.K tl) := by
  refine ⟨fun pins s σ H R I h => ?_⟩
  refine thn (hl.run pins s σ H _ I h) fun v s1 ⟨x, H1, I1, r1, q1⟩ => ?_
  obtain ⟨a, k, xs, e, hq, q⟩ := q1
  subst e
  cases r1
  cases k with
  | true =>
    obtain ⟨its, rv, p, hz⟩ := I1.list hq
    refine wpAny_pyIter_list p.isList ?_
    refine ⟨s1.heap.objs.size, [s1.heap.objs.size], _, _, H1, rfl, I1.kept (t' := s1.toks) fun b o e => Heap.get?_push_of_some _ e, turn_list a _, ⟨_, Heap.get?_push_size _ rfl, rfl, rfl⟩, fun b hb => ?_, q⟩
    have e : b = s1.heap.objs.size := by simpa using hb
    subst e
    exact I1.fpOk (Nat.le_refl _) (I1.hok.fresh (Nat.le_refl _))
  | false =>
    obtain ⟨its, rv, p, hz⟩ := I1.tuple hq
    refine wpAny_pyIter_tuple (show s1.heap.IsTuple a its.toArray from p) ?_
    refine ⟨s1.heap.objs.size, [s1.heap.objs.size], _, _, H1, rfl, I1.kept (t' := s1.toks) fun b o e => Heap.get?_push_of_some _ e, turn_tuple a _, ⟨_, Heap.get?_push_size _ rfl, rfl, rfl⟩, fun b hb => ?_, q⟩
    have e : b = s1.heap.objs.size := by simpa using hb
    subst e
    exact I1.fpOk (Nat.le_refl _) (I1.hok.fresh (Nat.le_refl _))
section
variable {K : PySem.W.Frag} {k : Bool} {a : Addr} {xs : List V}
theorem walk_seq : Walk (ItS K k a) xs.length (fun H => SqB K H k a xs) (fun i H x H' => H' = H ∧ xs[i]? = some x) := by
  cases k with
  | true => exact walk_list
  | false => exact walk_tup
theorem walk_rng {n : Nat} : Walk (Itr 0 n) n (fun _ => True) (fun i H x H' => H' = H ∧ x = .int (i : Int)) :=
  walk_range.mono (fun _ z => z) fun i H x H' _ _ y => ⟨y.1, by
    have e := y.2
    simpa using e⟩
theorem walk_zipB {k1 k2 : Bool} {a b : Addr} {xs ys : List V} {n : Nat} (h1 : xs.length = n) (h2 : ys.length = n) : Walk (ItB K k1 k2 a b) n (fun H => SqB K H k1 a xs ∧ SqB K H k2 b ys) (YPair (fun i => xs[i]?) (fun i => ys[i]?)) := by
  refine ⟨fun i H hi q => ?_, fun H q => ⟨xs, ys, q.1, q.2, by omega, by omega, .inl h1⟩, fun i H v H' _ q y => ?_⟩
  · have g1 : i < xs.length := by omega
    have g2 : i < ys.length := by omega
    exact ⟨xs, ys, xs[i], ys[i], q.1, q.2, by simp [g1], by simp [g2]⟩
  · obtain ⟨T, x, z, h1, h2, h3, h4, h5⟩ := y
    exact ⟨T, x, z, h1, h2, h3, h4 xs q.1, h5 ys q.2⟩
end
theorem del_upd {H : Hp} {D : Addr} {o : HO} : del (upd H D o) D = del H D := by
  funext c
  by_cases e : c = D
  · rw [e, del_same, del_same]
  · rw [del_ne e, del_ne e, upd_ne e]
/-- new data of each turn, nothing else changed -/
theorem lc_same {J : It} {n : Nat} {G : Hp → Prop} {P : Nat → V → Prop} (w : Walk J n G (fun i H x H' => H' = H ∧ P i x)) {j : Nat} {σ : L2.St} {vs : List Nat} {te : TE} {H1 : Hp} {D : Addr} {Q : Hp → Prop} (hn : n ≤ 1000) (hD : H1 D = none) (hG : ∀ H, Same H1 H → G H) (f : Nat → PyData)
    (hs : ∀ i x H, i < n → P i x → Same H1 H → (∃ o, H D = some o) → wipe ((wipe σ vs).set j (some x)) vs = wipe σ vs ∧ ∀ k : VK, (∀ y H', Same H H' → Any (del H' D) y (f i) → k y H') → te ((wipe σ vs).set j (some x)) H k)
    (hq : ∀ H acc, Same H1 H → H D = some (.lst acc) → AnyL (del H D) acc ((List.range n).map f) → Q H) :
    ∃ W : Nat → Nat → Hp → Prop, (∃ m, W 0 m (upd H1 D (.lst []))) ∧ ∀ i m H, W i m H →
      (J.stop i H ∧ Q H) ∨ (J.go i H ∧ ∃ Nx : Hp → Prop, (∀ H', Nx H' → ∃ m', m' < m ∧ W (i + 1) m' H') ∧ ∀ x H', J.yld i H x H' → gName j x (wipe σ vs) H' fun σ2 H2 => wipe σ2 vs = wipe σ vs ∧ tYes σ2 H2 fun b H3 =>
        if b = true then te σ2 H3 fun y H4 => ∃ acc, H4 D = some (.lst acc) ∧ acc.length < sizeLine ∧ Nx (upd H4 D (.lst (acc ++ [y]))) else Nx H3) := by
  refine lc_it w (Qd := Q) (Pv := fun i H => Same H1 H ∧ ∃ acc, H D = some (.lst acc) ∧ acc.length = i ∧ AnyL (del H D) acc ((List.range i).map f)) ⟨same_new hD, [], upd_same, rfl, .nil⟩ (fun i H _ h => hG H h.1) ?_ ?_
  · rintro i x H H' hi ⟨s1, acc, ha, hl, an⟩ ⟨rfl, hp⟩
    obtain ⟨e1, e2⟩ := hs i x H' hi hp s1 ⟨_, ha⟩
    refine ⟨e1, ?_⟩
    show te _ _ _
    refine e2 _ fun y H4 s2 hy => ?_
    refine ⟨acc, s2 _ _ ha, Nat.lt_of_lt_of_le (by omega : acc.length < 1000) (by decide), ?_, acc ++ [y], upd_same, by rw [List.length_append, hl] <;> rfl, ?_⟩
    · intro b o e
      have ne : b ≠ D := ne_of_none e hD
      rw [upd_ne ne]
      exact s2 _ _ (s1 _ _ e)
    · rw [del_upd, List.range_succ, List.map_append]
      exact anyL_snoc (anyL_keep (Grow.del (Grow.of s2)) an) hy
  · rintro H ⟨s1, acc, ha, hl, an⟩
    exact hq H acc s1 ha an
theorem map_get {α β : Type} (g : α → β) (dd : α) : ∀ l : List α, (List.range l.length).map (fun i => g (l[i]?.getD dd)) = l.map g := by
  intro l
  apply List.ext_getElem
  · simp
  · intro i h1 h2
    simp at h1 h2
    simp [h1]
end Rw

set_option Elab.async false
set_option linter.all false
set_option maxRecDepth 100000
set_option maxHeartbeats 4000000
/-! TkQ: enumerate of a list or a tuple. -/
namespace Rw
open PySem PySem.Spec PyProof.Rows L2

set_option maxHeartbeats 1000000 in
theorem meets_enum_new1 {v : Value} {o : Obj} {H : Heap → Prop} (B : Begins v o H) :
    Meets (Builtin.«enumerate.__new__» ⟨[.type "enumerate", v], []⟩) (fun _ R s => H s.heap ∧
      R (.ok (.ret (.ref (s.heap.push o).objs.size))) { s with heap := (s.heap.push o).push { cls := .type "enumerate", data := .fields #[.none, .bool false, .ref s.heap.objs.size, rawInt 0, .none, .none] } }) :=
  .of_wp fun prog w A R s h => by
    obtain ⟨hp, g, d, tk, os⟩ := s; obtain ⟨h1, h⟩ := h
    have hsub := sub_enumerate
    have q1 : ∀ {A' : Around} {E : Value → Shared → Prop} {Q : Value → Shared → Prop}, Q (.ref hp.objs.size) ⟨hp.push o, g, d, tk, os⟩ → wpAny (model prog w) A' (pyIter v) Q E ⟨hp, g, d, tk, os⟩ :=
      fun q => B.iter prog w _ _ ⟨hp, g, d, tk, os⟩ _ h1 q
    wp_walk using q1
    refine wpAny_stack_any fun st => wpAny_pure ?_
    split
    · rename_i c _ _ _ _ _
      cases (c == Value.type "enumerate")
      · wp_walk using q1
        exact ⟨_, rfl, h⟩
      · wp_walk using q1
        exact ⟨_, rfl, h⟩
    · wp_walk using q1
      exact ⟨_, rfl, h⟩
section
variable {prog : Program} {w : World} {A : Around} {E : Value → Shared → Prop} {s : Shared}
theorem call_enum1 {v : Value} {o : Obj} {H : Heap → Prop} {Q : Value → Shared → Prop} (B : Begins v o H) (h1 : H s.heap)
    (h : ∀ h', IsEnum h' (s.heap.objs.size + 1) s.heap.objs.size 0 .none → h'.get? s.heap.objs.size = some o → h'.objs.size = s.heap.objs.size + 2 →
      (∀ b o, s.heap.get? b = some o → h'.get? b = some o) → Q (.ref (s.heap.objs.size + 1)) { s with heap := h' }) :
    wpAny (model prog w) A (call (.type "enumerate") [v]) Q E s := by
  refine callType_new F.called_enumerate (by decide) (F.typeCall_enumerate_1 _) (F.newCall_enumerate_1 _) (fun obj => F.args_object_init_2 obj _) F.entry_enumerate_new
    (meets_enum_new1 B) ⟨h1, ?_⟩
  have hz : (s.heap.push o).objs.size = s.heap.objs.size + 1 := Heap.size_push ..
  show _ ∧ _
  rw [hz]
  have he : IsEnum ((s.heap.push o).push { cls := .type "enumerate", data := .fields #[.none, .bool false, .ref s.heap.objs.size, rawInt 0, .none, .none] }) (s.heap.objs.size + 1) s.heap.objs.size 0 .none := by
    have := Heap.get?_push_size (s.heap.push o) (o := { cls := .type "enumerate", data := .fields #[.none, .bool false, .ref s.heap.objs.size, rawInt 0, .none, .none] }) rfl
    rw [hz] at this; exact this
  refine ⟨⟨_, he, rfl⟩, h _ he (Heap.get?_push_of_some _ (Heap.get?_push_size _ B.free)) (by rw [Heap.size_push, hz]) fun b o x => Heap.get?_push_of_some _ (Heap.get?_push_of_some _ x)⟩
end
def itObjB (k : Bool) (a : Addr) : Obj := { cls := .type (nmB k), data := .fields #[.ref a, .int 0 0] }
theorem begins_B (k : Bool) (a : Addr) (items : Array Value) : Begins (.ref a) (itObjB k a) fun h => sqB h k a items := by
  cases k with
  | true => exact begins_list a items
  | false => exact begins_tuple a items

/-- the list or tuple at a as it stands at each turn, each item in a new pair -/
def ItEB (K : PySem.W.Frag) (k : Bool) (a : Addr) : It :=
  ⟨fun i H => ∃ (xs : List V) (x : V), SqB K H k a xs ∧ xs[i]? = some x, fun i H v H' => ∃ T x, v = .ref T ∧ H T = none ∧ H' = upd H T (.tup [.int (i : Nat), x]) ∧ ∀ xs, SqB K H k a xs → xs[i]? = some x, fun i H => ∃ xs : List V, SqB K H k a xs ∧ xs.length = i⟩
theorem turn_enumB {P : Program} {w : World} {K : PySem.W.Frag} {k : Bool} {elts : List Expr} {kk : Nat} {tpos : Pos} (a e it : Addr) :
    Turn P w K (.Tuple elts kk tpos) (ItEB K k a) [e, it] e (fun i h => (∃ old, IsEnum h e it ((i : Nat) : Int) old) ∧ itB h k it a i ∧ e ≠ it ∧ a ≠ it ∧ e ≠ a) where
  mem := by simp
  obj := fun i h st b hb => by
    obtain ⟨⟨old, he⟩, hi, _⟩ := st
    have e' : b = e ∨ b = it := by simpa using hb
    rcases e' with z | z
    · rw [z]; exact ⟨_, he, fun v q => nomatch q⟩
    · rw [z]; exact itB_obj hi
  keep := fun i h h' st k => let ⟨⟨old, he⟩, hi, hne⟩ := st; ⟨⟨old, k e (by simp) _ he⟩, itB_at hi fun o q => k it (by simp) o q, hne⟩
  item := by
    intro X hP hw hK hc i pins s σ H E I hf st hg
    subst hP hw hK
    obtain ⟨⟨old, he⟩, hit, hne, hna, hea⟩ := st
    obtain ⟨xs, x, hq, hx⟩ := hg
    obtain ⟨its, rv, p, _⟩ := sqB_inv I hq
    obtain ⟨u, hu, ru⟩ := rv.get hx
    have hel : e < s.heap.objs.size := Heap.lt_size he
    have hil : it < s.heap.objs.size := by obtain ⟨_, q, _⟩ := itB_obj hit; exact Heap.lt_size q
    have hd : X.A.in1.handled = none := I.ok.hd hc
    have g1 : i < its.toArray.size := by
      have := (List.getElem?_eq_some_iff.mp hu).1
      simpa using this
    have hef : e ∉ [it, a] := by simp; exact ⟨hne, hea⟩
    refine wpAny_pyNext_enum_itemD (drawsB hd k it a hna its.toArray) he ⟨hit, p⟩ g1 hne hef fun x1 h' tk e1 ho hs' hT hsz hk => ?_
    have hx1 : x1 = u := by
      have q : its[i]? = some x1 := by simpa using e1
      rw [hu] at q
      exact (Option.some.inj q).symm
    subst hx1
    refine ⟨_, rfl, wpAny_letOwnedTupleGo_enum (s := { s with heap := h', toks := tk + 1 }) ho fun h'' he' sb => ?_⟩
    have hT2 : h''.get? s.heap.objs.size = some { cls := .type "tuple", data := .seq #[.int i tk, x1] } := (sb.2 _ (Nat.ne_of_gt hel)).trans hT
    have new : ObjOk X.prog X.w (upd H s.heap.objs.size (.tup [.int (i : Nat), x])) h'' s.heap.objs.size (.tup [.int (i : Nat), x]) :=
      ⟨by show 2 ≤ sizeLine; decide, [.int i tk, x1], .cons ⟨_, rfl⟩ (.cons ru .nil), ⟨_, hT2, rfl, _, rfl⟩⟩
    have I1 : Inv X pins σ (upd H s.heap.objs.size (.tup [.int (i : Nat), x])) { s with heap := h'', toks := tk + 1 } :=
      I.turnedNew (t' := tk + 1) (ch := [e, it]) (fun b ob hb q => (sb.2 b (fun z => hb (by simp [z]))).trans (hk b ob (fun z => hb (by simp [z])) (fun z => hb (by simp [z])) q)) hf (Nat.le_refl _) new
    refine ⟨.ref s.heap.objs.size, _, I1, rfl, ⟨_, x, rfl, I.hok.fresh (Nat.le_refl _), rfl, fun ys hy => by rw [sqB_inj I hy hq]; exact hx⟩, ⟨⟨x1, ?_⟩, itB_at hs'.1 fun o q => (sb.2 it (Ne.symm hne)).trans q, hne, hna, hea⟩, fun b hb => ?_⟩
    · have e1 : ((i + 1 : Nat) : Int) = (i : Int) + 1 := by omega
      rw [e1]; exact he'
    · have hb' : b < s.heap.objs.size := by
        have e' : b = e ∨ b = it := by simpa using hb
        rcases e' with z | z
        · rw [z]; exact hel
        · rw [z]; exact hil
      rw [upd_ne (Nat.ne_of_lt hb')]
      exact (hf b hb).1
  done := by
    intro X hP hw hK hc i pins s σ H E I hf st hg
    subst hP hw hK
    obtain ⟨⟨old, he⟩, hit, hne, hna, hea⟩ := st
    obtain ⟨xs, hq, hx⟩ := hg
    obtain ⟨its, rv, p, _⟩ := sqB_inv I hq
    obtain ⟨f0, f1, f2, f3, f4, f5⟩ := hf it (by simp)
    have hl := rv.length
    have hd : X.A.in1.handled = none := I.ok.hd hc
    have z1 : its.toArray.size = its.length := by simp
    have e1 : its.toArray.size = i := by omega
    refine wpAny_pyNext_enum_endD (drawsB hd k it a hna its.toArray) he (by rw [e1]; exact ⟨hit, p⟩) fun h' eb => ⟨rfl, I.turned (t' := s.toks) (fun b o hb q => eb b o hb q) f0 f1 f3 f4 f5⟩
  self := fun A i s Q E st h => let ⟨⟨_, he⟩, _⟩ := st; wpAny_pyIter_enum he h
def iEnumB (K : PySem.W.Frag) (ta : TA) : TI := fun σ H R => ta σ H fun vs H1 => ∃ a k xs, vs = [.ref a] ∧ SqB K H1 k a xs ∧ R (ItEB K k a) H1
theorem pi_enumB {X : Cx} {e : Expr} {ta : TA} {p pos tpos : Pos} {elts : List Expr} {kk : Nat} (hg : Gl X "enumerate") (hm : X.mg "enumerate" = none) (ha : PA X [e] ta) (hs : starEach [e] X.env = [(false, eval e X.env)] := by rfl) :
    PI X (.Tuple elts kk tpos) (.Call (.Name "enumerate" p) [e] [] pos) (iEnumB X.K ta) := by
  refine ⟨fun pins s σ H R I h => ?_⟩
  refine Call_ (ld_blt I hg hm boot_enumerate (PyProof.Rows.callWith_type1 (thn (ha.run pos pins s σ H _ I h) fun us s1 ⟨vs, H1, I1, r1, q1⟩ => ?_) hs rfl))
  obtain ⟨a, k, xs, ex, hq, q⟩ := q1
  subst ex
  cases r1 with
  | cons r rr =>
    cases rr
    cases r
    obtain ⟨its, rv, p', la⟩ := sqB_inv I1 hq
    refine call_enum1 (begins_B k a its.toArray) p' fun h' he hit hsz hk => wpAny_pyIter_enum he ?_
    have I2 : Inv X pins σ H1 { s1 with heap := h' } := I1.kept (t' := s1.toks) hk
    refine ⟨s1.heap.objs.size + 1, [s1.heap.objs.size + 1, s1.heap.objs.size], _, _, H1, rfl, I2, turn_enumB a (s1.heap.objs.size + 1) s1.heap.objs.size, ⟨⟨.none, he⟩, itB_new hit, Nat.succ_ne_self _, Nat.ne_of_lt la, fun z => Nat.lt_irrefl a (Nat.lt_of_lt_of_le la (Nat.le_trans (Nat.le_succ _) (Nat.le_of_eq z)))⟩, fun b hb => ?_, q⟩
    have e' : b = s1.heap.objs.size + 1 ∨ b = s1.heap.objs.size := by simpa using hb
    have hle : s1.heap.objs.size ≤ b := by
      rcases e' with z | z
      · rw [z]; exact Nat.le_add_right _ _
      · rw [z]; exact Nat.le_refl _
    exact I1.fpOk hle (I1.hok.fresh hle)
theorem walk_enumB {K : PySem.W.Frag} {k : Bool} {a : Addr} {xs : List V} : Walk (ItEB K k a) xs.length (fun H => SqB K H k a xs) (YPair (fun i => some (.int (i : Nat))) (fun i => xs[i]?)) := by
  refine ⟨fun i _ hi q => ⟨xs, xs[i], q, by simp [hi]⟩, fun _ q => ⟨xs, q, rfl⟩, fun i H v H' _ q y => ?_⟩
  obtain ⟨T, x, h1, h2, h3, h4⟩ := y
  exact ⟨T, .int (i : Nat), x, h1, h2, h3, rfl, h4 xs q⟩
end Rw

set_option Elab.async false
set_option linter.all false
set_option maxRecDepth 100000
set_option maxHeartbeats 4000000
/-! TkS: written dicts with int keys and with text keys: `in`, `d[k]`. -/
namespace Rw
open PySem PySem.Spec PyProof.Rows L2

inductive IntTab : List DictEntry → List (Int × Value) → Prop
  | nil : IntTab [] []
  | cons {e : DictEntry} {es : List DictEntry} {i : Int} {t : Tok} {v : Value} {kvs : List (Int × Value)} : e.key = .int i t → e.hash = hashInt i → e.val = v → IntTab es kvs → IntTab (e :: es) ((i, v) :: kvs)
inductive TxtTab (P : Params) : List DictEntry → List (Str × Value) → Prop
  | nil : TxtTab P [] []
  | cons {e : DictEntry} {es : List DictEntry} {x : Str} {t : Tok} {v : Value} {kvs : List (Str × Value)} : e.key = .str x t → e.hash = PyData.keyHash P x → e.val = v → TxtTab P es kvs → TxtTab P (e :: es) ((x, v) :: kvs)
def lookI (kvs : List (Int × Value)) (i : Int) : Option Value := (kvs.find? fun q => q.1 == i).map (·.2)
def lookS (kvs : List (Str × Value)) (x : Str) : Option Value := (kvs.find? fun q => q.1 == x).map (·.2)
theorem IntTab.find {es : List DictEntry} {kvs : List (Int × Value)} (T : IntTab es kvs) (i : Int) : findBy Value.isInt es.toArray i = lookI kvs i := by
  unfold findBy lookI
  rw [List.find?_toArray]
  induction T with
  | nil => rfl
  | cons k h v r ih =>
    rename_i e es j t u kvs
    rw [List.find?_cons, List.find?_cons]
    have e1 : Value.isInt i e.key = (j == i) := by rw [k] <;> rfl
    rw [e1]
    cases j == i with
    | true => simp [v]
    | false => exact ih
theorem TxtTab.find {P : Params} {es : List DictEntry} {kvs : List (Str × Value)} (T : TxtTab P es kvs) (x : Str) : findBy Value.isStrOf es.toArray x = lookS kvs x := by
  unfold findBy lookS
  rw [List.find?_toArray]
  induction T with
  | nil => rfl
  | cons k h v r ih =>
    rename_i e es y t u kvs
    rw [List.find?_cons, List.find?_cons]
    have e1 : Value.isStrOf x e.key = (y == x) := by rw [k] <;> rfl
    rw [e1]
    cases y == x with
    | true => simp [v]
    | false => exact ih
theorem IntTab.keys {es : List DictEntry} {kvs : List (Int × Value)} (T : IntTab es kvs) : ∀ e ∈ es, ∃ i t, e.key = .int i t ∧ e.hash = hashInt i := by
  induction T with
  | nil => intro e h; cases h
  | cons k h v r ih =>
    intro e he
    rcases List.mem_cons.mp he with z | z
    · rw [z]; exact ⟨_, _, k, h⟩
    · exact ih e z
theorem TxtTab.keys {P : Params} {es : List DictEntry} {kvs : List (Str × Value)} (T : TxtTab P es kvs) : ∀ e ∈ es, ∃ x t, e.key = .str x t ∧ e.hash = PyData.keyHash P x := by
  induction T with
  | nil => intro e h; cases h
  | cons k h v r ih =>
    intro e he
    rcases List.mem_cons.mp he with z | z
    · rw [z]; exact ⟨_, _, k, h⟩
    · exact ih e z
/-- at d: a written dict with int keys -/
structure TabI (K : PySem.W.Frag) (d : Addr) (kvs : List (Int × Value)) : Prop where
  at_ : ∃ (l : List DictEntry) (n : Nat), K.lookup d = some ⟨.type "dict", none, .dict l.toArray n, #[]⟩ ∧ IntTab l kvs
  low : (d == sysModules) = false
structure TabS (K : PySem.W.Frag) (w : World) (d : Addr) (kvs : List (Str × Value)) : Prop where
  at_ : ∃ (l : List DictEntry) (n : Nat), K.lookup d = some ⟨.type "dict", none, .dict l.toArray n, #[]⟩ ∧ TxtTab w.params l kvs
  low : (d == sysModules) = false
section
variable {X : Cx} {d : Addr} {pins : List (Addr × Obj)} {σ : L2.St} {H : Hp} {s : Shared}
theorem tabI_map {kvs : List (Int × Value)} (T : TabI X.K d kvs) (I : Inv X pins σ H s) : s.heap.MapOf (PySem.intKind X.prog X.w) d (lookI kvs) := by
  obtain ⟨l, n, hl, t⟩ := T.at_
  refine ⟨_, l.toArray, n, I.kIn _ _ hl, ⟨rfl, rfl, rfl⟩, rfl, fun e he => ?_, fun k => t.find k⟩
  obtain ⟨i, tk, e1, e2⟩ := t.keys e (by simpa using he)
  exact ⟨i, by rw [e1]; exact PySem.intKind_is X.prog X.w i tk, e2⟩
theorem tabS_map {kvs : List (Str × Value)} (T : TabS X.K X.w d kvs) (I : Inv X pins σ H s) : s.heap.MapOf (PySem.strKind X.prog X.w) d (lookS kvs) := by
  obtain ⟨l, n, hl, t⟩ := T.at_
  refine ⟨_, l.toArray, n, I.kIn _ _ hl, ⟨rfl, rfl, rfl⟩, rfl, fun e he => ?_, fun k => t.find k⟩
  obtain ⟨i, tk, e1, e2⟩ := t.keys e (by simpa using he)
  exact ⟨i, by rw [e1]; exact PySem.strKind_is X.prog X.w i tk, e2⟩
theorem op_in_ti {kvs : List (Int × Value)} (T : TabI X.K d kvs) : OpR X (compareOp .In) (fun x y H Q => ∃ i, x = .int i ∧ y = .ref d ∧ Q (.bl (lookI kvs i).isSome) H) := by
  intro pins s σ H x y v u Q I rx ry h
  obtain ⟨i, rfl, rfl, q⟩ := h
  obtain ⟨t, rfl⟩ := rx
  cases ry
  exact wpAny_in_of (PySem.intKind_is X.prog X.w i t) T.low (tabI_map T I) ⟨.bl _, H, I.tok _, rfl, q⟩
theorem op_in_ts {kvs : List (Str × Value)} (T : TabS X.K X.w d kvs) : OpR X (compareOp .In) (fun x y H Q => ∃ z, x = .str z ∧ y = .ref d ∧ Q (.bl (lookS kvs z).isSome) H) := by
  intro pins s σ H x y v u Q I rx ry h
  obtain ⟨z, rfl, rfl, q⟩ := h
  obtain ⟨t, rfl⟩ := rx
  cases ry
  exact wpAny_in_of (PySem.strKind_is X.prog X.w z t) T.low (tabS_map T I) ⟨.bl _, H, I.tok _, rfl, q⟩
theorem ix_ti {kvs : List (Int × Value)} (T : TabI X.K d kvs) : IxR X (fun x y H Q => ∃ i u v, x = .ref d ∧ y = .int i ∧ lookI kvs i = some u ∧ RelV v u ∧ Q v H) := by
  intro value slice pins s σ H x y v u Q I rx ry h hs
  obtain ⟨i, u0, r, rfl, rfl, e, ru, q⟩ := h
  obtain rfl : v = Value.ref d := rx
  obtain ⟨t, rfl⟩ := ry
  have hm := tabI_map T I
  exact tail_any hm.typeIs slot_dict_getitem.lookup (wpAny_getItem_of (PySem.intKind_is X.prog X.w i t) hm e ⟨r, H, I.tok _, ru, q⟩) hs
theorem ix_ts {kvs : List (Str × Value)} (T : TabS X.K X.w d kvs) : IxR X (fun x y H Q => ∃ z u v, x = .ref d ∧ y = .str z ∧ lookS kvs z = some u ∧ RelV v u ∧ Q v H) := by
  intro value slice pins s σ H x y v u Q I rx ry h hs
  obtain ⟨z, u0, r, rfl, rfl, e, ru, q⟩ := h
  obtain rfl : v = Value.ref d := rx
  obtain ⟨t, rfl⟩ := ry
  have hm := tabS_map T I
  exact tail_any hm.typeIs slot_dict_getitem.lookup (wpAny_getItem_of (PySem.strKind_is X.prog X.w z t) hm e ⟨r, H, I.tok _, ru, q⟩) hs
end
/-! the tables of this program -/
theorem prime_tab {us : List Value} {v1 v2 v3 v4 v5 v6 : Value} (i : Int) : (lookI [(2, v1), (3, v2), (5, v3), (7, v4), (11, v5), (13, v6)] i).isSome = decide (i ∈ primesL) := by
  unfold lookI primesL
  by_cases h : i ∈ ([2, 3, 5, 7, 11, 13] : List Int)
  · rw [decide_eq_true h]
    simp only [List.mem_cons, List.not_mem_nil, or_false] at h
    rcases h with e | e | e | e | e | e <;> subst e <;> rfl
  · rw [decide_eq_false h]
    simp only [List.mem_cons, List.not_mem_nil, or_false, not_or] at h
    obtain ⟨a, b, c, d, e, f⟩ := h
    have z : ∀ j : Int, ¬ i = j → (j == i) = false := fun j q => by simp; exact fun y => q y.symm
    simp [List.find?, z 2 a, z 3 b, z 5 c, z 7 d, z 11 e, z 13 f]
def isArr (c : Nat) : Bool := c == 62 || c == 60
theorem arr_tab {v1 v2 : Value} (c : Nat) : (lookS [(">", v1), ("<", v2)] ⟨#[c]⟩).isSome = isArr c := by
  unfold lookS isArr
  by_cases h1 : c = 62
  · subst h1; rfl
  · by_cases h2 : c = 60
    · subst h2; rfl
    · have z1 : ((">" : Str) == (⟨#[c]⟩ : Str)) = false := by
        refine beq_eq_false_iff_ne.mpr fun e => h1 ?_
        have := congrArg (fun x : Str => x.cps[0]?) e
        exact (Option.some.inj this).symm
      have z2 : (("<" : Str) == (⟨#[c]⟩ : Str)) = false := by
        refine beq_eq_false_iff_ne.mpr fun e => h2 ?_
        have := congrArg (fun x : Str => x.cps[0]?) e
        exact (Option.some.inj this).symm
      simp [List.find?, z1, z2, h1, h2]
end Rw

set_option Elab.async false
set_option linter.all false
set_option maxRecDepth 100000
set_option maxHeartbeats 4000000
/-! TkM: boxes, new data, what a law looks at. -/
namespace Rw
open PySem PySem.Spec PyProof.Rows L2
/-- any int of the script, or a number of the law's own -/
def spCellR (K : PySem.W.Frag) : Sp := fun vs H Q _ => ∃ (a : Addr) (ns : List Int) (j : Nat), vs = [.ref a, .int (j : Int)] ∧ SqL K H a (ns.map V.int) ∧ j < 1000 ∧ ∀ z : Int, Q (.int z) H
/-- at p a box that was drawn from at most n times -/
def Bx (H : Hp) (p : Addr) (n : Nat) : Prop := ∃ a b c : Int, H p = some (.lst [.int a, .int b, .int c]) ∧ 0 ≤ a ∧ 0 ≤ b ∧ b < 2147483629 ∧ 0 ≤ c ∧ c ≤ (n : Int)
theorem Bx.more {H : Hp} {p : Addr} {n m : Nat} (h : Bx H p n) (l : n ≤ m) : Bx H p m := by
  obtain ⟨a, b, c, h1, h2, h3, h4, h5, h6⟩ := h
  exact ⟨a, b, c, h1, h2, h3, h4, h5, by omega⟩
theorem Bx.keep {H H' : Hp} {p : Addr} {n : Nat} (h : Bx H p n) (k : Same H H') : Bx H' p n := by
  obtain ⟨a, b, c, h1, r⟩ := h
  exact ⟨a, b, c, k _ _ h1, r⟩
theorem Bx.ne {H : Hp} {p q : Addr} {n : Nat} (h : Bx H p n) (hq : H q = none) : p ≠ q := by
  obtain ⟨a, b, c, h1, _⟩ := h
  exact ne_of_none h1 hq
def spBoxR : Sp := fun vs H Q _ => ∃ z : Int, vs = [.int z] ∧ ∀ p H', H p = none → Same H H' → Bx H' p 0 → Q (.ref p) H'
def spTakeR : Sp := fun vs H Q _ => ∃ (p : Addr) (m : Int) (n : Nat), vs = [.ref p, .int m] ∧ 0 < m ∧ m < 2 ^ 200 ∧ Bx H p n ∧ n ≤ 1000000 ∧ ∀ r H', 0 ≤ r → r < m → Grow p H H' → Bx H' p (n + 1) → Q (.int r) H'
theorem fdiv_nonneg' {a m : Int} (h : 0 ≤ a) (hm : 0 < m) : 0 ≤ a / m := Int.ediv_nonneg h (by omega)
/-- the odd things, as data -/
def oddL : List PyData := [.none, .bool true, .bool false, .str "1", .str "", .tuple [], .list [], .tuple [.int 1], .list [.int 0], .dict [], .dict [(.str "a", .int 1)], .int (-1), .int (10 ^ Int.toNat 29), .int (-(10 ^ Int.toNat 29)), .tuple [.tuple [.int 1]], .str "><"]
theorem AnyL.get {H : Hp} : ∀ {vs : List V} {ds : List PyData}, AnyL H vs ds → ∀ i, i < ds.length → ∃ v d, vs[i]? = some v ∧ d ∈ ds ∧ Any H v d
  | _, _, .nil, i, h => absurd h (Nat.not_lt_zero i)
  | _, _, .cons a _, 0, _ => ⟨_, _, rfl, List.mem_cons_self, a⟩
  | _, _, .cons _ b, i + 1, h => by
    obtain ⟨v, d, h1, h2, h3⟩ := AnyL.get b i (Nat.lt_of_succ_lt_succ h)
    exact ⟨v, d, h1, List.mem_cons_of_mem _ h2, h3⟩
/-- what is new in H' -/
def nw (H H' : Hp) : Hp := fun a => if H a = none then H' a else none
theorem nw_put {H H' : Hp} {q : Addr} {o : HO} (h : H q = none) : nw H (upd H' q o) q = some o := by
  show (if H q = none then (upd H' q o) q else none) = _
  rw [if_pos h, upd_same]
theorem nw_same {H H1 H2 : Hp} (k : Same H1 H2) : Same (nw H H1) (nw H H2) := fun b o e => by
  have e' : (if H b = none then H1 b else none) = some o := e
  show (if H b = none then H2 b else none) = some o
  by_cases z : H b = none
  · rw [if_pos z] at e' ⊢
    exact k _ _ e'
  · rw [if_neg z] at e'
    cases e'
theorem nw_grow {H H1 H2 : Hp} {p : Addr} {o : HO} (hp : H p = some o) (k : Grow p H1 H2) : Same (nw H H1) (nw H H2) := fun b u e => by
  have e' : (if H b = none then H1 b else none) = some u := e
  show (if H b = none then H2 b else none) = some u
  by_cases z : H b = none
  · rw [if_pos z] at e' ⊢
    exact k _ _ (fun y => by rw [y, hp] at z; cases z) e'
  · rw [if_neg z] at e'
    cases e'
theorem nw_sub {H H' : Hp} : Same (nw H H') H' := fun b o e => by
  have e' : (if H b = none then H' b else none) = some o := e
  by_cases z : H b = none
  · rw [if_pos z] at e'
    exact e'
  · rw [if_neg z] at e'
    cases e'
theorem nw_del {H H' : Hp} {p : Addr} {o : HO} (hp : H p = some o) : Same (nw H H') (del H' p) := fun b u e => by
  have e' : (if H b = none then H' b else none) = some u := e
  by_cases z : H b = none
  · rw [if_pos z] at e'
    have ne : b ≠ p := fun y => by rw [y, hp] at z; cases z
    rw [del_ne ne]
    exact e'
  · rw [if_neg z] at e'
    cases e'
/-- some odd thing, all new -/
def spOddN : Sp := fun vs H Q _ => ∃ (p : Addr) (n : Nat), vs = [.ref p] ∧ Bx H p n ∧ n ≤ 1000000 ∧ ∀ v d H', d ∈ oddL → Any (nw H H') v d → Grow p H H' → Bx H' p (n + 1) → Q v H'
def spWholeR : Sp := fun vs H Q _ => ∃ v d, vs = [v] ∧ Any H v d ∧ Q (.bl (isIntD d)) H
/-! ### a list held against [] -/
def rNilE : R2 := fun x y H Q => ∃ a b xs, x = .ref a ∧ y = .ref b ∧ H a = some (.lst xs) ∧ H b = some (.lst []) ∧ Q (.bl xs.isEmpty) H
theorem op_eq_nil {X : Cx} (hu : X.A.units < cLine) : OpR X (compareOp .Eq) rNilE := by
  intro pins s σ H x y v u Q I rx ry h
  obtain ⟨a, b, xs, rfl, rfl, ea, eb, q⟩ := h
  obtain rfl : v = Value.ref a := rx
  obtain rfl : u = Value.ref b := ry
  obtain ⟨its, ra, pa, _⟩ := I.list (SqL.of ea)
  obtain ⟨its2, rb, pb, _⟩ := I.list (SqL.of eb)
  cases rb
  have ln := ra.length
  cases xs with
  | nil =>
    cases ra
    exact SeqAt.eq_listAt (e := fun _ => true) pa.isList pb.isList rfl hu (fun j h1 h2 => absurd h1 (Nat.not_lt_zero j)) ⟨.bl true, H, I, rfl, q⟩
  | cons z zs =>
    refine SeqAt.eq_list_lengthsAt pa.isList pb.isList ?_ hu ⟨.bl false, H, I, rfl, q⟩
    simp
    intro e
    rw [e] at ln
    cases ln
/-- some of the items, by a test of each; what is asked is whether there are any -/
theorem lc_filter {J : It} {n : Nat} {G : Hp → Prop} {P : Nat → V → Prop} (w : Walk J n G (fun i H x H' => H' = H ∧ P i x)) {j : Nat} {σ : L2.St} {vs : List Nat} {tt : TT} {te : TE} {H1 : Hp} {D : Addr} {Q : Hp → Prop} (hn : n ≤ 1000) (hD : H1 D = none) (hG : ∀ H, Same H1 H → G H) (f : Nat → Bool)
    (hs : ∀ i x H, i < n → P i x → Same H1 H → wipe ((wipe σ vs).set j (some x)) vs = wipe σ vs ∧ (∀ k : Bool → Hp → Prop, (∀ H', Same H H' → k (f i) H') → tt ((wipe σ vs).set j (some x)) H k) ∧ ∀ (k : VK) (H' : Hp), k x H' → te ((wipe σ vs).set j (some x)) H' k)
    (hq : ∀ H acc, Same H1 H → H D = some (.lst acc) → acc.isEmpty = (List.range n).all (fun i => !f i) → Q H) :
    ∃ W : Nat → Nat → Hp → Prop, (∃ m, W 0 m (upd H1 D (.lst []))) ∧ ∀ i m H, W i m H →
      (J.stop i H ∧ Q H) ∨ (J.go i H ∧ ∃ Nx : Hp → Prop, (∀ H', Nx H' → ∃ m', m' < m ∧ W (i + 1) m' H') ∧ ∀ x H', J.yld i H x H' → gName j x (wipe σ vs) H' fun σ2 H2 => wipe σ2 vs = wipe σ vs ∧ tt σ2 H2 fun b H3 =>
        if b = true then te σ2 H3 fun y H4 => ∃ acc, H4 D = some (.lst acc) ∧ acc.length < sizeLine ∧ Nx (upd H4 D (.lst (acc ++ [y]))) else Nx H3) := by
  refine lc_it w (Qd := Q) (Pv := fun i H => Same H1 H ∧ ∃ acc, H D = some (.lst acc) ∧ acc.length ≤ i ∧ acc.isEmpty = (List.range i).all (fun i => !f i)) ⟨same_new hD, [], upd_same, Nat.le_refl _, rfl⟩ (fun i H _ h => hG H h.1) ?_ ?_
  · rintro i x H H' hi ⟨s1, acc, ha, hl, ea⟩ ⟨rfl, hp⟩
    obtain ⟨e1, e2, e3⟩ := hs i x H' hi hp s1
    refine ⟨e1, e2 _ fun H4 s2 => ?_⟩
    cases fi : f i with
    | true =>
      refine iteT (e3 _ _ ⟨acc, s2 _ _ ha, Nat.lt_of_lt_of_le (by omega : acc.length < 1000) (by decide), ?_, acc ++ [x], upd_same, by rw [List.length_append]; exact Nat.succ_le_succ hl, ?_⟩)
      · intro b o e
        have ne : b ≠ D := ne_of_none e hD
        rw [upd_ne ne]
        exact s2 _ _ (s1 _ _ e)
      · rw [List.range_succ, List.all_append]
        simp [fi]
    | false =>
      refine iteF ⟨s1.trans s2, acc, s2 _ _ ha, by omega, ?_⟩
      rw [ea, List.range_succ, List.all_append]
      simp [fi]
  · rintro H ⟨s1, acc, ha, hl, ea⟩
    exact hq H acc s1 ha ea
theorem all_get {α : Type} (g : α → Bool) (dd : α) (l : List α) : (List.range l.length).all (fun i => g (l[i]?.getD dd)) = l.all g := by
  have e := congrArg (fun z : List Bool => z.all id) (map_get g dd l)
  simpa [List.all_map, Function.comp_def] using e
/-- None or an int -/
def oV : Option Int → V
  | none => .non | some n => .int n
def spRowR : Sp := fun vs H Q _ => ∃ v d wo, vs = [v, oV wo] ∧ Any H v d ∧ (itemsD d).length ≤ 1000 ∧ ∀ H', Same H H' → Q (.bl (isVecD (wo.getD (itemsD d).length) d)) H'
def spSheetR : Sp := fun vs H Q _ => ∃ v d ho w, vs = [v, oV ho, .int w] ∧ Any H v d ∧ Fit d ∧ ∀ H', Same H H' → Q (.bl (isMatD (ho.getD (itemsD d).length) w d)) H'
end Rw

set_option Elab.async false
set_option linter.all false
set_option maxRecDepth 100000
set_option maxHeartbeats 4000000
/-! TkT: rows as data: patterns, sizes, matrices; the promises of the program's defs about them. -/
namespace Rw
open PySem PySem.Spec PyProof.Rows L2

def intN : PyData → Int
  | .int n => n | _ => 0
def isPatD : PyData → Bool
  | .str x => decide (x.length ≤ 6) && x.cps.toList.all isArr
  | _ => false
def aboveD (n : Int) : PyData → Bool
  | .int l => decide (l ≤ n)
  | _ => true
def belowD (n : Int) : PyData → Bool
  | .int l => decide (n ≤ l)
  | _ => true
def inB : PyData → PyData → PyData → Bool
  | .int n, l, h => aboveD n l && belowD n h
  | _, _, _ => false
def isSzD (d : PyData) : Bool := inB d (.int 0) (.int 6)
def sizesOk (k : Nat) (d : PyData) : Bool := isSeqD d && (decide ((itemsD d).length = k + 1) && (itemsD d).all isSzD)
def mapsOk (k : Nat) (d : PyData) : Bool := isSeqD d && decide ((itemsD d).length = k)
def atD (d : PyData) (i : Nat) : PyData := (itemsD d)[i]?.getD .none
def isR (x : Str) (i : Nat) : Bool := x.cps.toList[i]? == some 62
def stA (x : Str) (i : Nat) : Nat := if isR x i then i else i + 1
def goA (x : Str) (i : Nat) : Nat := if isR x i then i + 1 else i
def szL (d : PyData) (i : Nat) : Int := intN (atD d i)
def matOk (x : Str) (ds dm : PyData) (i : Nat) : Bool := isMatD (szL ds (stA x i)) (szL ds (goA x i)) (atD dm i)
def badAt (x : Str) (ds dm : PyData) : Option Nat := (List.range x.length).find? fun i => !matOk x ds dm i
/-- the items modulo p -/
def modD (p : Int) : PyData → PyData
  | .int n => .int (n.fmod p) | d => d
def rowsM (p : Int) (m : PyData) : List PyData := (itemsD m).map fun r => .tuple ((itemsD r).map (modD p))
structure FitM (d : PyData) : Prop where
  len : (itemsD d).length ≤ 1000
  sub : ∀ e, e ∈ itemsD d → Fit e
theorem atD_fit {d : PyData} (f : FitM d) {i : Nat} (h : i < (itemsD d).length) : Fit (atD d i) := by
  unfold atD
  rw [List.getElem?_eq_getElem h]
  exact f.sub _ (List.getElem_mem h)
/-- a row: an instance of the class at C -/
def RowAt (C : Addr) (H : Hp) (a : Addr) (x : Str) (p : Int) (ss : List PyData) (mm : List (List PyData)) : Prop :=
  ∃ dx ts tm, H a = some (.ins C dx [("_pattern", .str x), ("_prime", .int p), ("_sizes", .ref ts), ("_maps", .ref tm)]) ∧ Any H (.ref ts) (.tuple ss) ∧ Any H (.ref tm) (.tuple (mm.map .tuple))
theorem RowAt.keep {C a : Addr} {H H' : Hp} {x : Str} {p : Int} {ss : List PyData} {mm : List (List PyData)} (r : RowAt C H a x p ss mm) (k : Same H H') : RowAt C H' a x p ss mm := by
  obtain ⟨dx, ts, tm, h1, h2, h3⟩ := r
  exact ⟨dx, ts, tm, k _ _ h1, h2.keep k, h3.keep k⟩

/-! ### the promises -/
def spNum : Sp := fun vs H Q _ => ∃ v d, vs = [v] ∧ Any H v d ∧ Q (.bl (isIntD d)) H
def spInt : Sp := fun vs H Q _ => ∃ v l h d dl dh, vs = [v, l, h] ∧ Any H v d ∧ Any H l dl ∧ Any H h dh ∧ Q (.bl (inB d dl dh)) H
def spPrime : Sp := fun vs H Q _ => ∃ v d, vs = [v] ∧ Any H v d ∧ Q (.bl (isPr d)) H
def spCheck (CP : Addr) : Sp := fun vs H Q E => ∃ v d, vs = [v] ∧ Any H v d ∧ (isPr d = true → Q .non H) ∧ (isPr d = false → Thrown CP v H E)
def spList : Sp := fun vs H Q _ => ∃ v d, vs = [v] ∧ Any H v d ∧ ∀ H', Same H H' → Q (.bl (isSeqD d)) H'
def spVec : Sp := fun vs H Q _ => ∃ v d n, vs = [v, .int n] ∧ Any H v d ∧ (itemsD d).length ≤ 1000 ∧ ∀ H', Same H H' → Q (.bl (isVecD n d)) H'
def spMat : Sp := fun vs H Q _ => ∃ v d h w, vs = [v, .int h, .int w] ∧ Any H v d ∧ Fit d ∧ ∀ H', Same H H' → Q (.bl (isMatD h w d)) H'
theorem seq_flag {v : V} {H : Hp} {d : PyData} (h : Any H v d) : (isSeqD d = true ∧ ∃ (k : Bool) (a : Addr) (xs : List V), v = .ref a ∧ (∀ {H' : Hp}, Same H H' → ∀ K, SqB K H' k a xs) ∧ AnyL H xs (itemsD d)) ∨ isSeqD d = false := by
  cases e : isSeqD d with
  | true => exact .inl ⟨rfl, seq_of h e⟩
  | false => exact .inr rfl
theorem Thrown.mono {C : Addr} {v : V} {H H1 : Hp} {E : XK} (h : Thrown C v H E) (k : Same H H1) : Thrown C v H1 E := fun d H' s hd hx => h d H' (k.trans s) (k.free hd) hx
/-- texts that are asked are no longer than a line -/
def Short (d : PyData) : Prop := ∀ x, d = .str x → x.length ≤ 1000
def spPat : Sp := fun vs H Q _ => ∃ v d, vs = [v] ∧ Any H v d ∧ Short d ∧ ∀ H', Same H H' → Q (.bl (isPatD d)) H'
def spCPat (CT : Addr) : Sp := fun vs H Q E => ∃ v d, vs = [v] ∧ Any H v d ∧ Short d ∧ (isPatD d = true → ∀ H', Same H H' → Q .non H') ∧ (isPatD d = false → Thrown CT v H E)
def spCSz (CZ : Addr) : Sp := fun vs H Q E => ∃ x v d, vs = [.str x, v] ∧ x.length ≤ 6 ∧ Any H v d ∧ (itemsD d).length ≤ 1000 ∧ (sizesOk x.length d = true → ∀ H', Same H H' → Q .non H') ∧ (sizesOk x.length d = false → Thrown CZ v H E)
def spWay : Sp := fun vs H Q _ => ∃ (x : Str) (i : Nat), vs = [.str x, .int (i : Int)] ∧ i < x.length ∧ x.length ≤ 6 ∧ ∀ t H', H t = none → Same H H' → H' t = some (.tup [.int (stA x i : Nat), .int (goA x i : Nat)]) → Q (.ref t) H'
def spCMaps (CA CM : Addr) : Sp := fun vs H Q E => ∃ x va vm ds dm, vs = [.str x, va, vm] ∧ x.length ≤ 6 ∧ Any H va ds ∧ sizesOk x.length ds = true ∧ Any H vm dm ∧ FitM dm ∧
  (mapsOk x.length dm = false → Thrown CA vm H E) ∧ (mapsOk x.length dm = true → (∀ i v H1, badAt x ds dm = some i → Same H H1 → Any H1 v (atD dm i) → Thrown CM v H1 E) ∧ (badAt x ds dm = none → ∀ H', Same H H' → Q .non H'))
/-- what Row(pattern, prime, sizes, maps) asks and tells -/
structure RowIn (H : Hp) (vp vq va vm : V) (dp dq ds dm : PyData) : Prop where
  ap : Any H vp dp
  aq : Any H vq dq
  as : Any H va ds
  am : Any H vm dm
  sp : Short dp
  ls : (itemsD ds).length ≤ 1000
  fm : FitM dm
structure RowErr (CT CP CZ CA CM : Addr) (H : Hp) (E : XK) (vp vq va vm : V) (dp dq ds dm : PyData) : Prop where
  pat : isPatD dp = false → Thrown CT vp H E
  pri : isPatD dp = true → isPr dq = false → Thrown CP vq H E
  siz : ∀ x, dp = .str x → isPatD dp = true → isPr dq = true → sizesOk x.length ds = false → Thrown CZ va H E
  map : ∀ x, dp = .str x → isPatD dp = true → isPr dq = true → sizesOk x.length ds = true → mapsOk x.length dm = false → Thrown CA vm H E
  mat : ∀ x i v H1, dp = .str x → isPatD dp = true → isPr dq = true → sizesOk x.length ds = true → mapsOk x.length dm = true → badAt x ds dm = some i → Same H H1 → Any H1 v (atD dm i) → Thrown CM v H1 E
def rowGood (x : Str) (p : Int) (ds dm : PyData) : Bool := isPatD (.str x) && (isPr (.int p) && (sizesOk x.length ds && (mapsOk x.length dm && (badAt x ds dm).isNone)))
def spIniR (C CT CP CZ CA CM : Addr) : Sp := fun vs H Q E => ∃ a dx vp vq va vm dp dq ds dm, vs = [.ref a, vp, vq, va, vm] ∧ H a = some (.ins C dx []) ∧ RowIn H vp vq va vm dp dq ds dm ∧ RowErr CT CP CZ CA CM H E vp vq va vm dp dq ds dm ∧
  ∀ x p H', dp = .str x → dq = .int p → rowGood x p ds dm = true → Grow a H H' → RowAt C H' a x p (itemsD ds) ((itemsD dm).map (rowsM p)) → Q .non H'
/-- the same of the call Row(..) -/
def tRowMk (C CT CP CZ CA CM : Addr) (H : Hp) (vs : List V) (Q : VK) (E : XK) : Prop := ∃ vp vq va vm dp dq ds dm, vs = [vp, vq, va, vm] ∧ RowIn H vp vq va vm dp dq ds dm ∧ RowErr CT CP CZ CA CM H E vp vq va vm dp dq ds dm ∧
  ∀ x p a H', dp = .str x → dq = .int p → rowGood x p ds dm = true → H a = none → Same H H' → RowAt C H' a x p (itemsD ds) ((itemsD dm).map (rowsM p)) → Q (.ref a) H'
theorem row_make {C CT CP CZ CA CM : Addr} {H : Hp} {vs : List V} {Q : VK} {E : XK} (h : tRowMk C CT CP CZ CA CM H vs Q E) : ∀ x dx, H x = none → H dx = none → dx ≠ x →
    spIniR C CT CP CZ CA CM (.ref x :: (vs ++ [])) (upd (upd H dx (.own x)) x (.ins C dx [])) (fun v H2 => v = .non ∧ Q (.ref x) H2) E := by
  obtain ⟨vp, vq, va, vm, dp, dq, ds, dm, rfl, i, e, q⟩ := h
  intro x dx hx hd ne
  have k1 : Same H (upd H dx (.own x)) := same_new hd
  have h2 : (upd H dx (.own x)) x = none := by rw [upd_ne ne.symm]; exact hx
  have k : Same H (upd (upd H dx (.own x)) x (.ins C dx [])) := k1.trans (same_new h2)
  refine ⟨x, dx, vp, vq, va, vm, dp, dq, ds, dm, rfl, upd_same, ⟨i.ap.keep k, i.aq.keep k, i.as.keep k, i.am.keep k, i.sp, i.ls, i.fm⟩, ⟨fun z => (e.pat z).mono k, fun z y => (e.pri z y).mono k, fun a b c d f => (e.siz a b c d f).mono k, fun a b c d f g => (e.map a b c d f g).mono k, fun y j v H1 h1 h2 h3 h4 h5 h6 h7 h8 => e.mat y j v H1 h1 h2 h3 h4 h5 h6 (k.trans h7) h8⟩, ?_⟩
  · intro y p H' e1 e2 g gr ra
    refine ⟨rfl, q y p x H' e1 e2 g hx (fun b o eb => ?_) ra⟩
    have nb : b ≠ x := ne_of_none eb hx
    exact gr b o nb (k _ _ eb)
end Rw

set_option Elab.async false
set_option linter.all false
set_option maxRecDepth 100000
set_option maxHeartbeats 4000000
/-! TkU: data over heaps in which an object that is no data changes; data without lists; tuples and lists made of data. -/
namespace Rw
open PySem PySem.Spec PyProof.Rows L2
/-- what is data stays -/
structure Keeps (H H' : Hp) : Prop where
  l : ∀ b xs, H b = some (.lst xs) → H' b = some (.lst xs)
  t : ∀ b xs, H b = some (.tup xs) → H' b = some (.tup xs)
  d : ∀ b kvs, H b = some (.dK kvs) → H' b = some (.dK kvs)
mutual
theorem any_keeps {H H' : Hp} (k : Keeps H H') : ∀ (d : PyData) (v : V), Any H v d → Any H' v d
  | .none, _, h => by cases h; exact .non
  | .bool b, _, h => by cases h; exact .bl b
  | .int i, _, h => by cases h; exact .int i
  | .str x, _, h => by cases h; exact .str x
  | .list ds, _, h => by
    cases h with
    | lst e a => exact .lst (k.l _ _ e) (anyL_keeps k ds _ a)
  | .tuple ds, _, h => by
    cases h with
    | tup e a => exact .tup (k.t _ _ e) (anyL_keeps k ds _ a)
  | .dict ds, _, h => by
    cases h with
    | dct e a => exact .dct (k.d _ _ e) (anyK_keeps k ds _ a)
theorem anyL_keeps {H H' : Hp} (k : Keeps H H') : ∀ (ds : List PyData) (vs : List V), AnyL H vs ds → AnyL H' vs ds
  | [], _, h => by cases h; exact .nil
  | d :: ds, _, h => by
    cases h with
    | cons a b => exact .cons (any_keeps k d _ a) (anyL_keeps k ds _ b)
theorem anyK_keeps {H H' : Hp} (k : Keeps H H') : ∀ (ds : List (PyData × PyData)) (vs : List (Key × V)), AnyK H vs ds → AnyK H' vs ds
  | [], _, h => by cases h; exact .nil
  | (_, d) :: ds, _, h => by
    cases h with
    | cons a b => exact .cons (any_keeps k d _ a) (anyK_keeps k ds _ b)
end
theorem Keeps.refl {H : Hp} : Keeps H H := ⟨fun _ _ z => z, fun _ _ z => z, fun _ _ z => z⟩
theorem Keeps.trans {H H1 H2 : Hp} (a : Keeps H H1) (b : Keeps H1 H2) : Keeps H H2 := ⟨fun c xs z => b.l c xs (a.l c xs z), fun c xs z => b.t c xs (a.t c xs z), fun c xs z => b.d c xs (a.d c xs z)⟩
theorem Keeps.of {H H' : Hp} (k : Same H H') : Keeps H H' := ⟨fun b _ e => k b _ e, fun b _ e => k b _ e, fun b _ e => k b _ e⟩
theorem keeps_ins {H H' : Hp} {a C dx : Addr} {fs : List (Str × V)} (e : H a = some (.ins C dx fs)) (g : Grow a H H') : Keeps H H' := by
  have ne : ∀ b o, H b = some o → (∀ fs', o ≠ .ins C dx fs') → b ≠ a := fun b o h n z => by
    rw [z, e] at h
    exact n fs (Option.some.inj h).symm
  exact ⟨fun b xs h => g b _ (ne b _ h fun _ z => nomatch z) h, fun b xs h => g b _ (ne b _ h fun _ z => nomatch z) h, fun b xs h => g b _ (ne b _ h fun _ z => nomatch z) h⟩
theorem Any.keeps {H H' : Hp} {v : V} {d : PyData} (h : Any H v d) (k : Keeps H H') : Any H' v d := any_keeps k d v h
mutual
/-- no list and no dict in it -/
def noL : PyData → Bool
  | .list _ => false
  | .dict _ => false
  | .tuple ds => noLs ds
  | _ => true
def noLs : List PyData → Bool
  | [] => true
  | d :: ds => noL d && noLs ds
end
theorem noLs_of : ∀ {ds : List PyData}, (∀ d, d ∈ ds → noL d = true) → noLs ds = true
  | [], _ => rfl
  | d :: ds, h => by
    show (noL d && noLs ds) = true
    rw [h d List.mem_cons_self, noLs_of fun e he => h e (List.mem_cons_of_mem _ he)] <;> rfl
mutual
theorem any_noL {H : Hp} {D : Addr} {xs : List V} (h : H D = some (.lst xs)) : ∀ (d : PyData) (v : V), Any H v d → noL d = true → Any (del H D) v d
  | .none, _, a, _ => by cases a; exact .non
  | .bool b, _, a, _ => by cases a; exact .bl b
  | .int i, _, a, _ => by cases a; exact .int i
  | .str x, _, a, _ => by cases a; exact .str x
  | .list ds, _, _, z => by cases z
  | .dict ds, _, _, z => by cases z
  | .tuple ds, _, a, z => by
    cases a with
    | tup e b =>
      rename_i q ys
      have ne : q ≠ D := fun y => by
        rw [y, h] at e
        cases e
      exact .tup (by rw [del_ne ne]; exact e) (anyL_noL h ds _ b z)
theorem anyL_noL {H : Hp} {D : Addr} {xs : List V} (h : H D = some (.lst xs)) : ∀ (ds : List PyData) (vs : List V), AnyL H vs ds → noLs ds = true → AnyL (del H D) vs ds
  | [], _, a, _ => by cases a; exact .nil
  | d :: ds, _, a, z => by
    have z2 : (noL d && noLs ds) = true := z
    rw [Bool.and_eq_true] at z2
    cases a with
    | cons a b => exact .cons (any_noL h d _ a z2.1) (anyL_noL h ds _ b z2.2)
end
/-- a comprehension that makes data without lists -/
theorem lc_tup {J : It} {n : Nat} {G : Hp → Prop} {P : Nat → V → Prop} (w : Walk J n G (fun i H x H' => H' = H ∧ P i x)) {j : Nat} {σ : L2.St} {vs : List Nat} {te : TE} {H1 : Hp} {D : Addr} {Q : Hp → Prop} (hn : n ≤ 1000) (hD : H1 D = none) (hG : ∀ H, Same H1 H → G H) (f : Nat → PyData)
    (nf : ∀ i, i < n → noL (f i) = true)
    (hs : ∀ i x H, i < n → P i x → Same H1 H → (∃ o, H D = some o) → wipe ((wipe σ vs).set j (some x)) vs = wipe σ vs ∧ ∀ k : VK, (∀ y H', Same H H' → Any H' y (f i) → k y H') → te ((wipe σ vs).set j (some x)) H k)
    (hq : ∀ H acc, Same H1 H → H D = some (.lst acc) → AnyL (del H D) acc ((List.range n).map f) → Q H) :
    ∃ W : Nat → Nat → Hp → Prop, (∃ m, W 0 m (upd H1 D (.lst []))) ∧ ∀ i m H, W i m H →
      (J.stop i H ∧ Q H) ∨ (J.go i H ∧ ∃ Nx : Hp → Prop, (∀ H', Nx H' → ∃ m', m' < m ∧ W (i + 1) m' H') ∧ ∀ x H', J.yld i H x H' → gName j x (wipe σ vs) H' fun σ2 H2 => wipe σ2 vs = wipe σ vs ∧ tYes σ2 H2 fun b H3 =>
        if b = true then te σ2 H3 fun y H4 => ∃ acc, H4 D = some (.lst acc) ∧ acc.length < sizeLine ∧ Nx (upd H4 D (.lst (acc ++ [y]))) else Nx H3) := by
  refine lc_it w (Qd := Q) (Pv := fun i H => Same H1 H ∧ ∃ acc, H D = some (.lst acc) ∧ acc.length = i ∧ AnyL (del H D) acc ((List.range i).map f)) ⟨same_new hD, [], upd_same, rfl, .nil⟩ (fun i H _ h => hG H h.1) ?_ ?_
  · rintro i x H H' hi ⟨s1, acc, ha, hl, an⟩ ⟨rfl, hp⟩
    obtain ⟨e1, e2⟩ := hs i x H' hi hp s1 ⟨_, ha⟩
    refine ⟨e1, ?_⟩
    show te _ _ _
    refine e2 _ fun y H4 s2 hy => ?_
    have h4 := s2 _ _ ha
    refine ⟨acc, h4, Nat.lt_of_lt_of_le (by omega : acc.length < 1000) (by decide), ?_, acc ++ [y], upd_same, by rw [List.length_append, hl] <;> rfl, ?_⟩
    · intro b o e
      have ne : b ≠ D := ne_of_none e hD
      rw [upd_ne ne]
      exact s2 _ _ (s1 _ _ e)
    · rw [del_upd, List.range_succ, List.map_append]
      exact anyL_snoc (anyL_keep (Grow.del (Grow.of s2)) an) (any_noL h4 _ _ hy (nf i hi))
  · rintro H ⟨s1, acc, ha, hl, an⟩
    exact hq H acc s1 ha an
abbrev rTupOf (K : PySem.W.Frag) : List V → Hp → VK → Prop := fun xs H Q => ∃ p ys, xs = [.ref p] ∧ ((SqL K H p ys ∧ ∀ l, H l = none → Q (.ref l) (upd H l (.tup ys))) ∨ (SqT K H p ys ∧ Q (.ref p) H))
abbrev rLstOf (K : PySem.W.Frag) : List V → Hp → VK → Prop := fun xs H Q => ∃ p ys, xs = [.ref p] ∧ (SqL K H p ys ∨ SqT K H p ys) ∧ ∀ l, H l = none → Q (.ref l) (upd H l (.lst ys))
section
variable {K : PySem.W.Frag} {H : Hp} {v : V} {d : PyData} {Q : VK}
/-- tuple(x) -/
theorem tup_of_any (an : Any H v d) (e : isSeqD d = true) (q : ∀ ts H', Same H H' → Any H' (.ref ts) (.tuple (itemsD d)) → Q (.ref ts) H') : rTupOf K [v] H Q := by
  cases an with
  | lst ea al => exact ⟨_, _, rfl, .inl ⟨SqL.of ea, fun l hl => q l _ (same_new hl) (.tup upd_same (anyL_keep (same_new hl) al))⟩⟩
  | tup ea al => exact ⟨_, _, rfl, .inr ⟨SqT.of ea, q _ _ (fun _ _ z => z) (.tup ea al)⟩⟩
  | _ => cases e
/-- list(x) -/
theorem list_of_any (an : Any H v d) (e : isSeqD d = true) (q : ∀ l ys, H l = none → AnyL H ys (itemsD d) → Q (.ref l) (upd H l (.lst ys))) : rLstOf K [v] H Q := by
  cases an with
  | lst ea al => exact ⟨_, _, rfl, .inl (SqL.of ea), fun l hl => q l _ hl al⟩
  | tup ea al => exact ⟨_, _, rfl, .inr (SqT.of ea), fun l hl => q l _ hl al⟩
  | _ => cases e
end
/-- tuple(x), list(x) of data -/
def rTupA : List V → Hp → VK → Prop := fun xs H Q => ∃ v d, xs = [v] ∧ Any H v d ∧ isSeqD d = true ∧ ∀ ts H', Same H H' → Any H' (.ref ts) (.tuple (itemsD d)) → Q (.ref ts) H'
def rLstA : List V → Hp → VK → Prop := fun xs H Q => ∃ v d, xs = [v] ∧ Any H v d ∧ isSeqD d = true ∧ ∀ l ys, H l = none → AnyL H ys (itemsD d) → Q (.ref l) (upd H l (.lst ys))
theorem call_tupA {X : Cx} : CallR X (.type "tuple") rTupA := by
  intro pins s σ H xs us Q I r h
  obtain ⟨v, d, rfl, an, e, q⟩ := h
  exact call_tuple_of pins s σ H _ us Q I r (tup_of_any an e q)
theorem call_lstA {X : Cx} : CallR X (.type "list") rLstA := by
  intro pins s σ H xs us Q I r h
  obtain ⟨v, d, rfl, an, e, q⟩ := h
  exact call_list_of pins s σ H _ us Q I r (list_of_any an e q)
theorem noL_mods {p : Int} {ds : List PyData} (h : ds.all isIntD = true) : noLs (ds.map (modD p)) = true := by
  refine noLs_of fun d hd => ?_
  obtain ⟨e, he, rfl⟩ := List.mem_map.mp hd
  have := List.all_eq_true.mp h e he
  cases e with
  | int n => rfl
  | _ => cases this
theorem vec_parts {n : Int} {d : PyData} (e : isVecD n d = true) : isSeqD d = true ∧ (((itemsD d).length : Nat) : Int) = n ∧ (itemsD d).all isIntD = true := by
  unfold isVecD at e
  simp only [Bool.and_eq_true, decide_eq_true_eq] at e
  exact e
theorem mat_parts {n m : Int} {d : PyData} (e : isMatD n m d = true) : isSeqD d = true ∧ (((itemsD d).length : Nat) : Int) = n ∧ ∀ x, x ∈ itemsD d → isVecD m x = true := by
  unfold isMatD at e
  simp only [Bool.and_eq_true, decide_eq_true_eq, List.all_eq_true] at e
  exact e
theorem noL_rows {p h w : Int} {m : PyData} (e : isMatD h w m = true) : noLs (rowsM p m) = true := by
  refine noLs_of fun d hd => ?_
  obtain ⟨r, hr, rfl⟩ := List.mem_map.mp hd
  exact noL_mods (vec_parts ((mat_parts e).2.2 r hr)).2.2
theorem bad_none_all {x : Str} {ds dm : PyData} (h : badAt x ds dm = none) : ∀ j, j < x.length → matOk x ds dm j = true := by
  intro j hj
  unfold badAt at h
  rw [List.find?_eq_none] at h
  have := h j (List.mem_range.mpr hj)
  simpa using this
end Rw

set_option Elab.async false
set_option linter.all false
set_option maxRecDepth 100000
set_option maxHeartbeats 4000000
/-! TkY: ranges as values, walked; methods called in a try's body; bars as data. -/
namespace Rw
open PySem PySem.Spec PyProof.Rows L2
section
variable {X : Cx}
theorem cr_range1 : CallR X (.type "range") (fun vs H Q => ∃ j, vs = [V.int j] ∧ ∀ p, H p = none → Q (.ref p) (upd H p (.rng 0 j))) := by
  intro pins s σ H vs us Q I r h
  obtain ⟨j, rfl, q⟩ := h
  obtain ⟨u1, rfl, rj⟩ := vals1 r
  obtain ⟨t, rfl⟩ := rj
  refine call_range_1 ⟨.ref s.heap.objs.size, upd H s.heap.objs.size (.rng 0 j), I.laid (t' := s.toks + 1 + 1) (fun b o e => Heap.get?_push_of_some _ e) (Nat.le_refl _) ?_, rfl, q _ (I.hok.fresh (Nat.le_refl _))⟩
  exact ⟨s.toks, t, s.toks + 1, Heap.get?_push_size _ rfl⟩
def iRngV (te : TE) : TI := fun σ H R => te σ H fun x H1 => ∃ a lo hi, x = .ref a ∧ H1 a = some (.rng lo hi) ∧ (-(2 ^ 62) ≤ lo ∧ lo < 2 ^ 62 ∧ -(2 ^ 62) ≤ hi ∧ hi < 2 ^ 62) ∧ R (Itr lo (hi - lo).toNat) H1
theorem pi_rngV {tg e : Expr} {te : TE} (he : PE X e te) : PI X tg e (iRngV te) := by
  refine ⟨fun pins s σ H R I h => ?_⟩
  refine thn (he.run pins s σ H _ I h) fun v s1 ⟨x, H1, I1, r1, q1⟩ => ?_
  obtain ⟨a, lo, hi, e, ea, ⟨h1, h2, h3, h4⟩, q⟩ := q1
  subst e
  cases r1
  obtain ⟨t, u, v, hg⟩ := (show ObjOk X.prog X.w H1 s1.heap a (.rng lo hi) from I1.hok a _ ea)
  refine wpAny_pyIter_range (show IsRange s1.heap a lo hi 1 t u v from hg) (small_one h1 h2 h3 h4) ?_
  refine ⟨s1.heap.objs.size, [s1.heap.objs.size], _, _, H1, rfl, I1.kept (t' := s1.toks) fun b o e => Heap.get?_push_of_some _ e, turn_range _ lo (hi - lo).toNat, ?_, fun b hb => ?_, q⟩
  · have e1 : lo + ((0 : Nat) : Int) * 1 = lo := by simp
    have e2 : (((hi - lo).toNat : Nat) : Int) - ((0 : Nat) : Int) = Builtin.Range.rangeSize lo hi 1 := by rw [rangeSize_one]; split <;> omega
    show IsRangeIter _ _ (lo + ((0 : Nat) : Int) * 1) ((((hi - lo).toNat : Nat) : Int) - ((0 : Nat) : Int)) 1
    rw [e1, e2]
    exact Heap.get?_push_size _ rfl
  · have e : b = s1.heap.objs.size := by simpa using hb
    subst e
    exact I1.fpOk (Nat.le_refl _) (I1.hok.fresh (Nat.le_refl _))
end
section
variable {X : Cx} {CX : CXT} {k : Nat} {f C : Addr} {fd : FuncData} {ps : List Str} {sp : Sp} {dvs : List V} {ds : List Value} {m : Str} {p pos apos : Pos} {e o : Expr} {es : List Expr} {ta : TE} {t : TA}
/-- o.m(e, ..) in a try's body: what is raised is wished for at the slots -/
def tMethS (C : Addr) (m : Str) (sp : Sp) (dvs : List V) (W : WX) (ta : TE) (t : TA) : TE := fun σ H Q => ta σ H fun x H1 => ∃ a dx fs, x = .ref a ∧ H1 a = some (.ins C dx fs) ∧ fs.lookup m = none ∧ t σ H1 fun vs H2 => sp (x :: (vs ++ dvs)) H2 Q (fun cls d H' => W cls d σ H')
theorem run_ownS {W : WX} {pins : List (Addr × Obj)} {σ : L2.St} {H : Hp} {s : Shared} {Q : VK} {us : List Value} {vs : List V} (F : FnOk X.prog X.w X.K X.mg X.base CX k f fd ps sp) (hr : Room k X.A) (hb : Binds X.K fd ps ds) (hd : Vals dvs ds) (hx : PassesAt CX X σ (fun cls d H' => W cls d σ H'))
    (I : Inv X pins σ H s) (r : Vals vs us) (h : sp (vs ++ dvs) H Q (fun cls d H' => W cls d σ H')) : wpAny (model X.prog X.w) X.A (call (.ref f) us) (EP X pins σ Q) X.xe s := by
  have r2 : Vals (vs ++ dvs) (us ++ ds) := Vals.append r hd
  have cnt : (us ++ ds).length = ps.length := (r2.length).symm.trans (F.len _ _ _ _ h)
  refine wpAny_call (codeAny_mono (F.run X.A X.stack s H ⟨us, []⟩ (us ++ ds) (vs ++ dvs) Q _ hr I.env0 (hb s us I.kIn cnt) r2 h) ?_)
  intro res s2 hq
  cases res with
  | error er => exact hx pins H s er s2 I hq
  | ok fl =>
    cases fl with
    | ret u => exact Inv.after I hq
    | next => exact hq.elim
    | brk => exact hq.elim
    | cont => exact hq.elim
theorem pe_methS {W : WX} {pl : Sem Bool} (he : PE X o ta) (c : Cls X.K C) (hm : Meth X.K C m f) (F : FnOk X.prog X.w X.K X.mg X.base CX k f fd ps sp) (hr : Room k X.A) (hb : Binds X.K fd ps ds) (hd : Vals dvs ds) (hx : ∀ σ, PassesAt CX X σ (fun cls d H' => W cls d σ H')) (ha : PA X (e :: es) t)
    (hst : starEach (e :: es) X.env = (false, eval e X.env) :: starEach es X.env := by rfl) (hpl : (backTo pos (starEach es X.env)).any (·.1) = false := by rfl)
    (ht : eval (.Call (.Attribute o m apos) (e :: es) [] pos) X.env = (do
      let ov ← eval o X.env
      standAt apos.atName
      let (f, first) ← holding [ov] (getMethod ov m pl)
      callWith pos f first (backTo pos (starEach (e :: es) X.env)) (backToKw pos (keywordEach [] X.env))) := by rfl) :
    PE X (.Call (.Attribute o m apos) (e :: es) [] pos) (tMethS C m sp dvs W ta t) := by
  refine ⟨fun pins s σ H Q I h => ?_⟩
  refine PySem.W.methodCall_KW (pl := pl) (thn (he.run pins s σ H _ I h) fun u s1 ⟨x, H1, I1, rx, a, dx, fs, ex, ea, l, q⟩ => ?_) ht
  subst ex
  obtain rfl : u = Value.ref a := rx
  refine getmeth_ok I1 ea c hm l ?_
  refine PySem.W.callWith_K (first := [.ref a]) (h₀ := X.base) I.ok.mod.kin hm.kp (thn (ha.run pos pins s1 σ H1 _ I1 q) fun us s2 ⟨vs, H2, I2, r, q2⟩ => ⟨I2.kIn, ?_⟩) hst hpl
  exact run_ownS (us := .ref a :: us) (vs := .ref a :: vs) F hr hb hd (hx σ) I2 (.cons rfl r) q2
theorem run_makeS {W : WX} {pins : List (Addr × Obj)} {σ : L2.St} {H : Hp} {s : Shared} {Q : VK} {us : List Value} {vs : List V} (M : Mk X.K C f) (F : FnOk X.prog X.w X.K X.mg X.base CX k f fd ps sp) (hr : Room (k + 1) X.A) (hb : Binds X.K fd ps ds) (hd : Vals dvs ds)
    (hx : ∀ σ, PassesAt CX X σ (fun cls d H' => W cls d σ H')) (I : Inv X pins σ H s) (r : Vals vs us)
    (h : ∀ x dx, H x = none → H dx = none → dx ≠ x → sp (.ref x :: (vs ++ dvs)) (upd (upd H dx (.own x)) x (.ins C dx [])) (fun v H2 => v = .non ∧ Q (.ref x) H2) (fun cls d H' => W cls d σ H')) :
    wpAny (model X.prog X.w) X.A (call (.ref C) us) (EP X pins σ Q) X.xe s := by
  have hq := h (s.heap.objs.size + 1) s.heap.objs.size (I.hok.fresh (Nat.le_succ _)) (I.hok.fresh (Nat.le_refl _)) (Nat.ne_of_lt (Nat.lt_succ_self _))
  have I2 := Inv.made (C := C) I
  have r2 : Vals (V.ref (s.heap.objs.size + 1) :: (vs ++ dvs)) (Value.ref (s.heap.objs.size + 1) :: (us ++ ds)) := .cons rfl (r.append hd)
  have hl : (Value.ref (s.heap.objs.size + 1) :: us ++ ds).length = ps.length := by
    have e := r2.length
    rw [F.len _ _ _ _ hq] at e
    exact e.symm
  refine wpAny_call (make_map (f := f) I.kIn M.makes M.init (beq_iff_eq.mp M.fn) (codeAny_mono (F.run _ X.stack _ _ ⟨Value.ref (s.heap.objs.size + 1) :: us, []⟩ (Value.ref (s.heap.objs.size + 1) :: (us ++ ds)) _ _ _ (hr.make C us [])
    (I2.env0.make C us []) (hb _ (Value.ref (s.heap.objs.size + 1) :: us) I2.kIn hl) r2 hq) fun r s' hq' => ?_))
  cases r with
  | error e => exact hx σ pins _ _ e s' I2 hq'
  | ok fl =>
    cases fl with
    | ret u =>
      obtain ⟨v, H', I3, rv, ev, q3⟩ := I2.after hq'
      subst ev
      exact ⟨rv, ⟨V.ref (s.heap.objs.size + 1), H', I3, rfl, q3⟩⟩
    | next => exact False.elim hq'
    | brk => exact False.elim hq'
    | cont => exact False.elim hq'
/-- C(e, ..) in a try's body -/
def tMakeS (C : Addr) (sp : Sp) (dvs : List V) (W : WX) (t : TA) : TE := fun σ H Q => t σ H fun vs H1 => ∀ x dx, H1 x = none → H1 dx = none → dx ≠ x → sp (.ref x :: (vs ++ dvs)) (upd (upd H1 dx (.own x)) x (.ins C dx [])) (fun v H2 => v = .non ∧ Q (.ref x) H2) (fun cls d H' => W cls d σ H')
theorem pe_makeS {x : Str} {W : WX} (M : Mk X.K C f) (F : FnOk X.prog X.w X.K X.mg X.base CX k f fd ps sp) (hr : Room (k + 1) X.A) (hg : Gl X x) (hm : X.mg x = some (.ref C)) (hb : Binds X.K fd ps ds) (hd : Vals dvs ds) (hx : ∀ σ, PassesAt CX X σ (fun cls d H' => W cls d σ H'))
    (ha : PA X (e :: es) t) (hdb : (x == ("__debug__" : Str)) = false := by decide) (he : starEach (e :: es) X.env = (false, eval e X.env) :: starEach es X.env := by rfl) (hpl : (backTo pos (starEach es X.env)).any (·.1) = false := by rfl) :
    PE X (.Call (.Name x p) (e :: es) [] pos) (tMakeS C sp dvs W t) := by
  refine ⟨fun pins s σ H Q I h => ?_⟩
  refine wpAny_Call_Name_kw (ld_glob I hg hm ?_ hdb)
  refine PySem.W.callWith_K (h₀ := X.base) I.ok.mod.kin M.kp (thn (ha.run pos pins s σ H _ I h) fun us s1 ⟨vs, H1, I1, r, q⟩ => ⟨I1.kIn, ?_⟩) he hpl
  exact run_makeS M F hr hb hd hx I1 r q
end
/-! ### bars -/
def barD (q : Nat × Nat) : PyData := .tuple [.int (q.1 : Nat), .int (q.2 : Nat)]
def partL (a j : Nat) : List (Nat × Nat) := ((List.range j).filter fun b => decide (a ≤ b)).map fun b => (a, b)
def preL (n i : Nat) : List (Nat × Nat) := (List.range i).flatMap fun a => partL a n
def barsL (n : Nat) : List (Nat × Nat) := preL n n
theorem part_len (a j : Nat) : (partL a j).length ≤ j := by
  unfold partL
  rw [List.length_map]
  exact Nat.le_trans (List.length_filter_le _ _) (by simp)
theorem pre_len (n : Nat) : ∀ i, (preL n i).length ≤ i * n
  | 0 => by simp [preL]
  | i + 1 => by
    unfold preL
    rw [List.range_succ, List.flatMap_append, List.length_append, Nat.succ_mul]
    have h1 := pre_len n i
    have h2 := part_len i n
    unfold preL at h1
    simp only [List.flatMap_cons, List.flatMap_nil, List.append_nil]
    omega
theorem pre_succ (n i : Nat) : preL n (i + 1) = preL n i ++ partL i n := by
  unfold preL
  rw [List.range_succ, List.flatMap_append]
  simp
theorem part_succ (a j : Nat) : partL a (j + 1) = if a ≤ j then partL a j ++ [(a, j)] else partL a j := by
  unfold partL
  rw [List.range_succ, List.filter_append, List.map_append]
  by_cases h : a ≤ j
  · rw [if_pos h]
    simp [h]
  · rw [if_neg h]
    simp [h]
def spBars (CT : Addr) : Sp := fun vs H Q E => ∃ v d, vs = [v] ∧ Any H v d ∧ Short d ∧ (isPatD d = false → Thrown CT v H E) ∧
  ∀ x, d = .str x → isPatD d = true → ∀ l acc H', H l = none → Same H H' → H' l = some (.lst acc) → AnyL (del H' l) acc ((barsL (x.length + 1)).map barD) → Q (.ref l) H'
def spLenR (C : Addr) : Sp := fun vs H Q _ => ∃ a x p ss mm, vs = [.ref a] ∧ RowAt C H a x p ss mm ∧ Q (.int (ss.length : Nat)) H
def spMatx (C CL : Addr) : Sp := fun vs H Q E => ∃ a v d x p ss mm, vs = [.ref a, v] ∧ RowAt C H a x p ss mm ∧ Any H v d ∧ mm.length ≤ 1000 ∧ (inB d (.int 0) (.int ((mm.length : Nat) - 1 : Int)) = false → ∀ H1, Same H H1 → Thrown CL v H1 E) ∧
  (∀ i : Nat, d = .int i → i < mm.length → ∀ l ys H', H l = none → Same H H' → H' l = some (.lst ys) → AnyL (del H' l) ys (mm[i]?.getD []) → Q (.ref l) H')
def spMaps (C : Addr) : Sp := fun vs H Q _ => ∃ a x p ss mm, vs = [.ref a] ∧ RowAt C H a x p ss mm ∧ mm.length ≤ 1000 ∧ ∀ l acc H', H l = none → Same H H' → H' l = some (.lst acc) → AnyL (del H' l) acc (mm.map .list) → Q (.ref l) H'
end Rw

set_option Elab.async false
set_option linter.all false
set_option maxRecDepth 100000
set_option maxHeartbeats 4000000
/-! TkBC: an operator of an own class, in a try's body and outside. -/
namespace Rw
open PySem PySem.Spec PyProof.Rows L2
/-- a class with an own operator -/
structure OpC (K : PySem.W.Frag) (C : Addr) (op : Operator) (f : Addr) : Prop where
  at_ : PySem.W.findIn K (.ref C) (PySem.dunder op.info.2) = some (some (.ref f))
  fn : PySem.W.isFn K (.ref f) = true
  first : PySem.W.selfFirst K C = true
section
variable {X : Cx} {CX : CXT} {k : Nat} {f C : Addr} {fd : FuncData} {ps : List Str} {sp : Sp} {op : Operator} {a b : Expr} {ta tb : TE} {pos : Pos}
theorem back_of {v : V} {u : Value} {Q : Value → Shared → Prop} {s : Shared} (r : RelV v u) (h : Q u s) : PySem.W.CmpBack Q u s := by
  cases v with
  | int i => obtain ⟨t, rfl⟩ := r; exact h
  | str x => obtain ⟨t, rfl⟩ := r; exact h
  | ref p => cases r; exact h
  | bl q => cases r; exact h
  | non => cases r; exact h
  | ty n => cases r; exact h
  | byt b => obtain ⟨t, rfl⟩ := r; exact h
  | flt b => obtain ⟨t, rfl⟩ := r; exact h
theorem run_opS {W : WX} {pins : List (Addr × Obj)} {σ : L2.St} {H : Hp} {s : Shared} {Q : VK} {x y dx dy : Addr} {fs gs : List (Str × V)} (O : OpC X.K C op f) (F : FnOk X.prog X.w X.K X.mg X.base CX k f fd ps sp) (hr : Room k X.A) (hb : Binds X.K fd ps []) (hx : PassesAt CX X σ (fun cls d H' => W cls d σ H'))
    (I : Inv X pins σ H s) (ex : H x = some (.ins C dx fs)) (ey : H y = some (.ins C dy gs)) (h : sp [.ref x, .ref y] H Q (fun cls d H' => W cls d σ H')) : wpAny (model X.prog X.w) X.A (binaryOp op (.ref x) (.ref y)) (EP X pins σ Q) X.xe s := by
  obtain ⟨mA, J, _⟩ := ins_get I.hok ex
  obtain ⟨mB, J', _⟩ := ins_get I.hok ey
  obtain ⟨od, J, _⟩ := J.look
  obtain ⟨od', J', _⟩ := J'.look
  obtain ⟨m, hF⟩ := I.fr
  refine PySem.W.binop_K hF I.ok.mod.kin J J'.type O.first O.at_ O.fn ?_
  refine wpAny_mono (run_ownS (us := [.ref x, .ref y]) (vs := [.ref x, .ref y]) (ds := []) (dvs := []) F hr hb .nil hx I (.cons rfl (.cons rfl .nil)) h) (fun u s' z => ?_) fun _ _ z => z
  obtain ⟨v, H', I', r, q⟩ := z
  exact back_of r ⟨v, H', I', r, q⟩
/-- a op b by the class's own def, in a try's body -/
def tOpS (C : Addr) (sp : Sp) (W : WX) (ta tb : TE) : TE := fun σ H Q => ta σ H fun v H1 => tb σ H1 fun u H2 => ∃ x y dx dy fs gs, v = .ref x ∧ u = .ref y ∧ H2 x = some (.ins C dx fs) ∧ H2 y = some (.ins C dy gs) ∧ sp [.ref x, .ref y] H2 Q (fun cls d H' => W cls d σ H')
theorem pe_opS {W : WX} (O : OpC X.K C op f) (F : FnOk X.prog X.w X.K X.mg X.base CX k f fd ps sp) (hr : Room k X.A) (hb : Binds X.K fd ps []) (hx : ∀ σ, PassesAt CX X σ (fun cls d H' => W cls d σ H')) (ha : PE X a ta) (hb2 : PE X b tb) : PE X (.BinOp a op b pos) (tOpS C sp W ta tb) := by
  refine ⟨fun pins s σ H Q I h => ?_⟩
  refine wpAny_BinOp (binT ha hb2 I h fun v u s2 x y H2 I2 rx ry q => ?_)
  obtain ⟨x', y', dx, dy, fs, gs, rfl, rfl, ex, ey, q⟩ := q
  cases rx
  cases ry
  exact run_opS O F hr hb (hx σ) I2 ex ey q
end
end Rw

set_option Elab.async false
set_option linter.all false
set_option maxRecDepth 100000
set_option maxHeartbeats 4000000
/-! TkBA: what stands behind the top: methods of a class, written tables, ints, defs with two defaults. -/
namespace Rw
open PySem PySem.Spec PyProof.Rows L2
def MethHere (K : PySem.W.Frag) (C : Addr) (x q : Str) (st : Stmt) : Prop := ∃ f : Addr, PySem.W.findIn K (.ref C) x = some (some (.ref f)) ∧ PySem.W.isFn K (.ref f) = true ∧ DefAt K x q st f
def TabIHere (K : PySem.W.Frag) (x : Str) (d : Addr) (kvs : List (Int × Value)) : Prop := PySem.W.nsIn K mainGlobals x = some (some (.ref d)) ∧ TabI K d kvs
def TabSHere (K : PySem.W.Frag) (w : World) (x : Str) (d : Addr) (kvs : List (Str × Value)) : Prop := PySem.W.nsIn K mainGlobals x = some (some (.ref d)) ∧ TabS K w d kvs
/-- a property of a class -/
def PropHere (K : PySem.W.Frag) (C : Addr) (x q : Str) (st : Stmt) : Prop := ∃ p g : Addr, PropOf K C x p g ∧ DefAt K x q st g
section
variable {K : PySem.W.Frag} {mg : Str → Option Value} {h : Heap}
theorem PropHere.of {C : Addr} {x q : Str} {st : Stmt} {p g : Addr} {rest : List Value} {oc : Value} {od : Option Addr} {kV dc pm : Value} {an : Option Addr} {cd ct : Value} {sl : Array (Option Value)} (a : PySem.W.findIn K (.ref C) x = some (some (.ref p)))
    (ge : PySem.W.specialIn K (.ref p) "__get__" = some (some (.builtin "property.__get__"))) (ta : PySem.W.takesIn K (.ref p) = some true) (re : PySem.W.recIn K p "property" = some (.ref g :: rest))
    (l : K.lookup g = some ⟨oc, od, .func (PySem.W.fnOf x q (defArgs st) (defBody st) (defScope st) .none kV dc pm an cd ct), sl⟩) (c : PySem.W.codeIn K cd q = true) (k : PySem.W.keepIn K (.ref g) = true) : PropHere K C x q st :=
  ⟨p, g, ⟨a, ge, ta, ⟨rest, re⟩⟩, oc, od, kV, dc, pm, an, cd, ct, sl, l, c, k⟩
theorem PropHere.pr {C : Addr} {x q : Str} {st : Stmt} {ps : List Str} (D : PropHere K C x q st)
    (b : ∀ (kV doc pm : Value) (an : Option Addr) (cdv ct : Value) (us : List Value), us.length = ps.length → bindArgs (PySem.W.fnOf x q (defArgs st) (defBody st) (defScope st) .none kV doc pm an cdv ct) ⟨us, []⟩ = pure (ps.zip us)) :
    ∃ (p g : Addr) (fd : FuncData), PropOf K C x p g ∧ Fun K x q st g fd ∧ Binds K fd ps [] := by
  obtain ⟨p, g, hp, oc, od, kV, dc, pm, an, cd, ct, sl, l, c, k⟩ := D
  have F := fun_mk (x := x) (qual := q) (st := st) l c k
  exact ⟨p, g, _, hp, F, F.binds b⟩
theorem MethHere.of {C : Addr} {x q : Str} {st : Stmt} {f : Addr} {oc : Value} {od : Option Addr} {kV dc pm : Value} {an : Option Addr} {cd ct : Value} {sl : Array (Option Value)} (g : PySem.W.findIn K (.ref C) x = some (some (.ref f))) (fn : PySem.W.isFn K (.ref f) = true)
    (l : K.lookup f = some ⟨oc, od, .func (PySem.W.fnOf x q (defArgs st) (defBody st) (defScope st) .none kV dc pm an cd ct), sl⟩) (c : PySem.W.codeIn K cd q = true) (k : PySem.W.keepIn K (.ref f) = true) : MethHere K C x q st :=
  ⟨f, g, fn, oc, od, kV, dc, pm, an, cd, ct, sl, l, c, k⟩
theorem TabIHere.of {x : Str} {d : Addr} {kvs : List (Int × Value)} {l : List DictEntry} {n : Nat} (g : PySem.W.nsIn K mainGlobals x = some (some (.ref d))) (k : K.lookup d = some ⟨.type "dict", none, .dict l.toArray n, #[]⟩) (t : IntTab l kvs) (z : (d == sysModules) = false) : TabIHere K x d kvs :=
  ⟨g, ⟨⟨l, n, k, t⟩, z⟩⟩
theorem TabSHere.of {w : World} {x : Str} {d : Addr} {kvs : List (Str × Value)} {l : List DictEntry} {n : Nat} (g : PySem.W.nsIn K mainGlobals x = some (some (.ref d))) (k : K.lookup d = some ⟨.type "dict", none, .dict l.toArray n, #[]⟩) (t : TxtTab w.params l kvs) (z : (d == sysModules) = false) : TabSHere K w x d kvs :=
  ⟨g, ⟨⟨l, n, k, t⟩, z⟩⟩
theorem MethHere.mt {C : Addr} {x q : Str} {st : Stmt} {ps : List Str} (D : MethHere K C x q st)
    (b : ∀ (kV doc pm : Value) (an : Option Addr) (cdv ct : Value) (us : List Value), us.length = ps.length → bindArgs (PySem.W.fnOf x q (defArgs st) (defBody st) (defScope st) .none kV doc pm an cdv ct) ⟨us, []⟩ = pure (ps.zip us)) :
    ∃ (f : Addr) (fd : FuncData), PySem.W.findIn K (.ref C) x = some (some (.ref f)) ∧ PySem.W.isFn K (.ref f) = true ∧ PySem.W.keepIn K (.ref f) = true ∧ Fun K x q st f fd ∧ Binds K fd ps [] := by
  obtain ⟨f, g, fn, oc, od, kV, dc, pm, an, cd, ct, sl, l, c, k⟩ := D
  have F := fun_mk (x := x) (qual := q) (st := st) l c k
  exact ⟨f, _, g, fn, k, F, F.binds b⟩
end
/-- a def with two defaults None, called with all three -/
theorem DflHere.own3 {l : PySem.Program} {w : World} {K : PySem.W.Frag} {mg : Str → Option Value} {base h : Heap} {x p1 p2 p3 : Str} {st : Stmt} {CX : CXT} {k : Nat} {sp : Sp} (D : DflHere K x st [.none, .none]) (X : K.In h) (G : h.Ns mainGlobals mg)
    (b : ∀ (T : Addr) (kV doc pm : Value) (an : Option Addr) (cdv ct : Value) (us its : List Value), us.length = 3 → its.length = 2 →
      ∃ g, bindArgs (PySem.W.fnOf x x (defArgs st) (defBody st) (defScope st) (.ref T) kV doc pm an cdv ct) ⟨us, []⟩ = seqItems? (.ref T) >>= g ∧ g (some its.toArray) = pure (([p1, p2, p3] : List Str).zip (us ++ its.drop 2)))
    (ok : ∀ (f : Addr) (fd : FuncData), FunD K x x (defArgs st) (defBody st) (defScope st) [.non, .non] [] f fd → FnOk l w K mg base CX k f fd [p1, p2, p3] sp) : Own l w K mg base CX k x [p1, p2, p3] [] sp := by
  obtain ⟨f, T', oc, od, kV, dc, pm, an, cd, ct, sl, tc, td, n, ts, g, l', c', k', lT⟩ := D
  have F : FunD K x x (defArgs st) (defBody st) (defScope st) [.non, .non] [] f _ := ⟨⟨oc, od, _, kV, dc, pm, an, cd, ct, sl, rfl, l', c', .inr ⟨by simp, T', _, [.none, .none], n, rfl, lT, rfl, .cons rfl (.cons rfl .nil)⟩, .inl rfl⟩, k'⟩
  obtain ⟨ds, v, bb⟩ := F.binds1 (ps := [p1, p2, p3]) 3 2 (by simp) rfl b
  exact ⟨f, _, ds, PySem.W.mg_of X G g, k', ok f _ F, bb, v⟩
end Rw

set_option Elab.async false
set_option linter.all false
set_option maxRecDepth 100000
set_option maxHeartbeats 4000000
/-! TkBD: own errors without a field: their __init__ calls that of the root. -/
namespace Rw
open PySem PySem.Spec PyProof.Rows L2
/-- what is asked of the root, over ValueError, without an own __init__ -/
structure RootC (K : PySem.W.Frag) (CR : Addr) : Prop where
  sp : PySem.W.specialIn K (.ref CR) "__getattribute__" = some (some (.builtin "type.__getattribute__"))
  ty : PySem.W.typeIn K (.ref CR) = some (.type "type")
  rd : PySem.W.readsIn K CR (.type "type") = true
  ini : PySem.W.findCls K (.ref CR) (.type "type") "__init__" = some (.val (.builtin "ValueError.__init__"))
section
variable {X : Cx} {e : Expr} {es : List Expr} {ta : TA} {p1 p2 p pos pos2 : Pos} {x : Str} {CR : Addr}
theorem pe_rootini {pl : Sem Bool} (R : RootC X.K CR) (hg : Gl X x) (hm : X.mg x = some (.ref CR)) (ha : PA X (e :: es) ta) (hdb : (x == ("__debug__" : Str)) = false := by decide)
    (hc : eval (.Call (.Attribute (.Name x p1) "__init__" p2) (e :: es) [] pos) X.env = (do
      let ov ← eval (.Name x p1) X.env
      standAt p2.atName
      let (f, first) ← holding [ov] (getMethod ov "__init__" pl)
      callWith pos f first (backTo pos (starEach (e :: es) X.env)) (backToKw pos (keywordEach [] X.env))) := by rfl)
    (he : starEach (e :: es) X.env = (false, eval e X.env) :: starEach es X.env := by rfl) (hpl : (backTo pos (starEach es X.env)).any (·.1) = false := by rfl) :
    PE X (.Call (.Attribute (.Name x p1) "__init__" p2) (e :: es) [] pos) (tVeI X.K ta) := by
  refine ⟨fun pins s σ H Q I h => ?_⟩
  refine PySem.W.methodCall_KW (ld_glob I hg hm ?_ hdb) hc
  obtain ⟨m, fr⟩ := I.fr
  refine PySem.W.method_of_cls fr I.ok.mod.kin R.sp ?_
  refine PySem.W.cls_val fr I.ok.mod.kin R.ty R.rd R.ini (by decide +kernel) ?_
  show wpAny _ _ (callWith pos (Value.builtin "ValueError.__init__") [] (backTo pos (starEach (e :: es) X.env)) []) _ _ _
  refine PyProof.Rows.callWith_method1 (thn (ha.run pos pins _ σ H _ (I.tok _) h) fun us s1 ⟨vs, H1, I1, r1, a, C, ws, ev, hl, T, ea, q⟩ => ?_) he hpl
  subst ev
  cases r1 with
  | @cons _ u0 _ ur ra rw' =>
    obtain rfl : u0 = Value.ref a := ra
    have hlen : ur.length ≤ sizeLine := by
      rw [← Paired.length rw', sizeLine_eq]
      omega
    exact oinit_ok T I1 ea hlen fun s' J => ⟨.non, H1, J, rfl, q⟩
end
section
variable {X : Cx}
theorem mk_endN {pins : List (Addr × Obj)} {σ : L2.St} {H1 H2 : Hp} {Q : XK} {hp hp2 h2 : Heap} {g1 g2 : Array GenState} {d1 d2 : Drawn} {t1 t2 : Nat} {os1 os2 : OsState} {a C : Addr} (T : Raises X (.ref C)) (I1 : Inv X pins σ H1 ⟨hp, g1, d1, t1, os1⟩)
    (ha : hp.objs.size ≤ a) (k : ∀ b o, hp.get? b = some o → hp2.get? b = some o) (un : Un (frs X.stack) [] (upd H1 a (exo a C none)) H2 hp2 h2) (hok : HOk X.prog X.w H2 h2) (ho : os2 = os1) (hb : AllBare g2)
    (ea : H2 a = some (exo a C none)) (q : Q (.ref C) none (del H2 a)) : MkP X pins σ Q (.ref a) ⟨h2, g2, d2, t2, os2⟩ := by
  obtain ⟨t0, hoe⟩ := exo_at hok ea
  have hn : H1 a = none := I1.hok.fresh ha
  obtain ⟨G, g1', g2'⟩ := restrict h2 fun b => decide (b ≠ a)
  have gk : ∀ b, b ≠ a → G.get? b = h2.get? b := fun b hb => g1' b (decide_eq_true hb)
  have ge : G.get? a = none := g2' a (by simp)
  have nha : ∀ {b : Addr} {o : Obj}, hp.get? b = some o → b ≠ a := fun {b o} z => Nat.ne_of_lt (Nat.lt_of_lt_of_le (Heap.lt_size z) ha)
  have up : ∀ {b : Addr}, b ≠ a → H1 b = none → upd H1 a (exo a C none) b = none := fun {b} hb n => by rw [upd_ne hb]; exact n
  have U : Un (frs X.stack) [] H1 (del H2 a) hp G := {
    keep := fun b o z n hf hx => by
      rw [gk b (nha z)]
      exact un.keep b o (k b o z) (up (nha z) n) hf hx
    slot := fun b o z n hf hx => by
      rw [gk b (nha z)]
      exact un.slot b o (k b o z) (up (nha z) n) hf hx
    free := fun b o z n hx => by
      rw [del_ne (nha z)]
      exact un.free b o (k b o z) (up (nha z) n) hx
    there := fun b o z hx => by
      rw [gk b (nha z)]
      exact un.there b o (k b o z) hx
    tups := fun b xs z => by
      rw [del_ne (ne_of_none z hn)]
      exact un.tups b xs (by rw [upd_ne (ne_of_none z hn)]; exact z)
    frzs := fun b o v z => by
      rw [del_ne (ne_of_none z hn)]
      exact un.frzs b o v (by rw [upd_ne (ne_of_none z hn)]; exact z)
    tbls := fun b ps z => by
      rw [del_ne (ne_of_none z hn)]
      exact un.tbls b ps (by rw [upd_ne (ne_of_none z hn)]; exact z) }
  have hok3 : HOk X.prog X.w (del H2 a) G := fun b o z => by
    have hba : b ≠ a := fun e => by
      rw [e, del_same] at z
      cases z
    rw [del_ne hba] at z
    have noa : ∀ {c : Addr}, H2 c = some (.own b) → c ≠ a := fun {c} hc => at_ne ea hc exo_own
    exact (hok b o z).stay (fun c v hc y => by
        have hca : c ≠ a := by
          rcases hc with hc | hc
          · rw [hc]
            exact hba
          · exact noa hc
        rw [gk c hca]
        exact y)
      (fun c hc => by rw [del_ne (noa hc)]; exact hc) (fun c xs hc => by rw [del_ne (at_ne ea hc exo_tup)]; exact hc)
  have J : Inv X pins σ (del H2 a) ⟨G, g2, d2, t2, os2⟩ := I1.call' (ch := []) ho U hok3 hb (fun b z => absurd z (by simp))
  exact ⟨a, _, _, ⟨G, g2, d2, t2, os2⟩, _, .ref C, none, rfl, J, fun b o z => by
    by_cases hba : b = a
    · rw [hba, ge] at z
      cases z
    · exact (gk b hba).symm.trans z, ge, hoe, ⟨rfl, rfl⟩, rfl, rfl, del_same, rfl, hb, T, q⟩
/-- C(): an error without a field -/
def tMkN (C : Addr) (sp : Sp) : L2.St → Hp → XK → Prop := fun _ H Q => ∀ a, H a = none → sp [.ref a] (upd H a (exo a C none)) (fun v H2 => v = .non ∧ H2 a = some (exo a C none) ∧ Q (.ref C) none (del H2 a)) (fun _ _ _ => False)
theorem pmk_oexN {CX : CXT} {x : Str} {C fI : Addr} {k : Nat} {fd : FuncData} {ps : List Str} {sp : Sp} {p pos : Pos} (T : OexC X.K C) (iC : PySem.W.findIn X.K (.ref C) "__init__" = some (some (.ref fI))) (tI : PySem.W.typeIn X.K (.ref fI) = some (.type "function"))
    (F1 : FnOk X.prog X.w X.K X.mg X.base CX k fI fd ps sp) (hr : Room (k + 1) X.A) (hb : Binds X.K fd ps []) (hx : Passes CX X (fun _ _ _ => False)) (hg : Gl X x) (hm : X.mg x = some (.ref C)) (hdb : (x == ("__debug__" : Str)) = false := by decide) :
    PMk X (.Call (.Name x p) [] [] pos) (tMkN C sp) := by
  intro pins s σ H Q I h
  obtain ⟨nm, q, N, bs, bm, sn, sub, ab, col, dd, k0, k1, k2, k3, k5, hC, hbm⟩ := T.cls
  refine wpAny_Call_Name_kw (ld_glob I hg hm ?_ hdb)
  refine PySem.W.callWith_K0 I.kIn T.kC ?_
  show wpAny _ _ (call (.ref C) []) _ _ _
  obtain ⟨hp, g, dr, tk, os⟩ := s
  have hsz : hp.objs.size ≤ hp.objs.size + 1 := Nat.le_succ _
  have hn : H (hp.objs.size + 1) = none := I.hok.fresh hsz
  have hq := h (hp.objs.size + 1) hn
  have kk : ∀ b o, hp.get? b = some o → ((hp.push (PySem.W.kdv_tup [])).push (PySem.HandSPX.excO C hp.objs.size)).get? b = some o := fun b o e => Heap.get?_push_of_some _ (Heap.get?_push_of_some _ e)
  have hget : ((hp.push (PySem.W.kdv_tup [])).push (PySem.HandSPX.excO C hp.objs.size)).get? (hp.objs.size + 1) = some (PySem.HandSPX.excO C hp.objs.size) := by heap_get
  have I2 : Inv X pins σ (upd H (hp.objs.size + 1) (exo (hp.objs.size + 1) C none)) ⟨(hp.push (PySem.W.kdv_tup [])).push (PySem.HandSPX.excO C hp.objs.size), g, dr, tk, os⟩ :=
    I.laid (t' := tk) (a := hp.objs.size + 1) (o := exo (hp.objs.size + 1) C none) (h' := (hp.push (PySem.W.kdv_tup [])).push (PySem.HandSPX.excO C hp.objs.size)) kk hsz (exo_ok hget)
  have r2 : Vals [V.ref (hp.objs.size + 1)] [Value.ref (hp.objs.size + 1)] := .cons rfl .nil
  have hl : [Value.ref (hp.objs.size + 1)].length = ps.length := (F1.len _ _ _ _ hq).symm ▸ rfl
  refine wpAny_call (PySem.HandSPX.call_own F.excBase_ValueError (fun Y => PySem.HandSPX.refsVE_contains Y bm hbm) (I.kIn _ _ hC) (PySem.W.looks_findIn I.kIn iC) (fun self => PySem.W.bind_fn I.kIn self tI) (by show 0 ≤ _; exact Nat.zero_le _)
    (codeAny_mono (F1.run _ X.stack _ _ ⟨[Value.ref (hp.objs.size + 1)], []⟩ [Value.ref (hp.objs.size + 1)] _ _ (fun _ _ _ => False) (hr.make C [] []) (I2.env0.make C [] []) (by
      have := hb _ [Value.ref (hp.objs.size + 1)] I2.kIn (by simpa using hl)
      simpa using this) r2 hq) fun r s' hq' => ?_))
  cases r with
  | error er => exact hx pins σ _ _ er s' I2 hq'
  | ok fl =>
    cases fl with
    | ret u =>
      obtain ⟨v, H2, os2, bare2, un2, hok2, rv, ev, ea, q2⟩ := hq'
      subst ev
      obtain ⟨h2, g2, d2, t2, os'⟩ := s'
      exact ⟨rv, mk_endN (raises_own T.exC T.tyC) I hsz kk un2 hok2 os2 bare2 ea q2⟩
    | next => exact False.elim hq'
    | brk => exact False.elim hq'
    | cont => exact False.elim hq'
end

/-- the body of __init__(self): RowError.__init__(self) -/
def IsIniN (K : PySem.W.Frag) (mg : Str → Option Value) (st : Stmt) : Prop := ∀ (P : Program) (w : World) (base : Heap) (q : Str) (f : Addr) (cdv : Value) (A : Around) (outer : List Env) (s : Shared) (H : Hp) (E : XK),
  ∃ t : TS, PSs (cxOf CX0 P w K mg base ["self"] q (defScope st) f cdv A outer s H E).nox (defBody st) t ∧ ∀ D σ H, tDrop (tVeI K (tCons (tVar 0) tNil)) D σ H → t D σ H
def spIniN (K : PySem.W.Frag) (C : Addr) : Sp := fun vs H Q _ => ∃ a : Addr, vs = [.ref a] ∧ H a = some (exo a C none) ∧ Q .non H
/-- x names an error class without a field, at C -/
structure ErrN (K : PySem.W.Frag) (mg : Str → Option Value) (x : Str) (C : Addr) : Prop where
  g : mg x = some (.ref C)
  ox : OexC K C
  ini : ∃ (f : Addr) (q : Str) (st : Stmt) (fd : FuncData), PySem.W.findIn K (.ref C) "__init__" = some (some (.ref f)) ∧ PySem.W.typeIn K (.ref f) = some (.type "function") ∧ Fun K "__init__" q st f fd ∧ Binds K fd ["self"] [] ∧ FnScope ["self"] ["self"] (defScope st) ∧ IsIniN K mg st
/-- an error of the class at C is let out, all else as it was -/
def ThrownN (C : Addr) (H : Hp) (E : XK) : Prop := ∀ H' : Hp, Same H H' → E (.ref C) none H'
theorem ThrownN.mono {C : Addr} {H H1 : Hp} {E : XK} (h : ThrownN C H E) (k : Same H H1) : ThrownN C H1 E := fun H' s => h H' (k.trans s)
section
variable {P : Program} {w : World} {K : PySem.W.Frag} {mg : Str → Option Value} {base : Heap}
theorem ErrN.init {x : Str} {C : Addr} (T : ErrN K mg x C) : ∃ (f : Addr) (fd : FuncData), PySem.W.findIn K (.ref C) "__init__" = some (some (.ref f)) ∧ PySem.W.typeIn K (.ref f) = some (.type "function") ∧ Binds K fd ["self"] [] ∧
    FnOk P w K mg base CX0 1 f fd ["self"] (spIniN K C) := by
  obtain ⟨f, q, st, fd, h1, h2, F, b, S, dv⟩ := T.ini
  refine ⟨f, fd, h1, h2, b, F.ok S (fun vs H Q E h => ?_) (fun cdv A outer s H vs Q E hr h => ?_)⟩
  · obtain ⟨a, e, _⟩ := h
    rw [e]
    rfl
  · obtain ⟨a, e, ea, k⟩ := h
    subst e
    obtain ⟨t, d, go⟩ := dv P w base q f cdv A outer s H E
    refine ⟨t, d, go _ _ _ ?_⟩
    exact ⟨_, rfl, a, C, [], rfl, by decide, T.ox, ea, k⟩
end
section
variable {X : Cx} {x : Str} {C : Addr} {p pos pos2 : Pos} {W : WX}
/-- raise x() -/
def tThrowN (K : PySem.W.Frag) (C : Addr) (W : WX) : TS := fun _ σ H => tMkN C (spIniN K C) σ H fun cls d H' => W cls d σ H'
theorem ps_throwN (T : ErrN X.K X.mg x C) (hc : X.calm = true) (hr : Room 2 X.A) (tk : Takes X W) (hg : Gl X x := by rfl) (hdb : (x == ("__debug__" : Str)) = false := by decide) :
    PS X (.Raise (some (.Call (.Name x p) [] [] pos)) none pos2) (tThrowN X.K C W) := by
  obtain ⟨f, fd, h1, h2, b, F⟩ := T.init (P := X.prog) (w := X.w) (base := X.base)
  exact ps_raise (pos := pos2) hc tk (pmk_oexN (x := x) (p := p) (pos := pos) T.ox h1 h2 F hr b pass0 hg T.g hdb)
theorem thrownN_go {K : PySem.W.Frag} {H : Hp} {E : XK} (h : ThrownN C H E) : ∀ a, H a = none → spIniN K C [.ref a] (upd H a (exo a C none)) (fun v H2 => v = .non ∧ H2 a = some (exo a C none) ∧ E (.ref C) none (del H2 a)) (fun _ _ _ => False) := by
  intro a ha
  refine ⟨a, rfl, upd_same, rfl, upd_same, h _ fun b o e => ?_⟩
  rw [del_ne (ne_of_none e ha), upd_ne (ne_of_none e ha)]
  exact e
end
/-- such a class of the text -/
def ErrNHere (K : PySem.W.Frag) (x q : Str) (st : Stmt) (R C : Addr) : Prop :=
  ∃ (f N : Addr) (nm qn : Str) (bs : List Value) (sn : List Str) (sub : List Value) (ab : Bool) (col : Option Bool) (dd : Option Addr) (m0 m1 m2 m3 m5 : Option Value), PySem.W.nsIn K mainGlobals x = some (some (.ref C)) ∧
    K.lookup C = some (excClassObj nm qn C N bs [.ref R, .type "ValueError", .type "Exception", .type "BaseException", .type "object"] true sn sub ab col dd m0 m1 m2 m3 m5 "ValueError.__new__") ∧
    PySem.W.findIn K (.ref C) "__setattr__" = some (some (.builtin "object.__setattr__")) ∧ PySem.W.findIn K (.ref C) "__init__" = some (some (.ref f)) ∧ PySem.W.typeIn K (.ref f) = some (.type "function") ∧ DefAt K "__init__" q st f ∧
    PySem.W.keepIn K (.ref C) = true ∧ PySem.W.subIn K (.ref C) (.type "BaseException") = some true ∧ PySem.W.typeIn K (.ref C) = some (.type "type")
section
variable {K : PySem.W.Frag} {mg : Str → Option Value} {h : Heap}
theorem ErrNHere.err {x q : Str} {st : Stmt} {R C : Addr} (E : ErrNHere K x q st R C) (X : K.In h) (G : h.Ns mainGlobals mg) (S : FnScope ["self"] ["self"] (defScope st)) (I : IsIniN K mg st)
    (b : ∀ (kV doc pm : Value) (an : Option Addr) (cdv ct : Value) (us : List Value), us.length = 1 → bindArgs (PySem.W.fnOf "__init__" q (defArgs st) (defBody st) (defScope st) .none kV doc pm an cdv ct) ⟨us, []⟩ = pure ((["self"] : List Str).zip us)) : ErrN K mg x C := by
  obtain ⟨f, N, nm, qn, bs, sn, sub, ab, col, dd, m0, m1, m2, m3, m5, g, l, sa, ini, ty, ⟨oc, od, kV, dc, pm, an, cd, ct, sl, lf, cf, kf⟩, kc, ex, tc⟩ := E
  have F := fun_mk (x := "__init__") (qual := q) (st := st) lf cf kf
  exact {
    g := PySem.W.mg_of X G g
    ox := ⟨⟨nm, qn, N, bs, _, sn, sub, ab, col, dd, m0, m1, m2, m3, m5, l, rfl⟩, sa, ex, tc, kc⟩
    ini := ⟨f, q, st, _, ini, ty, F, F.binds b, S, I⟩ }
theorem ErrNHere.of {x q : Str} {st : Stmt} {R C f N : Addr} {nm qn : Str} {bs : List Value} {sn : List Str} {sub : List Value} {ab : Bool} {col : Option Bool} {dd : Option Addr} {m0 m1 m2 m3 m5 : Option Value}
    {oc : Value} {od : Option Addr} {kV dc pm : Value} {an : Option Addr} {cd ct : Value} {sl : Array (Option Value)} (g : PySem.W.nsIn K mainGlobals x = some (some (.ref C)))
    (xl : K.lookup C = some (excClassObj nm qn C N bs [.ref R, .type "ValueError", .type "Exception", .type "BaseException", .type "object"] true sn sub ab col dd m0 m1 m2 m3 m5 "ValueError.__new__"))
    (sa : PySem.W.findIn K (.ref C) "__setattr__" = some (some (.builtin "object.__setattr__"))) (ini : PySem.W.findIn K (.ref C) "__init__" = some (some (.ref f))) (ty : PySem.W.typeIn K (.ref f) = some (.type "function"))
    (l : K.lookup f = some ⟨oc, od, .func (PySem.W.fnOf "__init__" q (defArgs st) (defBody st) (defScope st) .none kV dc pm an cd ct), sl⟩) (c : PySem.W.codeIn K cd q = true) (k : PySem.W.keepIn K (.ref f) = true)
    (kc : PySem.W.keepIn K (.ref C) = true) (ex : PySem.W.subIn K (.ref C) (.type "BaseException") = some true) (tc : PySem.W.typeIn K (.ref C) = some (.type "type")) : ErrNHere K x q st R C :=
  ⟨f, N, nm, qn, bs, sn, sub, ab, col, dd, m0, m1, m2, m3, m5, g, xl, sa, ini, ty, ⟨oc, od, kV, dc, pm, an, cd, ct, sl, l, c, k⟩, kc, ex, tc⟩
end
end Rw

set_option Elab.async false
set_option linter.all false
set_option maxRecDepth 100000
set_option maxHeartbeats 4000000
/-! TkBE: zip of two tuples and a list. -/
namespace Rw
open PySem PySem.Spec PyProof.Rows L2
theorem notmem2 {z x y : Nat} (h1 : z ≠ x) (h2 : z ≠ y) : ¬ @Membership.mem Addr (List Addr) _ ([x, y] : List Addr) z := fun h => by
  rcases List.mem_cons.mp h with e | h
  · exact h1 e
  · exact h2 (List.mem_singleton.mp h)
theorem sep3 {n a b c : Nat} (ha : a < n) (hb : b < n) (hc : c < n) : ZipSep3 (n + 5) (n + 3) (n + 4) n (n + 1) (n + 2) [n, a] [n + 1, b] [n + 2, c] where
  TIz := PySem.W.neN (by omega)
  TOz := PySem.W.neN (by omega)
  TITO := PySem.W.neN (by omega)
  TIi1 := PySem.W.neN (by omega)
  mem1 := List.mem_cons_self
  zf1 := notmem2 (by omega) (by omega)
  Tf1 := notmem2 (by omega) (by omega)
  TIi2 := PySem.W.neN (by omega)
  mem2 := List.mem_cons_self
  zf2 := notmem2 (by omega) (by omega)
  Tf2 := notmem2 (by omega) (by omega)
  TIi3 := PySem.W.neN (by omega)
  mem3 := List.mem_cons_self
  zf3 := notmem2 (by omega) (by omega)
  Tf3 := notmem2 (by omega) (by omega)
  sep1_2 := notmem2 (by omega) (by omega)
  sep1_3 := notmem2 (by omega) (by omega)
  sep2_1 := notmem2 (by omega) (by omega)
  sep2_3 := notmem2 (by omega) (by omega)
  sep3_1 := notmem2 (by omega) (by omega)
  sep3_2 := notmem2 (by omega) (by omega)
/-- the lists or tuples at a, b and c as they stand at each turn, the items in new triples -/
def It3 (K : PySem.W.Frag) (k1 k2 k3 : Bool) (a b c : Addr) : It :=
  ⟨fun i H => ∃ (xs ys zs : List V) (x y z : V), SqB K H k1 a xs ∧ SqB K H k2 b ys ∧ SqB K H k3 c zs ∧ xs[i]? = some x ∧ ys[i]? = some y ∧ zs[i]? = some z,
    fun i H v H' => ∃ T x y z, v = .ref T ∧ H T = none ∧ H' = upd H T (.tup [x, y, z]) ∧ (∀ xs, SqB K H k1 a xs → xs[i]? = some x) ∧ (∀ ys, SqB K H k2 b ys → ys[i]? = some y) ∧ ∀ zs, SqB K H k3 c zs → zs[i]? = some z,
    fun i H => ∃ xs ys zs : List V, SqB K H k1 a xs ∧ SqB K H k2 b ys ∧ SqB K H k3 c zs ∧ i ≤ xs.length ∧ i ≤ ys.length ∧ i ≤ zs.length ∧ (xs.length = i ∨ ys.length = i ∨ zs.length = i)⟩
theorem turn_zip3 {P : Program} {w : World} {K : PySem.W.Frag} {k1 k2 k3 : Bool} {elts : List Expr} {kk : Nat} {tpos : Pos} {a b c z TI TO i1 i2 i3 : Addr} (D : ZipSep3 z TI TO i1 i2 i3 [i1, a] [i2, b] [i3, c]) (ai : a ≠ i1) (bi : b ≠ i2) (ci : c ≠ i3) :
    Turn P w K (.Tuple elts kk tpos) (It3 K k1 k2 k3 a b c) [z, TI, TO, i1, i2, i3] z (fun i h => IsZip h z TI TO .none ∧ IsTupOf3 h TI (.ref i1) (.ref i2) (.ref i3) ∧ (∃ x y u, IsTupOf3 h TO x y u) ∧ itB h k1 i1 a i ∧ itB h k2 i2 b i ∧ itB h k3 i3 c i) where
  mem := by simp
  obj := fun i h st e he => by
    obtain ⟨hz, hTI, ⟨x, y, u, hTO⟩, h1, h2, h3⟩ := st
    have e' : e = z ∨ e = TI ∨ e = TO ∨ e = i1 ∨ e = i2 ∨ e = i3 := by simpa using he
    rcases e' with q | q | q | q | q | q
    · rw [q]; exact ⟨_, hz, fun v q => nomatch q⟩
    · rw [q]; exact ⟨_, hTI, fun v q => nomatch q⟩
    · rw [q]; exact ⟨_, hTO, fun v q => nomatch q⟩
    · rw [q]; exact itB_obj h1
    · rw [q]; exact itB_obj h2
    · rw [q]; exact itB_obj h3
  keep := fun i h h' st k => by
    obtain ⟨hz, hTI, ⟨x, y, u, hTO⟩, h1, h2, h3⟩ := st
    exact ⟨k z (by simp) _ hz, k TI (by simp) _ hTI, ⟨x, y, u, k TO (by simp) _ hTO⟩, itB_at h1 fun o q => k i1 (by simp) o q, itB_at h2 fun o q => k i2 (by simp) o q, itB_at h3 fun o q => k i3 (by simp) o q⟩
  item := by
    intro X hP hw hK hc i pins s σ H E I hf st hg
    subst hP hw hK
    obtain ⟨hz, hTI, ⟨x0, y0, u0, hTO⟩, h1, h2, h3⟩ := st
    obtain ⟨xs, ys, zs, x, y, v, hqx, hqy, hqz, hx, hy, hv⟩ := hg
    obtain ⟨its, rv, p, _⟩ := sqB_inv I hqx
    obtain ⟨its2, rv2, p2, _⟩ := sqB_inv I hqy
    obtain ⟨its3, rv3, p3, _⟩ := sqB_inv I hqz
    obtain ⟨u, hu, ru⟩ := rv.get hx
    obtain ⟨u2, hu2, ru2⟩ := rv2.get hy
    obtain ⟨u3, hu3, ru3⟩ := rv3.get hv
    have hzl : z < s.heap.objs.size := Heap.lt_size hz
    have hd : X.A.in1.handled = none := I.ok.hd hc
    have g1 : i < its.toArray.size := by
      have := (List.getElem?_eq_some_iff.mp hu).1
      simpa using this
    have g2 : i < its2.toArray.size := by
      have := (List.getElem?_eq_some_iff.mp hu2).1
      simpa using this
    have g3 : i < its3.toArray.size := by
      have := (List.getElem?_eq_some_iff.mp hu3).1
      simpa using this
    refine wpAny_pyNext_zipD3_item D (drawsB hd k1 i1 a ai its.toArray) (drawsB hd k2 i2 b bi its2.toArray) (drawsB hd k3 i3 c ci its3.toArray) hz hTI hTO ⟨h1, p⟩ ⟨h2, p2⟩ ⟨h3, p3⟩ g1 g2 g3 fun x1 x2 x3 h' tk e1 e2 e3 z' TO' t1 t2 t3 hT hsz hk => ?_
    have hx1 : x1 = u := by
      have q : its[i]? = some x1 := by simpa using e1
      rw [hu] at q
      exact (Option.some.inj q).symm
    have hx2 : x2 = u2 := by
      have q : its2[i]? = some x2 := by simpa using e2
      rw [hu2] at q
      exact (Option.some.inj q).symm
    have hx3 : x3 = u3 := by
      have q : its3[i]? = some x3 := by simpa using e3
      rw [hu3] at q
      exact (Option.some.inj q).symm
    subst hx1 hx2 hx3
    refine ⟨_, rfl, wpAny_letOwnedTupleGo_zip (s := { s with heap := h', toks := tk }) z' fun h'' z'' sb => ?_⟩
    have hT2 : h''.get? s.heap.objs.size = some { cls := .type "tuple", data := .seq #[x1, x2, x3] } := (sb.2 _ (Nat.ne_of_gt hzl)).trans hT
    have new : ObjOk X.prog X.w (upd H s.heap.objs.size (.tup [x, y, v])) h'' s.heap.objs.size (.tup [x, y, v]) :=
      ⟨by show 3 ≤ sizeLine; decide, [x1, x2, x3], .cons ru (.cons ru2 (.cons ru3 .nil)), ⟨_, hT2, rfl, _, rfl⟩⟩
    have I1 : Inv X pins σ (upd H s.heap.objs.size (.tup [x, y, v])) { s with heap := h'', toks := tk } :=
      I.turnedNew (t' := tk) (ch := [z, TI, TO, i1, i2, i3]) (fun c o hb q => (sb.2 c (fun q' => hb (by simp [q']))).trans (hk c o (fun q' => hb (by simp [q'])) (fun q' => hb (by simp [q'])) (fun q' => hb (by simp [q'])) (fun q' => hb (by simp [q'])) (fun q' => hb (by simp [q'])) q)) hf (Nat.le_refl _) new
    refine ⟨.ref s.heap.objs.size, _, I1, rfl, ⟨_, x, y, v, rfl, I.hok.fresh (Nat.le_refl _), rfl, fun l hl => by rw [sqB_inj I hl hqx]; exact hx, fun l hl => by rw [sqB_inj I hl hqy]; exact hy, fun l hl => by rw [sqB_inj I hl hqz]; exact hv⟩, ⟨z'', ?_, ⟨x1, x2, x3, ?_⟩, ?_, ?_, ?_⟩, fun e hcm => ?_⟩
    · exact (sb.2 _ D.TIz).trans (hk _ _ D.TIz D.TITO D.TIi1 D.TIi2 D.TIi3 hTI)
    · exact (sb.2 _ D.TOz).trans TO'
    · exact itB_at t1.1 fun o q => (sb.2 _ D.zi1.symm).trans q
    · exact itB_at t2.1 fun o q => (sb.2 _ D.zi2.symm).trans q
    · exact itB_at t3.1 fun o q => (sb.2 _ D.zi3.symm).trans q
    · have hlt : e < s.heap.objs.size := by
        have e' : e = z ∨ e = TI ∨ e = TO ∨ e = i1 ∨ e = i2 ∨ e = i3 := by simpa using hcm
        rcases e' with q | q | q | q | q | q
        · rw [q]; exact hzl
        · rw [q]; exact Heap.lt_size hTI
        · rw [q]; exact Heap.lt_size hTO
        · rw [q]; obtain ⟨_, e1, _⟩ := itB_obj h1; exact Heap.lt_size e1
        · rw [q]; obtain ⟨_, e2, _⟩ := itB_obj h2; exact Heap.lt_size e2
        · rw [q]; obtain ⟨_, e3, _⟩ := itB_obj h3; exact Heap.lt_size e3
      rw [upd_ne (Nat.ne_of_lt hlt)]
      exact (hf e hcm).1
  done := by
    intro X hP hw hK hc i pins s σ H E I hf st hg
    subst hP hw hK
    obtain ⟨hz, hTI, ⟨x0, y0, u0, hTO⟩, h1, h2, h3⟩ := st
    obtain ⟨xs, ys, zs, hqx, hqy, hqz, l1, l2, l3, hend⟩ := hg
    obtain ⟨its, rv, p, _⟩ := sqB_inv I hqx
    obtain ⟨its2, rv2, p2, _⟩ := sqB_inv I hqy
    obtain ⟨its3, rv3, p3, _⟩ := sqB_inv I hqz
    have m1 := rv.length
    have m2 := rv2.length
    have m3 := rv3.length
    have hd : X.A.in1.handled = none := I.ok.hd hc
    have z1 : its.toArray.size = its.length := by simp
    have z2 : its2.toArray.size = its2.length := by simp
    have z3 : its3.toArray.size = its3.length := by simp
    exact wpAny_pyNext_zipD3_end D (drawsB hd k1 i1 a ai its.toArray) (drawsB hd k2 i2 b bi its2.toArray) (drawsB hd k3 i3 c ci its3.toArray) hz hTI hTO ⟨h1, p⟩ ⟨h2, p2⟩ ⟨h3, p3⟩ (by omega) (by omega) (by omega) (by omega) fun h' tk hk => ⟨rfl, I.turnedL (t' := tk) (ch := [z, TI, TO, i1, i2, i3]) (fun c o hb q =>
      hk c o (fun q' => hb (by simp [q'])) (fun q' => hb (by simp [q'])) (fun q' => hb (by simp [q'])) (fun q' => hb (by simp [q'])) (fun q' => hb (by simp [q'])) q) hf⟩
  self := fun A i s Q E st h => wpAny_pyIter_zip st.1 h

abbrev z3H1 (h : Heap) (l1 : Addr) : Heap := h.push { cls := .type "tuple_iterator", data := .fields #[.ref l1, .int 0 0] }
abbrev z3H2 (h : Heap) (l1 l2 : Addr) : Heap := (z3H1 h l1).push { cls := .type "tuple_iterator", data := .fields #[.ref l2, .int 0 0] }
abbrev z3H3 (h : Heap) (l1 l2 l3 : Addr) : Heap := (z3H2 h l1 l2).push { cls := .type "list_iterator", data := .fields #[.ref l3, .int 0 0] }
abbrev z3H4 (h : Heap) (l1 l2 l3 : Addr) : Heap := (z3H3 h l1 l2 l3).push { cls := .type "tuple", data := .seq #[.ref h.objs.size, .ref (z3H1 h l1).objs.size, .ref (z3H2 h l1 l2).objs.size] }
abbrev z3H5 (h : Heap) (l1 l2 l3 : Addr) : Heap := (z3H4 h l1 l2 l3).push { cls := .type "tuple", data := .seq #[.none, .none, .none] }
abbrev z3H6 (h : Heap) (l1 l2 l3 : Addr) : Heap := (z3H5 h l1 l2 l3).push { cls := .type "zip", data := .fields #[.none, .bool false, .bool false, .ref (z3H3 h l1 l2 l3).objs.size, .ref (z3H4 h l1 l2 l3).objs.size] }
theorem meets_zip3 (l1 l2 l3 : Addr) (xs ys zs : Array Value) :
    Meets (Builtin.«zip.__new__» ⟨[.type "zip", .ref l1, .ref l2, .ref l3], []⟩) (fun _ R s => s.heap.IsTuple l1 xs ∧ s.heap.IsTuple l2 ys ∧ s.heap.IsList l3 zs ∧
      R (.ok (.ret (.ref (z3H5 s.heap l1 l2 l3).objs.size))) { s with heap := z3H6 s.heap l1 l2 l3 }) :=
  .of_wp fun prog w A R s h => by
    obtain ⟨hp, g, d, tk, os⟩ := s; obtain ⟨hl1, hl2, hl3, h⟩ := h
    have hsub := sub_zip
    have hL1 : Heap.IsTuple (Shared.heap ⟨hp, g, d, tk, os⟩) l1 xs := hl1
    have hL2 : Heap.IsTuple (Shared.heap ⟨hp.push { cls := .type "tuple_iterator", data := .fields #[.ref l1, .int 0 0] }, g, d, tk, os⟩) l2 ys := Heap.IsTuple.push hl2 _
    have hL3 : Heap.IsList (Shared.heap ⟨(hp.push { cls := .type "tuple_iterator", data := .fields #[.ref l1, .int 0 0] }).push { cls := .type "tuple_iterator", data := .fields #[.ref l2, .int 0 0] }, g, d, tk, os⟩) l3 zs := Heap.IsList.push (Heap.IsList.push hl3 _) _
    wp_walk using wpAny_pyIter_tuple hL1, wpAny_pyIter_tuple hL2, wpAny_pyIter_list hL3
    exact ⟨_, rfl, h⟩
section
variable {prog : Program} {w : World} {A : Around} {E : Value → Shared → Prop} {s : Shared}
theorem call_zip3 {l1 l2 l3 : Addr} {xs ys zs : Array Value} {Q : Value → Shared → Prop} (hl1 : sqB s.heap false l1 xs) (hl2 : sqB s.heap false l2 ys) (hl3 : sqB s.heap true l3 zs)
    (h : ∀ h', IsZip h' (s.heap.objs.size + 5) (s.heap.objs.size + 3) (s.heap.objs.size + 4) .none → IsTupOf3 h' (s.heap.objs.size + 3) (.ref s.heap.objs.size) (.ref (s.heap.objs.size + 1)) (.ref (s.heap.objs.size + 2)) →
      IsTupOf3 h' (s.heap.objs.size + 4) .none .none .none → itB h' false s.heap.objs.size l1 0 → itB h' false (s.heap.objs.size + 1) l2 0 → itB h' true (s.heap.objs.size + 2) l3 0 → h'.objs.size = s.heap.objs.size + 6 →
      (∀ c o, s.heap.get? c = some o → h'.get? c = some o) → Q (.ref (s.heap.objs.size + 5)) { s with heap := h' }) :
    wpAny (model prog w) A (call (.type "zip") [.ref l1, .ref l2, .ref l3]) Q E s := by
  refine callType_new F.called_zip (by decide) (F.typeCall_zip_3 _ _ _) (F.newCall_zip_3 _ _ _) (fun obj => F.args_object_init_4 obj _ _ _) F.entry_zip_new
    (meets_zip3 l1 l2 l3 xs ys zs) ⟨hl1, hl2, hl3, ?_⟩
  have z1 : (z3H1 s.heap l1).objs.size = s.heap.objs.size + 1 := Heap.size_push ..
  have z2 : (z3H2 s.heap l1 l2).objs.size = s.heap.objs.size + 2 := by rw [Heap.size_push, z1]
  have z3 : (z3H3 s.heap l1 l2 l3).objs.size = s.heap.objs.size + 3 := by rw [Heap.size_push, z2]
  have z4 : (z3H4 s.heap l1 l2 l3).objs.size = s.heap.objs.size + 4 := by rw [Heap.size_push, z3]
  have z5 : (z3H5 s.heap l1 l2 l3).objs.size = s.heap.objs.size + 5 := by rw [Heap.size_push, z4]
  have z6 : (z3H6 s.heap l1 l2 l3).objs.size = s.heap.objs.size + 6 := by rw [Heap.size_push, z5]
  have g6 : (z3H6 s.heap l1 l2 l3).get? (z3H5 s.heap l1 l2 l3).objs.size = some _ := Heap.get?_push_size _ rfl
  have g5 : (z3H6 s.heap l1 l2 l3).get? (z3H4 s.heap l1 l2 l3).objs.size = some _ := Heap.get?_push_of_some _ (Heap.get?_push_size _ rfl)
  have g4 : (z3H6 s.heap l1 l2 l3).get? (z3H3 s.heap l1 l2 l3).objs.size = some _ := Heap.get?_push_of_some _ (Heap.get?_push_of_some _ (Heap.get?_push_size _ rfl))
  have g3 : (z3H6 s.heap l1 l2 l3).get? (z3H2 s.heap l1 l2).objs.size = some _ := Heap.get?_push_of_some _ (Heap.get?_push_of_some _ (Heap.get?_push_of_some _ (Heap.get?_push_size _ rfl)))
  have g2 : (z3H6 s.heap l1 l2 l3).get? (z3H1 s.heap l1).objs.size = some _ := Heap.get?_push_of_some _ (Heap.get?_push_of_some _ (Heap.get?_push_of_some _ (Heap.get?_push_of_some _ (Heap.get?_push_size _ rfl))))
  have g1 : (z3H6 s.heap l1 l2 l3).get? s.heap.objs.size = some _ := Heap.get?_push_of_some _ (Heap.get?_push_of_some _ (Heap.get?_push_of_some _ (Heap.get?_push_of_some _ (Heap.get?_push_of_some _ (Heap.get?_push_size _ rfl)))))
  show _ ∧ _
  rw [z3, z4, z5] at g6
  rw [z1, z2, z3] at g4
  rw [z4] at g5
  rw [z2] at g3
  rw [z1] at g2
  rw [z5]
  exact ⟨⟨_, g6, rfl⟩, h _ g6 g4 g5 (itB_new (k := false) g1) (itB_new (k := false) g2) (itB_new (k := true) g3) z6 fun c o x =>
    Heap.get?_push_of_some _ (Heap.get?_push_of_some _ (Heap.get?_push_of_some _ (Heap.get?_push_of_some _ (Heap.get?_push_of_some _ (Heap.get?_push_of_some _ x)))))⟩
end
def iZip3 (K : PySem.W.Frag) (ta : TA) : TI := fun σ H R => ta σ H fun vs H1 => ∃ a b c xs ys zs, vs = [.ref a, .ref b, .ref c] ∧ SqT K H1 a xs ∧ SqT K H1 b ys ∧ SqL K H1 c zs ∧ R (It3 K false false true a b c) H1
theorem pi_zip3 {X : Cx} {e e2 e3 : Expr} {ta : TA} {p pos tpos : Pos} {elts : List Expr} {kk : Nat} (hg : Gl X "zip") (hm : X.mg "zip" = none) (ha : PA X [e, e2, e3] ta)
    (hs : starEach [e, e2, e3] X.env = (false, eval e X.env) :: starEach [e2, e3] X.env := by rfl) (hpl : (backTo pos (starEach [e2, e3] X.env)).any (·.1) = false := by rfl) :
    PI X (.Tuple elts kk tpos) (.Call (.Name "zip" p) [e, e2, e3] [] pos) (iZip3 X.K ta) := by
  refine ⟨fun pins s σ H R I h => ?_⟩
  refine Call_ (ld_blt I hg hm PyProof.Rows.boot_zip (PyProof.Rows.callWith_type1 (thn (ha.run pos pins s σ H _ I h) fun us s1 ⟨vs, H1, I1, r1, q1⟩ => ?_) hs hpl))
  obtain ⟨a, b, c, xs, ys, zs, ex, hqx, hqy, hqz, q⟩ := q1
  subst ex
  cases r1 with
  | cons r rr =>
    cases rr with
    | cons r' rr =>
      cases rr with
      | cons r'' rr =>
        cases rr
        cases r
        cases r'
        cases r''
        obtain ⟨its, rv, p1, la⟩ := sqB_inv (k := false) I1 hqx
        obtain ⟨its2, rv2, p2, lb⟩ := sqB_inv (k := false) I1 hqy
        obtain ⟨its3, rv3, p3, lc⟩ := sqB_inv (k := true) I1 hqz
        refine call_zip3 p1 p2 p3 fun h' hz hTI hTO h1 h2 h3 hsz hk => wpAny_pyIter_zip hz ?_
        have I2 : Inv X pins σ H1 { s1 with heap := h' } := I1.kept (t' := s1.toks) hk
        refine ⟨s1.heap.objs.size + 5, [s1.heap.objs.size + 5, s1.heap.objs.size + 3, s1.heap.objs.size + 4, s1.heap.objs.size, s1.heap.objs.size + 1, s1.heap.objs.size + 2], _, _, H1, rfl, I2, turn_zip3 (sep3 la lb lc) (Nat.ne_of_lt la) (Nat.ne_of_lt (Nat.lt_succ_of_lt lb)) (Nat.ne_of_lt (Nat.lt_succ_of_lt (Nat.lt_succ_of_lt lc))), ⟨hz, hTI, ⟨_, _, _, hTO⟩, h1, h2, h3⟩, fun c hcm => ?_, q⟩
        have e' : c = s1.heap.objs.size + 5 ∨ c = s1.heap.objs.size + 3 ∨ c = s1.heap.objs.size + 4 ∨ c = s1.heap.objs.size ∨ c = s1.heap.objs.size + 1 ∨ c = s1.heap.objs.size + 2 := by simpa using hcm
        have hle : s1.heap.objs.size ≤ c := by
          rcases e' with z | z | z | z | z | z <;> rw [z] <;> first | exact Nat.le_add_right _ _ | exact Nat.le_refl _
        exact I1.fpOk hle (I1.hok.fresh hle)
theorem walk_zip3 {K : PySem.W.Frag} {k1 k2 k3 : Bool} {a b c : Addr} {xs ys zs : List V} {n : Nat} (h1 : xs.length = n) (h2 : ys.length = n) (h3 : zs.length = n) : Walk (It3 K k1 k2 k3 a b c) n (fun H => SqB K H k1 a xs ∧ SqB K H k2 b ys ∧ SqB K H k3 c zs)
    (fun i H v H' => ∃ T x y z, v = .ref T ∧ H T = none ∧ H' = upd H T (.tup [x, y, z]) ∧ xs[i]? = some x ∧ ys[i]? = some y ∧ zs[i]? = some z) := by
  refine ⟨fun i H hi q => ?_, fun H q => ⟨xs, ys, zs, q.1, q.2.1, q.2.2, by omega, by omega, by omega, .inl h1⟩, fun i H v H' _ q y => ?_⟩
  · have g1 : i < xs.length := by omega
    have g2 : i < ys.length := by omega
    have g3 : i < zs.length := by omega
    exact ⟨xs, ys, zs, xs[i], ys[i], zs[i], q.1, q.2.1, q.2.2, by simp [g1], by simp [g2], by simp [g3]⟩
  · obtain ⟨T, x, z, u, h1, h2, h3, h4, h5, h6⟩ := y
    exact ⟨T, x, z, u, h1, h2, h3, h4 xs q.1, h5 ys q.2.1, h6 zs q.2.2⟩
end Rw

set_option Elab.async false
set_option linter.all false
set_option maxRecDepth 100000
set_option maxHeartbeats 4000000
/-! TkN: data that is small enough to be shown. -/
namespace Rw
open PySem PySem.Spec PyProof.Rows L2
theorem list_len (t : Str) (r : List Str) : (listText (t :: r)).length = t.length + piled r + 2 := by
  have a : (listText (t :: r)).length = (textFrom 1 (("[" : Str) ++ (if (0 : Nat) > 0 then ", " else "" : String) ++ t) r).length + 1 := by
    show (textFrom 0 "[" (t :: r) ++ "]").length = _
    rw [strLen_append]
    rfl
  rw [a, textFrom_length_pos r 1 _ (by decide), strLen_append, strLen_append]
  show 1 + 0 + t.length + piled r + 1 = _
  omega
/-- small enough, at the n-th level of lists -/
structure Tm (n : Nat) (d : PyData) : Prop where
  sh : d.showable = true
  dp : d.depth ≤ 3 + n
  ln : d.shown.length ≤ 50 * 8 ^ n
theorem Tm.up {n m : Nat} {d : PyData} (h : Tm n d) (l : n ≤ m) : Tm m d := ⟨h.sh, by have := h.dp; omega, Nat.le_trans h.ln (Nat.mul_le_mul_left _ (Nat.pow_le_pow_right (by decide) l))⟩
theorem piled_le {B : Nat} : ∀ {ts : List Str}, (∀ t ∈ ts, t.length ≤ B) → piled ts ≤ ts.length * (B + 2)
  | [], _ => by rw [piled_nil]; exact Nat.zero_le _
  | t :: ts, h => by
    rw [piled_cons, List.length_cons, Nat.succ_mul]
    have a := h t List.mem_cons_self
    have b := piled_le (ts := ts) fun x hx => h x (List.mem_cons_of_mem _ hx)
    omega
theorem shownAll_map : ∀ ds : List PyData, PyData.shownAll ds = ds.map PyData.shown
  | [] => by simp only [PyData.shownAll]; rfl
  | d :: ds => by
    simp only [PyData.shownAll]
    rw [shownAll_map ds] <;> rfl
theorem tm_all {n : Nat} : ∀ {ds : List PyData}, (∀ d ∈ ds, Tm n d) → PyData.showableAll ds = true ∧ PyData.depthAll ds ≤ 3 + n ∧ ∀ t ∈ PyData.shownAll ds, t.length ≤ 50 * 8 ^ n
  | [], _ => ⟨by simp only [PyData.showableAll], by simp only [PyData.depthAll]; omega, fun t ht => by simp only [PyData.shownAll] at ht; cases ht⟩
  | d :: ds, h => by
    obtain ⟨a, b, c⟩ := tm_all (ds := ds) fun x hx => h x (List.mem_cons_of_mem _ hx)
    have e := h d List.mem_cons_self
    refine ⟨?_, ?_, ?_⟩
    · simp only [PyData.showableAll, e.sh, a, Bool.and_self]
    · simp only [PyData.depthAll]
      have := e.dp
      omega
    · intro t ht
      simp only [PyData.shownAll] at ht
      rcases List.mem_cons.mp ht with z | z
      · rw [z]
        exact e.ln
      · exact c t z
theorem tm_num {n : Nat} {k : Nat} (l : k ≤ 6) : k * (50 * 8 ^ n + 2) + 3 ≤ 50 * 8 ^ (n + 1) := by
  have p : 0 < 8 ^ n := Nat.pow_pos (by decide)
  have q : k * (50 * 8 ^ n + 2) ≤ 6 * (50 * 8 ^ n + 2) := Nat.mul_le_mul_right _ l
  rw [Nat.pow_succ]
  omega
theorem tm_list {n : Nat} {ds : List PyData} (l : ds.length ≤ 6) (h : ∀ d ∈ ds, Tm n d) : Tm (n + 1) (.list ds) := by
  obtain ⟨a, b, c⟩ := tm_all h
  refine ⟨by simp only [PyData.showable]; exact a, by simp only [PyData.depth]; omega, ?_⟩
  simp only [PyData.shown]
  have ln : (PyData.shownAll ds).length = ds.length := by rw [shownAll_map, List.length_map]
  have z := tm_num (n := n) l
  generalize PyData.shownAll ds = ts at c ln
  cases ts with
  | nil =>
    have e : (listText []).length = 2 := rfl
    rw [e]
    omega
  | cons t r =>
    rw [list_len]
    have p := piled_le c
    rw [piled_cons, ln] at p
    omega
theorem tm_tup {n : Nat} {ds : List PyData} (l : ds.length ≤ 6) (h : ∀ d ∈ ds, Tm n d) : Tm (n + 1) (.tuple ds) := by
  obtain ⟨a, b, c⟩ := tm_all h
  refine ⟨by simp only [PyData.showable]; exact a, by simp only [PyData.depth]; omega, ?_⟩
  simp only [PyData.shown]
  have ln : (PyData.shownAll ds).length = ds.length := by rw [shownAll_map, List.length_map]
  have z := tm_num (n := n) l
  generalize PyData.shownAll ds = ts at c ln
  have p := piled_le c
  rw [ln] at p
  have e : (tupleText ts).length ≤ 1 + (Str.join ", " ts).length + 2 := by
    show (("(" : Str) ++ Str.join ", " ts ++ (if ts.length == 1 then ",)" else ")" : String)).length ≤ _
    rw [strLen_append, strLen_append]
    have e1 : (("(" : String) : Str).length = 1 := rfl
    have e2 : ((if ts.length == 1 then ",)" else ")" : String) : Str).length ≤ 2 := by
      split
      · exact Nat.le_of_eq rfl
      · exact Nat.le_succ_of_le (Nat.le_of_eq rfl)
    omega
  cases ts with
  | nil =>
    have e3 : (Str.join ", " []).length = 0 := rfl
    omega
  | cons t r =>
    have e3 := join_length_add (t :: r) (by simp)
    omega
theorem int_len {n : Int} (h : n.natAbs < 10 ^ 40) : (PyData.int n).shown.length ≤ 41 := by
  simp only [PyData.shown]
  show (Str.ofString (toString n)).length ≤ 41
  rw [PySem.ofString_length]
  exact int_text_length_le10 (by decide) h
theorem log2_small {n : Int} (h : n.natAbs < 10 ^ 40) : n.natAbs.log2 < 400 := by
  by_cases z : n.natAbs = 0
  · rw [z]
    decide
  · exact (Nat.log2_lt z).mpr (Nat.lt_trans h (by decide +kernel))
theorem tm_int {n : Int} (h : n.natAbs < 10 ^ 40) : Tm 0 (.int n) := by
  refine ⟨?_, by simp only [PyData.depth]; omega, Nat.le_trans (int_len h) (by decide)⟩
  simp only [PyData.showable]
  exact decide_eq_true (Nat.lt_trans (log2_small h) (by decide))
def smallB (d : PyData) : Bool := match d with
  | .int n => decide (n.natAbs < 10 ^ 40) | _ => true
/-- a cell: an int that is not great, or an odd thing -/
structure Cell (d : PyData) : Prop where
  tm : Tm 0 d
  f1 : Fit1 d
  f2 : Fit d
  sm : smallB d = true
theorem cell_sm {d : PyData} {n : Int} (c : Cell d) (e : d = .int n) : n.natAbs.log2 < 400 := by
  have h := c.sm
  rw [e] at h
  exact log2_small (of_decide_eq_true h)
theorem fit1_flat {d : PyData} (e : itemsD d = []) : Fit1 d := ⟨by rw [e]; exact Nat.zero_le _, fun n h => by rw [e] at h; cases h⟩
theorem fit_flat {d : PyData} (e : itemsD d = []) : Fit d := ⟨fit1_flat e, fun x h => by rw [e] at h; cases h⟩
theorem cell_int {n : Int} (h : n.natAbs < 10 ^ 40) : Cell (.int n) := ⟨tm_int h, fit1_flat rfl, fit_flat rfl, decide_eq_true h⟩
theorem fit1_of {d : PyData} {ds : List PyData} (e : itemsD d = ds) (l : ds.length ≤ 1000) (h : ∀ x ∈ ds, smallB x = true) : Fit1 d :=
  ⟨by rw [e]; exact l, fun n hn => by rw [e] at hn; exact log2_small (of_decide_eq_true (h _ hn))⟩
theorem odd_cell : ∀ d ∈ oddL, Cell d := by
  have a : ∀ d ∈ oddL, d.showable = true ∧ d.depth ≤ 3 ∧ d.shown.length ≤ 50 := by decide +kernel
  have b : ∀ d ∈ oddL, (itemsD d).length ≤ 1000 ∧ (∀ e ∈ itemsD d, smallB e = true ∧ (itemsD e).length ≤ 1000 ∧ ∀ x ∈ itemsD e, smallB x = true) ∧ smallB d = true := by decide +kernel
  intro d hd
  obtain ⟨a1, a2, a3⟩ := a d hd
  obtain ⟨b1, b2, b3⟩ := b d hd
  have f1 : Fit1 d := fit1_of rfl b1 fun x hx => (b2 x hx).1
  exact ⟨⟨a1, a2, a3⟩, f1, ⟨f1, fun e he => fit1_of rfl (b2 e he).2.1 (b2 e he).2.2⟩, b3⟩
/-- a row: a cell, or a list of few cells -/
structure RowT (d : PyData) : Prop where
  tm : Tm 1 d
  f1 : Fit1 d
  sm : smallB d = true
theorem Cell.row {d : PyData} (c : Cell d) : RowT d := ⟨c.tm.up (by decide), c.f1, c.sm⟩
theorem row_list {ds : List PyData} (l : ds.length ≤ 6) (h : ∀ d ∈ ds, Cell d) : RowT (.list ds) := ⟨tm_list l fun d hd => (h d hd).tm, fit1_of (ds := ds) rfl (by omega) fun x hx => (h x hx).sm, rfl⟩
/-- a sheet: a cell, or few rows -/
structure SheetT (d : PyData) : Prop where
  tm : Tm 2 d
  f : Fit d
  few : (itemsD d).length ≤ 6
theorem Cell.sheet {d : PyData} (c : Cell d) (l : (itemsD d).length ≤ 6) : SheetT d := ⟨c.tm.up (by decide), c.f2, l⟩
theorem sheet_list {ds : List PyData} (l : ds.length ≤ 6) (h : ∀ d ∈ ds, RowT d) : SheetT (.list ds) := ⟨tm_list l fun d hd => (h d hd).tm, ⟨fit1_of (ds := ds) rfl (by omega) fun x hx => (h x hx).sm, fun e he => (h e he).f1⟩, l⟩
theorem sheet_tup {ds : List PyData} (l : ds.length ≤ 6) (h : ∀ d ∈ ds, RowT d) : SheetT (.tuple ds) := ⟨tm_tup l fun d hd => (h d hd).tm, ⟨fit1_of (ds := ds) rfl (by omega) fun x hx => (h x hx).sm, fun e he => (h e he).f1⟩, l⟩
theorem odd_few : ∀ d ∈ oddL, (itemsD d).length ≤ 6 := by decide +kernel
theorem odd_sheet {d : PyData} (h : d ∈ oddL) : SheetT d := (odd_cell d h).sheet (odd_few d h)
end Rw

set_option Elab.async false
set_option linter.all false
set_option maxRecDepth 100000
set_option maxHeartbeats 4000000
/-! TkP: sums, comprehensions beside a box, data held against data. -/
namespace Rw
open PySem PySem.Spec PyProof.Rows L2
/-! ### sums -/
def S : Nat → (Nat → Int) → Int
  | 0, _ => 0
  | n + 1, f => S n f + f n
theorem S_sum (f : Nat → Int) : ∀ n, ((List.range n).map f).sum = S n f
  | 0 => rfl
  | n + 1 => by
    rw [List.range_succ, List.map_append, List.sum_append, S_sum f n]
    show S n f + (f n + 0) = S n f + f n
    omega
theorem S_congr {f g : Nat → Int} : ∀ {n : Nat}, (∀ i, i < n → f i = g i) → S n f = S n g
  | 0, _ => rfl
  | n + 1, h => by
    show S n f + f n = S n g + g n
    rw [S_congr (n := n) fun i hi => h i (by omega), h n (by omega)]
theorem S_add (f g : Nat → Int) : ∀ n, S n (fun i => f i + g i) = S n f + S n g
  | 0 => rfl
  | n + 1 => by
    show S n (fun i => f i + g i) + (f n + g n) = (S n f + f n) + (S n g + g n)
    rw [S_add f g n]
    omega
theorem S_mul (a : Int) (f : Nat → Int) : ∀ n, S n (fun i => a * f i) = a * S n f
  | 0 => by show (0 : Int) = a * 0; rw [Int.mul_zero]
  | n + 1 => by
    show S n (fun i => a * f i) + a * f n = a * (S n f + f n)
    rw [S_mul a f n, Int.mul_add]
theorem S_zero : ∀ n, S n (fun _ => 0) = 0
  | 0 => rfl
  | n + 1 => by
    show S n (fun _ => 0) + 0 = 0
    rw [S_zero n] <;> rfl
theorem S_swap (f : Nat → Nat → Int) (m : Nat) : ∀ n, S n (fun i => S m (fun k => f i k)) = S m (fun k => S n (fun i => f i k))
  | 0 => by
    show (0 : Int) = S m (fun _ => 0)
    rw [S_zero]
  | n + 1 => by
    show S n (fun i => S m (fun k => f i k)) + S m (fun k => f n k) = S m (fun k => S n (fun i => f i k) + f n k)
    rw [S_swap f m n, S_add]
theorem S_mod (p : Int) {f g : Nat → Int} : ∀ {n : Nat}, (∀ i, i < n → f i % p = g i % p) → S n f % p = S n g % p
  | 0, _ => rfl
  | n + 1, h => by
    show (S n f + f n) % p = (S n g + g n) % p
    rw [Int.add_emod, S_mod p (n := n) fun i hi => h i (by omega), h n (by omega), ← Int.add_emod]
/-- leading by the product is leading twice -/
theorem S_assoc (p : Int) (v : Nat → Int) (a b : Nat → Nat → Int) (n m c : Nat) :
    S n (fun i => v i * (S m (fun k => a i k * b k c) % p)) % p = S m (fun k => (S n (fun i => v i * a i k) % p) * b k c) % p := by
  have e1 : S n (fun i => v i * (S m (fun k => a i k * b k c) % p)) % p = S n (fun i => S m (fun k => v i * a i k * b k c)) % p := by
    refine S_mod p fun i _ => ?_
    have : S m (fun k => v i * a i k * b k c) = v i * S m (fun k => a i k * b k c) := by
      rw [← S_mul]
      exact S_congr fun k _ => Int.mul_assoc _ _ _
    rw [this, Int.mul_emod, Int.emod_emod_of_dvd _ (Int.dvd_refl p), ← Int.mul_emod]
  have e2 : S m (fun k => (S n (fun i => v i * a i k) % p) * b k c) % p = S m (fun k => S n (fun i => v i * a i k * b k c)) % p := by
    refine S_mod p fun k _ => ?_
    have : S n (fun i => v i * a i k * b k c) = S n (fun i => v i * a i k) * b k c := by
      rw [Int.mul_comm (S n _) (b k c), ← S_mul]
      exact S_congr fun i _ => Int.mul_comm _ _
    rw [this, Int.mul_emod, Int.emod_emod_of_dvd _ (Int.dvd_refl p), ← Int.mul_emod]
  rw [e1, e2, S_swap]
/-! ### data held against data -/
mutual
theorem any_dp {K : PySem.W.Frag} {H : Hp} : ∀ (d : PyData) (v : V), Any H v d → d.canLay0 = true → Dp K H v d
  | .none, _, h, _ => by
    cases h
    exact .non
  | .bool b, _, h, _ => by
    cases h
    exact .bl b
  | .int i, _, h, _ => by
    cases h
    exact .int i
  | .str x, _, h, _ => by
    cases h
    exact .str x
  | .list ds, _, h, c => by
    cases h with
    | lst e a => exact .lst (SqL.of e) (any_dpL ds _ a (by simpa [PyData.canLay0] using c))
  | .tuple ds, _, h, c => by
    cases h with
    | tup e a => exact .tup (SqT.of e) (any_dpL ds _ a (by simpa [PyData.canLay0] using c))
  | .dict ds, _, h, c => by simp [PyData.canLay0] at c
theorem any_dpL {K : PySem.W.Frag} {H : Hp} : ∀ (ds : List PyData) (vs : List V), AnyL H vs ds → PyData.canLayAll0 ds = true → DpAll K H vs ds
  | [], _, h, _ => by
    cases h
    exact .nil
  | d :: ds, _, h, c => by
    have c' : d.canLay0 = true ∧ PyData.canLayAll0 ds = true := by simpa [PyData.canLayAll0] using c
    cases h with
    | cons a b => exact .cons (any_dp d _ a c'.1) (any_dpL ds _ b c'.2)
end
theorem lay_all : ∀ {ds : List PyData}, (∀ d, d ∈ ds → d.canLay0 = true) → PyData.canLayAll0 ds = true
  | [], _ => by simp [PyData.canLayAll0]
  | d :: ds, h => by simp [PyData.canLayAll0, h d List.mem_cons_self, lay_all (ds := ds) fun x hx => h x (List.mem_cons_of_mem _ hx)]
theorem lay_tup {ds : List PyData} (h : ∀ d, d ∈ ds → d.canLay0 = true) : (PyData.tuple ds).canLay0 = true := by
  simp [PyData.canLay0, lay_all h]
theorem lay_list {ds : List PyData} (h : ∀ d, d ∈ ds → d.canLay0 = true) : (PyData.list ds).canLay0 = true := by
  simp [PyData.canLay0, lay_all h]
theorem lay_ints (ns : List Int) : ∀ d, d ∈ ns.map PyData.int → d.canLay0 = true := by
  intro d hd
  obtain ⟨n, _, rfl⟩ := List.mem_map.mp hd
  simp [PyData.canLay0]
/-- the same data: not unlike -/
theorem ne_same {K : PySem.W.Frag} {H : Hp} {x y : V} {d : PyData} {Q : VK} (a : Any H x d) (b : Any H y d) (c : d.canLay0 = true) (l : d.depth ≤ 64) (q : Q (.bl false) H) : rNeD K x y H Q := by
  have s : SeqAt.shaped d = true := by
    unfold SeqAt.shaped
    rw [c, decide_eq_true l] <;> rfl
  refine ⟨d, d, any_dp d x a c, any_dp d y b c, s, s, ?_⟩
  rw [SeqAt.eqv_refl d c]
  exact q
theorem eq_same {K : PySem.W.Frag} {H : Hp} {x y : V} {d : PyData} {Q : VK} (a : Any H x d) (b : Any H y d) (c : d.canLay0 = true) (l : d.depth ≤ 64) (q : Q (.bl true) H) : rEqD K x y H Q := by
  have s : SeqAt.shaped d = true := by
    unfold SeqAt.shaped
    rw [c, decide_eq_true l] <;> rfl
  refine ⟨d, d, any_dp d x a c, any_dp d y b c, s, s, ?_⟩
  rw [SeqAt.eqv_refl d c]
  exact q
/-! ### comprehensions beside a box -/
theorem lc_box {J : It} {n : Nat} {G : Hp → Prop} {P : Nat → V → Prop} (w : Walk J n G (fun i H x H' => H' = H ∧ P i x)) {j : Nat} {σ : L2.St} {vs : List Nat} {te : TE} {H1 : Hp} {p D : Addr} {c t : Nat} {Q : Hp → Prop} (hn : n ≤ 1000) (hD : H1 D = none) (b0 : Bx H1 p c) (hG : ∀ H, Grow p H1 H → G H) (Good : PyData → Prop)
    (hs : ∀ i x H, i < n → P i x → Grow p H1 H → Bx H p (c + i * t) → (∃ o, H D = some o) → wipe ((wipe σ vs).set j (some x)) vs = wipe σ vs ∧ ∀ k : VK, (∀ y d H', Grow p H H' → Bx H' p (c + i * t + t) → Good d → Any (del (del H' p) D) y d → k y H') → te ((wipe σ vs).set j (some x)) H k)
    (hq : ∀ H acc ds, Grow p H1 H → Bx H p (c + n * t) → H D = some (.lst acc) → AnyL (del (del H p) D) acc ds → ds.length = n → (∀ d, d ∈ ds → Good d) → Q H) :
    ∃ W : Nat → Nat → Hp → Prop, (∃ m, W 0 m (upd H1 D (.lst []))) ∧ ∀ i m H, W i m H →
      (J.stop i H ∧ Q H) ∨ (J.go i H ∧ ∃ Nx : Hp → Prop, (∀ H', Nx H' → ∃ m', m' < m ∧ W (i + 1) m' H') ∧ ∀ x H', J.yld i H x H' → gName j x (wipe σ vs) H' fun σ2 H2 => wipe σ2 vs = wipe σ vs ∧ tYes σ2 H2 fun b H3 =>
        if b = true then te σ2 H3 fun y H4 => ∃ acc, H4 D = some (.lst acc) ∧ acc.length < sizeLine ∧ Nx (upd H4 D (.lst (acc ++ [y]))) else Nx H3) := by
  have pD := b0.ne hD
  refine lc_it w (Qd := Q) (Pv := fun i H => Grow p H1 H ∧ Bx H p (c + i * t) ∧ ∃ acc ds, H D = some (.lst acc) ∧ AnyL (del (del H p) D) acc ds ∧ ds.length = i ∧ ∀ d, d ∈ ds → Good d) ⟨Grow.of (same_new hD), by simpa using b0.keep (same_new hD), [], [], upd_same, .nil, rfl, fun d hd => (nomatch hd)⟩ (fun i H _ h => hG H h.1) ?_ ?_
  · rintro i x H H' hi ⟨g, b, acc, ds, ha, al, l, gd⟩ ⟨rfl, hp⟩
    obtain ⟨e1, e2⟩ := hs i x H' hi hp g b ⟨_, ha⟩
    refine ⟨e1, ?_⟩
    show te _ _ _
    refine e2 _ fun y d H4 g4 b4 gd4 an => ?_
    have ha4 := g4 _ _ pD.symm ha
    have ln := anyL_len al
    have eqd : ∀ o, del (del (upd H4 D o) p) D = del (del H4 p) D := fun o => by
      funext z
      by_cases y1 : z = D
      · rw [y1, del_same, del_same]
      · rw [del_ne y1, del_ne y1]
        by_cases y2 : z = p
        · rw [y2, del_same, del_same]
        · rw [del_ne y2, del_ne y2, upd_ne y1]
    refine ⟨acc, ha4, Nat.lt_of_lt_of_le (by omega : acc.length < 1000) (by decide), ?_, ?_, acc ++ [y], ds ++ [d], upd_same, ?_, by rw [List.length_append, l] <;> rfl, ?_⟩
    · intro z o ne eo
      rw [upd_ne (ne_of_none eo hD)]
      exact (g.trans g4) z o ne eo
    · obtain ⟨a1, a2, a3, h1, rest⟩ := b4
      refine Bx.more ⟨a1, a2, a3, by rw [upd_ne pD]; exact h1, rest⟩ ?_
      rw [Nat.succ_mul]
      omega
    · rw [eqd]
      exact anyL_snoc (anyL_keep (Grow.del (Grow.of g4.del)) al) an
    · intro z hz
      rcases List.mem_append.mp hz with q | q
      · exact gd z q
      · rw [List.mem_singleton.mp q]
        exact gd4
  · rintro H ⟨g, b, acc, ds, ha, al, l, gd⟩
    exact hq H acc ds g b ha al l gd
end Rw

set_option Elab.async false
set_option linter.all false
set_option maxRecDepth 100000
set_option maxHeartbeats 4000000
/-! TkX: data that is small enough to be shown, wider; comprehensions beside a box; texts of signs; drafts of rows. -/
namespace Rw
open PySem PySem.Spec PyProof.Rows L2
/-- small enough, at the n-th level of lists of at most twelve items -/
structure Tq (n : Nat) (d : PyData) : Prop where
  sh : d.showable = true
  dp : d.depth ≤ 3 + n
  ln : d.shown.length ≤ 80 * 13 ^ n
theorem Tq.up {n m : Nat} {d : PyData} (h : Tq n d) (l : n ≤ m) : Tq m d := ⟨h.sh, by have := h.dp; omega, Nat.le_trans h.ln (Nat.mul_le_mul_left _ (Nat.pow_le_pow_right (by decide) l))⟩
theorem Tm.q {n : Nat} {d : PyData} (h : Tm n d) : Tq n d := ⟨h.sh, h.dp, Nat.le_trans h.ln (Nat.mul_le_mul (by decide) (Nat.pow_le_pow_left (by decide) n))⟩
theorem tq_all {n : Nat} : ∀ {ds : List PyData}, (∀ d ∈ ds, Tq n d) → PyData.showableAll ds = true ∧ PyData.depthAll ds ≤ 3 + n ∧ ∀ t ∈ PyData.shownAll ds, t.length ≤ 80 * 13 ^ n
  | [], _ => ⟨by simp only [PyData.showableAll], by simp only [PyData.depthAll]; omega, fun t ht => by simp only [PyData.shownAll] at ht; cases ht⟩
  | d :: ds, h => by
    obtain ⟨a, b, c⟩ := tq_all (ds := ds) fun x hx => h x (List.mem_cons_of_mem _ hx)
    have e := h d List.mem_cons_self
    refine ⟨?_, ?_, ?_⟩
    · simp only [PyData.showableAll, e.sh, a, Bool.and_self]
    · simp only [PyData.depthAll]
      have := e.dp
      omega
    · intro t ht
      simp only [PyData.shownAll] at ht
      rcases List.mem_cons.mp ht with z | z
      · rw [z]
        exact e.ln
      · exact c t z
theorem tq_num {n : Nat} {k : Nat} (l : k ≤ 12) : k * (80 * 13 ^ n + 2) + 3 ≤ 80 * 13 ^ (n + 1) := by
  have p : 0 < 13 ^ n := Nat.pow_pos (by decide)
  have q : k * (80 * 13 ^ n + 2) ≤ 12 * (80 * 13 ^ n + 2) := Nat.mul_le_mul_right _ l
  rw [Nat.pow_succ]
  omega
theorem tq_list {n : Nat} {ds : List PyData} (l : ds.length ≤ 12) (h : ∀ d ∈ ds, Tq n d) : Tq (n + 1) (.list ds) := by
  obtain ⟨a, b, c⟩ := tq_all h
  refine ⟨by simp only [PyData.showable]; exact a, by simp only [PyData.depth]; omega, ?_⟩
  simp only [PyData.shown]
  have ln : (PyData.shownAll ds).length = ds.length := by rw [shownAll_map, List.length_map]
  have z := tq_num (n := n) l
  generalize PyData.shownAll ds = ts at c ln
  cases ts with
  | nil =>
    have e : (listText []).length = 2 := rfl
    rw [e]
    omega
  | cons t r =>
    rw [list_len]
    have p := piled_le c
    rw [piled_cons, ln] at p
    omega
theorem tq_tup {n : Nat} {ds : List PyData} (l : ds.length ≤ 12) (h : ∀ d ∈ ds, Tq n d) : Tq (n + 1) (.tuple ds) := by
  obtain ⟨a, b, c⟩ := tq_all h
  refine ⟨by simp only [PyData.showable]; exact a, by simp only [PyData.depth]; omega, ?_⟩
  simp only [PyData.shown]
  have ln : (PyData.shownAll ds).length = ds.length := by rw [shownAll_map, List.length_map]
  have z := tq_num (n := n) l
  generalize PyData.shownAll ds = ts at c ln
  have p := piled_le c
  rw [ln] at p
  have e : (tupleText ts).length ≤ 1 + (Str.join ", " ts).length + 2 := by
    show (("(" : Str) ++ Str.join ", " ts ++ (if ts.length == 1 then ",)" else ")" : String)).length ≤ _
    rw [strLen_append, strLen_append]
    have e1 : (("(" : String) : Str).length = 1 := rfl
    have e2 : ((if ts.length == 1 then ",)" else ")" : String) : Str).length ≤ 2 := by
      split
      · exact Nat.le_of_eq rfl
      · exact Nat.le_succ_of_le (Nat.le_of_eq rfl)
    omega
  cases ts with
  | nil =>
    have e3 : (Str.join ", " []).length = 0 := rfl
    omega
  | cons t r =>
    have e3 := join_length_add (t :: r) (by simp)
    omega
theorem tq_int {n : Int} (h : n.natAbs < 10 ^ 40) : Tq 0 (.int n) := (tm_int h).q
theorem tq_str {x : Str} (h : x.length ≤ 7) (c : ∀ z ∈ x.cps.toList, z < 16 ^ 8) : Tq 0 (.str x) := by
  refine ⟨by simp only [PyData.showable], by simp only [PyData.depth]; omega, ?_⟩
  simp only [PyData.shown]
  have := PySem.StrLaws.reprText_len x c
  show _ ≤ 80
  omega
theorem arr_small {x : Str} (h : x.cps.toList.all isArr = true) : ∀ z ∈ x.cps.toList, z < 16 ^ 8 := by
  intro z hz
  have := List.all_eq_true.mp h z hz
  unfold isArr at this
  simp only [Bool.or_eq_true, beq_iff_eq] at this
  rcases this with e | e <;> rw [e] <;> decide
/-! ### odd things -/
theorem odd_short : ∀ d ∈ oddL, Short d := by
  have h : ∀ d ∈ oddL, (match d with | .str x => decide (x.length ≤ 1000) | _ => true) = true := by decide +kernel
  intro d hd x e
  have := h d hd
  rw [e] at this
  exact of_decide_eq_true this
theorem odd_items : ∀ d ∈ oddL, ∀ e ∈ itemsD d, Cell e ∧ SheetT e := by
  have h : ∀ d ∈ oddL, ∀ e ∈ itemsD d, e = .int 1 ∨ e = .int 0 ∨ e = .tuple [.int 1] := by
    intro d hd e he
    have k : ∀ d ∈ oddL, itemsD d = [] ∨ itemsD d = [.int 1] ∨ itemsD d = [.int 0] ∨ itemsD d = [.tuple [.int 1]] := by
      intro d hd
      unfold oddL at hd
      simp only [List.mem_cons, List.not_mem_nil, or_false] at hd
      rcases hd with z | z | z | z | z | z | z | z | z | z | z | z | z | z | z | z <;> subst z <;> simp [itemsD]
    rcases k d hd with z | z | z | z <;> rw [z] at he
    · cases he
    · exact .inl (List.mem_singleton.mp he)
    · exact .inr (.inl (List.mem_singleton.mp he))
    · exact .inr (.inr (List.mem_singleton.mp he))
  intro d hd e he
  have c1 : ∀ n : Int, n.natAbs < 10 ^ 40 → Cell (.int n) ∧ SheetT (.int n) := fun n hn => ⟨cell_int hn, (cell_int hn).sheet (Nat.zero_le _)⟩
  rcases h d hd e he with z | z | z
  · rw [z]; exact c1 1 (by decide)
  · rw [z]; exact c1 0 (by decide)
  · rw [z]; have m : PyData.tuple [.int 1] ∈ oddL := by unfold oddL; simp
    exact ⟨odd_cell _ m, odd_sheet m⟩
theorem SheetT.fit {d : PyData} (s : SheetT d) : Fit d := s.f
theorem odd_fitM {d : PyData} (h : d ∈ oddL) : FitM d := ⟨by have := odd_few d h; omega, fun e he => (odd_items d h e he).2.f⟩
/-! ### comprehensions beside a box -/
theorem bx_at {H : Hp} {p : Addr} {n : Nat} (b : Bx H p n) : ∃ xs, H p = some (.lst xs) := by
  obtain ⟨_, _, _, e, _⟩ := b
  exact ⟨_, e⟩
theorem lc_boxN {J : It} {n : Nat} {G : Hp → Prop} {P : Nat → V → Prop} (w : Walk J n G (fun i H x H' => H' = H ∧ P i x)) {j : Nat} {σ : L2.St} {vs : List Nat} {te : TE} {H1 : Hp} {p D : Addr} {c t : Nat} {Q : Hp → Prop} (hn : n ≤ 1000) (hD : H1 D = none) (b0 : Bx H1 p c) (hG : ∀ H, Grow p H1 H → G H) (Good : PyData → Prop) (nf : ∀ d, Good d → noL d = true)
    (hs : ∀ i x H, i < n → P i x → Grow p H1 H → Bx H p (c + i * t) → wipe ((wipe σ vs).set j (some x)) vs = wipe σ vs ∧ ∀ k : VK, (∀ y d H', Grow p H H' → Bx H' p (c + i * t + t) → Good d → Any H' y d → k y H') → te ((wipe σ vs).set j (some x)) H k)
    (hq : ∀ H acc ds, Grow p H1 H → Bx H p (c + n * t) → H D = some (.lst acc) → AnyL H acc ds → ds.length = n → (∀ d, d ∈ ds → Good d) → Q H) :
    ∃ W : Nat → Nat → Hp → Prop, (∃ m, W 0 m (upd H1 D (.lst []))) ∧ ∀ i m H, W i m H →
      (J.stop i H ∧ Q H) ∨ (J.go i H ∧ ∃ Nx : Hp → Prop, (∀ H', Nx H' → ∃ m', m' < m ∧ W (i + 1) m' H') ∧ ∀ x H', J.yld i H x H' → gName j x (wipe σ vs) H' fun σ2 H2 => wipe σ2 vs = wipe σ vs ∧ tYes σ2 H2 fun b H3 =>
        if b = true then te σ2 H3 fun y H4 => ∃ acc, H4 D = some (.lst acc) ∧ acc.length < sizeLine ∧ Nx (upd H4 D (.lst (acc ++ [y]))) else Nx H3) := by
  have pD := b0.ne hD
  refine lc_it w (Qd := Q) (Pv := fun i H => Grow p H1 H ∧ Bx H p (c + i * t) ∧ ∃ acc ds, H D = some (.lst acc) ∧ AnyL H acc ds ∧ ds.length = i ∧ ∀ d, d ∈ ds → Good d) ⟨Grow.of (same_new hD), by simpa using b0.keep (same_new hD), [], [], upd_same, .nil, rfl, fun d hd => (nomatch hd)⟩ (fun i H _ h => hG H h.1) ?_ ?_
  · rintro i x H H' hi ⟨g, b, acc, ds, ha, al, l, gd⟩ ⟨rfl, hp⟩
    obtain ⟨e1, e2⟩ := hs i x H' hi hp g b
    refine ⟨e1, ?_⟩
    show te _ _ _
    refine e2 _ fun y d H4 g4 b4 gd4 an => ?_
    have ha4 := g4 _ _ pD.symm ha
    have ln := anyL_len al
    obtain ⟨bx, hbx⟩ := bx_at b
    have nd : noLs ds = true := noLs_of fun d hd => nf d (gd d hd)
    have al4 : AnyL H4 acc ds := anyL_keep same_del (anyL_keep (Grow.del g4) (anyL_noL hbx _ _ al nd))
    have down : ∀ {v : V} {e : PyData}, Any H4 v e → noL e = true → Any (upd H4 D (.lst (acc ++ [y]))) v e := fun a z => by
      have a1 := any_noL ha4 _ _ a z
      refine a1.keep fun q o eo => ?_
      by_cases y1 : q = D
      · rw [y1, del_same] at eo; cases eo
      · rw [del_ne y1] at eo
        rw [upd_ne y1]
        exact eo
    refine ⟨acc, ha4, Nat.lt_of_lt_of_le (by omega : acc.length < 1000) (by decide), ?_, ?_, acc ++ [y], ds ++ [d], upd_same, ?_, by rw [List.length_append, l] <;> rfl, ?_⟩
    · intro z o ne eo
      rw [upd_ne (ne_of_none eo hD)]
      exact (g.trans g4) z o ne eo
    · obtain ⟨a1, a2, a3, h1, rest⟩ := b4
      refine Bx.more ⟨a1, a2, a3, by rw [upd_ne pD]; exact h1, rest⟩ ?_
      rw [Nat.succ_mul]
      omega
    · refine anyL_snoc ?_ (down an (nf d gd4))
      refine anyL_keep (fun q o eo => ?_) (anyL_noL ha4 _ _ al4 nd)
      by_cases y1 : q = D
      · rw [y1, del_same] at eo; cases eo
      · rw [del_ne y1] at eo
        rw [upd_ne y1]
        exact eo
    · intro z hz
      rcases List.mem_append.mp hz with q | q
      · exact gd z q
      · rw [List.mem_singleton.mp q]
        exact gd4
  · rintro H ⟨g, b, acc, ds, ha, al, l, gd⟩
    exact hq H acc ds g b ha al l gd
/-! ### texts of signs -/
def sg (c : Nat) : Str := ⟨#[c]⟩
theorem join_sg : ∀ cs : List Nat, (Txt.join "" (cs.map sg)).cps.toList = cs := by
  have e0 : ∀ a : Str, (a ++ ("" : Str)) = a := fun a => by
    cases a with
    | mk c =>
      show (⟨c ++ #[]⟩ : Str) = _
      simp
  intro cs
  rw [TL.join_eq]
  induction cs with
  | nil => rfl
  | cons c cs ih =>
    cases cs with
    | nil => rfl
    | cons b r =>
      show ((sg c ++ ("" : Str)) ++ Str.join "" ((b :: r).map sg)).cps.toList = _
      rw [e0]
      show ((#[c] : Array Nat) ++ (Str.join "" ((b :: r).map sg)).cps).toList = _
      rw [Array.toList_append, ih] <;> rfl
/-! ### drafts of rows -/
def tupI (ns : List Int) : PyData := .tuple (ns.map .int)
def sheetD (m : List (List Int)) : PyData := .list (m.map tupI)
def natD (s : Nat) : PyData := .int (s : Nat)
def draftD (x : Str) (q : Int) (ss : List Nat) (ms : List (List (List Int))) : PyData := .list [.str x, .int q, .list (ss.map natD), .list (ms.map sheetD)]
structure MatOk (q : Int) (h w : Nat) (m : List (List Int)) : Prop where
  h : m.length = h
  w : ∀ r, r ∈ m → r.length = w ∧ ∀ e, e ∈ r → 0 ≤ e ∧ e < q
structure Draft (x : Str) (q : Int) (most : Nat) (ss : List Nat) (ms : List (List (List Int))) : Prop where
  sl : ss.length = x.length + 1
  sb : ∀ s, s ∈ ss → s ≤ most
  ml : ms.length = x.length
  mo : ∀ i m, ms[i]? = some m → MatOk q (ss[stA x i]?.getD 0) (ss[goA x i]?.getD 0) m
theorem noL_tupI (r : List Int) : noL (tupI r) = true := by
  show noLs (r.map PyData.int) = true
  refine noLs_of fun d hd => ?_
  obtain ⟨n, _, rfl⟩ := List.mem_map.mp hd
  rfl
/-- the pattern of a draw -/
structure Pat (x : Str) (m : Nat) : Prop where
  l : x.length ≤ m
  a : x.cps.toList.all isArr = true
def spPrimeR : Sp := fun vs H Q _ => ∃ (p : Addr) (n : Nat), vs = [.ref p] ∧ Bx H p n ∧ n ≤ 900000 ∧ ∀ q H', q ∈ primesL → Grow p H H' → Bx H' p (n + 1) → Q (.int q) H'
def spPatR : Sp := fun vs H Q _ => ∃ (p : Addr) (n m : Nat), vs = [.ref p, .int (m : Nat)] ∧ m ≤ 6 ∧ Bx H p n ∧ n ≤ 900000 ∧ ∀ x H', Pat x m → Grow p H H' → Bx H' p (n + 10) → Q (.str x) H'
def spMatR : Sp := fun vs H Q _ => ∃ (p : Addr) (n h w : Nat) (q : Int), vs = [.ref p, .int q, .int (h : Nat), .int (w : Nat)] ∧ q ∈ primesL ∧ h ≤ 6 ∧ w ≤ 6 ∧ Bx H p n ∧ n ≤ 900000 ∧ ∀ M acc m H', H M = none → Grow p H H' → Bx H' p (n + 80) → H' M = some (.lst acc) → AnyL H' acc (m.map tupI) → MatOk q h w m → Q (.ref M) H'
def spMeas : Sp := fun vs H Q _ => ∃ (x : Str) (a : Addr) (i : Nat) (ss : List Nat), vs = [.str x, .ref a, .int (i : Nat)] ∧ H a = some (.lst (ss.map fun s => V.int (s : Nat))) ∧ i < x.length ∧ x.length ≤ 6 ∧ ss.length = x.length + 1 ∧
  ∀ t H', H t = none → Same H H' → H' t = some (.tup [.int ((ss[stA x i]?.getD 0 : Nat) : Int), .int ((ss[goA x i]?.getD 0 : Nat) : Int)]) → Q (.ref t) H'
def spDraft : Sp := fun vs H Q _ => ∃ (p : Addr) (n most : Nat) (x : Str) (q : Int), vs = [.ref p, .str x, .int q, .int (most : Nat)] ∧ Pat x 6 ∧ q ∈ primesL ∧ most ≤ 6 ∧ Bx H p n ∧ n ≤ 800000 ∧
  ∀ l H' ss ms, Draft x q most ss ms → Grow p H H' → Bx H' p (n + 1000) → Any (del H' p) (.ref l) (draftD x q ss ms) → Q (.ref l) H'
end Rw

set_option Elab.async false
set_option linter.all false
set_option maxRecDepth 100000
set_option maxHeartbeats 4000000
/-! TkH: sizes and matrices of rows, as data. -/
namespace Rw
open PySem PySem.Spec PyProof.Rows L2
theorem sizes_parts {k : Nat} {d : PyData} (h : sizesOk k d = true) : isSeqD d = true ∧ (itemsD d).length = k + 1 ∧ (itemsD d).all isSzD = true := by
  unfold sizesOk at h
  simp only [Bool.and_eq_true, decide_eq_true_eq] at h
  exact h
theorem maps_parts {k : Nat} {d : PyData} (h : mapsOk k d = true) : isSeqD d = true ∧ (itemsD d).length = k := by
  unfold mapsOk at h
  simp only [Bool.and_eq_true, decide_eq_true_eq] at h
  exact h
theorem sz_int {d : PyData} (h : isSzD d = true) : ∃ n, d = .int n ∧ 0 ≤ n ∧ n ≤ 6 := by
  cases d with
  | int n =>
    have h2 : (decide (0 ≤ n) && decide (n ≤ 6)) = true := h
    simp only [Bool.and_eq_true, decide_eq_true_eq] at h2
    exact ⟨n, rfl, h2⟩
  | _ => cases h
theorem stA_le (x : Str) (i : Nat) : stA x i ≤ i + 1 := by
  unfold stA
  split <;> omega
theorem goA_le (x : Str) (i : Nat) : goA x i ≤ i + 1 := by
  unfold goA
  split <;> omega
theorem atD_get {d : PyData} {i : Nat} {e : PyData} (h : (itemsD d)[i]? = some e) : atD d i = e := by
  unfold atD
  rw [h] <;> rfl
/-- an item of sizes, as a value -/
theorem sz_at {k : Nat} {ds : PyData} (h : sizesOk k ds = true) {xs : List V} {H : Hp} (al : AnyL H xs (itemsD ds)) {i : Nat} (hi : i ≤ k) : xs[i]? = some (.int (szL ds i)) ∧ 0 ≤ szL ds i ∧ szL ds i ≤ 6 := by
  obtain ⟨_, l, a⟩ := sizes_parts h
  have hi2 : i < (itemsD ds).length := by omega
  have e1 : (itemsD ds)[i]? = some (itemsD ds)[i] := List.getElem?_eq_getElem hi2
  obtain ⟨n, en, n0, n6⟩ := sz_int (List.all_eq_true.mp a _ (List.getElem_mem hi2))
  obtain ⟨v, hv, av⟩ := anyL_of al e1
  have es : szL ds i = n := by
    unfold szL
    rw [atD_get e1, en] <;> rfl
  rw [en] at av
  cases av
  rw [es]
  exact ⟨hv, n0, n6⟩
theorem bad_none {x : Str} {ds dm : PyData} (h : ∀ j, j < x.length → matOk x ds dm j = true) : badAt x ds dm = none := by
  unfold badAt
  rw [List.find?_eq_none]
  intro j hj
  rw [h j (List.mem_range.mp hj)]
  simp
theorem find_range (f : Nat → Bool) : ∀ (n i : Nat), i < n → f i = true → (∀ j, j < i → f j = false) → (List.range n).find? f = some i := by
  intro n
  induction n with
  | zero => intro i h; omega
  | succ n ih =>
    intro i h h1 h2
    rw [List.range_succ, List.find?_append]
    by_cases e : i < n
    · rw [ih i e h1 h2] <;> rfl
    · have e2 : i = n := by omega
      subst e2
      rw [List.find?_eq_none.mpr (fun j hj => by rw [h2 j (List.mem_range.mp hj)]; simp)]
      simp [h1]
theorem bad_some {x : Str} {ds dm : PyData} {i : Nat} (hi : i < x.length) (h : matOk x ds dm i = false) (h2 : ∀ j, j < i → matOk x ds dm j = true) : badAt x ds dm = some i := by
  unfold badAt
  exact find_range _ _ _ hi (by rw [h] <;> rfl) (fun j hj => by rw [h2 j hj] <;> rfl)
end Rw

set_option Elab.async false
set_option linter.all false
set_option maxRecDepth 100000
set_option maxHeartbeats 4000000
/-! TkI: a list held against [] by !=; len of an own object; what is due of a row. -/
namespace Rw
open PySem PySem.Spec PyProof.Rows L2
def rNilN : R2 := fun x y H Q => ∃ a b xs, x = .ref a ∧ y = .ref b ∧ H a = some (.lst xs) ∧ H b = some (.lst []) ∧ Q (.bl (!xs.isEmpty)) H
theorem op_ne_nil {X : Cx} (hu : X.A.units < cLine) : OpR X (compareOp .NotEq) rNilN := by
  intro pins s σ H x y v u Q I rx ry h
  obtain ⟨a, b, xs, rfl, rfl, ea, eb, q⟩ := h
  obtain rfl : v = Value.ref a := rx
  obtain rfl : u = Value.ref b := ry
  obtain ⟨its, ra, pa, _⟩ := I.list (SqL.of ea)
  obtain ⟨its2, rb, pb, _⟩ := I.list (SqL.of eb)
  cases rb
  have ln := ra.length
  cases xs with
  | nil =>
    cases ra
    exact SeqAt.RcNeAt.lists (e := fun _ => true) pa.isList pb.isList rfl hu (fun j h1 h2 => absurd h1 (Nat.not_lt_zero j)) X.prog X.w _ _ ⟨.bl false, H, I, rfl, q⟩
  | cons z zs =>
    refine SeqAt.RcNeAt.lists_lengths pa.isList pb.isList ?_ hu X.prog X.w _ _ ⟨.bl true, H, I, rfl, q⟩
    simp
    intro e
    rw [e] at ln
    cases ln
theorem len_own {prog : Program} {w : World} {A : Around} {E : Value → Shared → Prop} {s : Shared} {K : PySem.W.Frag} {x C f : Addr} {ox : Obj} {od : Option Obj} {Q : Value → Shared → Prop} (X : K.In s.heap) (I : PySem.W.InstAt s.heap x ox C od)
    (hs : PySem.W.findIn K (.ref C) "__len__" = some (some (.ref f))) (hf : PySem.W.isFn K (.ref f) = true)
    (h : wpAny (model prog w) A.in1 (call (.ref f) [.ref x]) (PySem.W.LenBack Q) E s) : wpAny (model prog w) A (call (.builtin "len") [.ref x]) Q E s := by
  refine Calls.call_function_entry kind_len plain_len entry_len (args_len1 _) ?_
  unfold Builtin.«len»
  refine wpAny_bind (m := oneArg "len" _) (wpAny_pure ?_)
  refine wpAny_bind (m := callSpecial? (.ref x) (Str.ofString "__len__")) (PySem.W.special_fn X I hs (beq_iff_eq.mp hf) (wpAny_mono h (fun r s' hr => ?_) fun _ _ y => y))
  cases r <;> first | exact hr.elim | skip
  rename_i n u
  obtain ⟨⟨h0, h1⟩, hq⟩ := hr
  refine wpAny_bind (wpAny_holding (wpAny_pure ?_))
  refine wpAny_bind (wpAny_letGo ?_)
  show wpAny _ _ (if n < 0 then _ else _) _ _ _
  rw [if_neg (by omega)]
  show wpAny _ _ (if n ≥ 2 ^ 63 then _ else _) _ _ _
  rw [if_neg (by omega)]
  exact wpAny_bind (wpAny_mkInt (wpAny_pure ⟨_, rfl, hq⟩))
/-- len(o) by an own __len__ that raises nothing -/
def rLenO (C : Addr) (sp : Sp) : List V → Hp → VK → Prop := fun xs H Q => ∃ a dx fs, xs = [.ref a] ∧ H a = some (.ins C dx fs) ∧ sp [.ref a] H (fun v H' => ∃ n : Int, v = .int n ∧ 0 ≤ n ∧ n < 2 ^ 63 ∧ Q (.int n) H') (fun _ _ _ => False)
theorem call_lenO {X : Cx} {k : Nat} {f C : Addr} {fd : FuncData} {sp : Sp} (hl : PySem.W.findIn X.K (.ref C) "__len__" = some (some (.ref f))) (hfn : PySem.W.isFn X.K (.ref f) = true) (F : FnOk X.prog X.w X.K X.mg X.base CX0 k f fd ["self"] sp) (hr : Room (k + 1) X.A) (hb : Binds X.K fd ["self"] []) :
    CallR X (.builtin "len") (rLenO C sp) := by
  intro pins s σ H xs us Q I r h
  obtain ⟨a, dx, fs, rfl, ea, h⟩ := h
  obtain ⟨u, rfl, ru⟩ := vals1 r
  obtain rfl : u = Value.ref a := ru
  obtain ⟨mA, O, _, _, _, _⟩ := ins_get I.hok ea
  obtain ⟨od, J, _⟩ := O.look
  refine len_own I.kIn J hl hfn (wpAny_call ?_)
  refine codeAny_mono (F.run X.A.in1 X.stack s H ⟨[.ref a], []⟩ [.ref a] [.ref a] _ _ hr.in1 I.env0.in1 (hb _ [.ref a] I.kIn rfl) (.cons rfl .nil) h) fun r s' hq => ?_
  cases r with
  | error er => exact hq.elim
  | ok fl =>
    cases fl with
    | ret u =>
      obtain ⟨v, H', I3, rv, n, rfl, n0, n1, q3⟩ := I.after hq
      obtain ⟨t, rfl⟩ := rv
      exact ⟨⟨n0, n1⟩, .int n, H', I3.tok _, ⟨_, rfl⟩, q3⟩
    | next => exact False.elim hq
    | brk => exact False.elim hq
    | cont => exact False.elim hq
/-! ### what is due of a row -/
def strD : PyData → Str
  | .str x => x | _ => Str.empty
def wD (x : Str) (d : PyData) : PyData := .list [.str x, d]
def rowDue (d0 d1 d2 d3 : PyData) : PyData :=
  if isPatD d0 = true then (if isPr d1 = true then (if sizesOk (strD d0).length d2 = true then (if mapsOk (strD d0).length d3 = true then (match badAt (strD d0) d2 d3 with | some i => wD "matrix" (atD d3 i) | none => wD "told" (.int ((strD d0).length + 1 : Nat))) else wD "maps" d3) else wD "sizes" d2) else wD "prime" d1) else wD "pattern" d0
def barsDue (d : PyData) : PyData := if isPatD d = true then wD "told" (.int ((barsL ((strD d).length + 1)).length : Nat)) else wD "pattern" d
/-- what a thing to make a row of must be for all to go well -/
structure RowFit (d0 d2 d3 : PyData) : Prop where
  sp : Short d0
  ls : (itemsD d2).length ≤ 1000
  fm : FitM d3
def spDueR : Sp := fun vs H Q _ => ∃ v d0 d1 d2 d3, vs = [v] ∧ Any H v (.list [d0, d1, d2, d3]) ∧ RowFit d0 d2 d3 ∧ ∀ l H', Same H H' → Any H' (.ref l) (rowDue d0 d1 d2 d3) → Q (.ref l) H'
def spSheetL : Sp := fun vs H Q _ => ∃ v d h w, vs = [v, .int h, .int w] ∧ Any H v d ∧ Fit d ∧ ∀ H', Same H H' → Q (.bl (isMatD h w d)) H'
def spBarsC : Sp := fun vs H Q _ => ∃ v d, vs = [v] ∧ Any H v d ∧ Short d ∧ ∀ l H', Same H H' → Any H' (.ref l) (barsDue d) → Q (.ref l) H'
def spMeasD : Sp := fun vs H Q _ => ∃ (x : Str) (va : V) (i : Nat) (ds : PyData), vs = [.str x, va, .int (i : Nat)] ∧ Any H va ds ∧ sizesOk x.length ds = true ∧ i < x.length ∧ x.length ≤ 6 ∧
  ∀ t H', H t = none → Same H H' → H' t = some (.tup [.int (szL ds (stA x i)), .int (szL ds (goA x i))]) → Q (.ref t) H'
theorem any_list4 {H : Hp} {v : V} {d0 d1 d2 d3 : PyData} (h : Any H v (.list [d0, d1, d2, d3])) : ∃ a v0 v1 v2 v3, v = .ref a ∧ H a = some (.lst [v0, v1, v2, v3]) ∧ Any H v0 d0 ∧ Any H v1 d1 ∧ Any H v2 d2 ∧ Any H v3 d3 := by
  cases h with
  | lst e al =>
    cases al with
    | cons a0 al =>
      cases al with
      | cons a1 al =>
        cases al with
        | cons a2 al =>
          cases al with
          | cons a3 al =>
            cases al
            exact ⟨_, _, _, _, _, rfl, e, a0, a1, a2, a3⟩
theorem nats_ok {ss : List Nat} {k : Nat} (l : ss.length = k + 1) (h : ∀ s, s ∈ ss → s ≤ 6) : sizesOk k (.list (ss.map natD)) = true := by
  unfold sizesOk
  rw [Bool.and_eq_true, Bool.and_eq_true]
  refine ⟨rfl, decide_eq_true (by show (ss.map natD).length = _; rw [List.length_map]; exact l), List.all_eq_true.mpr fun d hd => ?_⟩
  obtain ⟨s, hs, rfl⟩ := List.mem_map.mp hd
  have := h s hs
  show (decide ((0 : Int) ≤ (s : Nat)) && decide (((s : Nat) : Int) ≤ 6)) = true
  rw [Bool.and_eq_true]
  exact ⟨decide_eq_true (by omega), decide_eq_true (by omega)⟩
theorem nats_sz {ss : List Nat} {j : Nat} : szL (.list (ss.map natD)) j = ((ss[j]?.getD 0 : Nat) : Int) := by
  unfold szL atD
  show intN ((ss.map natD)[j]?.getD .none) = _
  rw [List.getElem?_map]
  cases ss[j]? <;> rfl
end Rw

set_option Elab.async false
set_option linter.all false
set_option maxRecDepth 100000
set_option maxHeartbeats 4000000
/-! TkJ: drafts make rows; own rows made, in a try's body and outside. -/
namespace Rw
open PySem PySem.Spec PyProof.Rows L2
theorem pair_any {H : Hp} {l : Addr} {x : Str} {v : V} {d : PyData} (hl : H l = none) (h : Any H v d) : Any (upd H l (.lst [.str x, v])) (.ref l) (.list [.str x, d]) := .lst upd_same (.cons (.str x) (.cons (h.keep (same_new hl)) .nil))
theorem fmod_id {e q : Int} (h0 : 0 ≤ e) (h1 : e < q) : e.fmod q = e := by
  rw [fmod_pos (by omega)]
  exact Int.emod_eq_of_lt h0 h1
theorem rows_id {q : Int} {h w : Nat} {m : List (List Int)} (k : MatOk q h w m) : rowsM q (sheetD m) = m.map tupI := by
  unfold rowsM
  show (m.map tupI).map (fun r => PyData.tuple ((itemsD r).map (modD q))) = _
  rw [List.map_map]
  refine List.map_congr_left fun r hr => ?_
  show PyData.tuple (((r.map PyData.int)).map (modD q)) = _
  rw [List.map_map]
  unfold tupI
  congr 1
  refine List.map_congr_left fun e he => ?_
  obtain ⟨h0, h1⟩ := (k.w r hr).2 e he
  show PyData.int (e.fmod q) = _
  rw [fmod_id h0 h1]
theorem mat_is {q : Int} {h w : Nat} {m : List (List Int)} (k : MatOk q h w m) : isMatD (h : Nat) (w : Nat) (sheetD m) = true := by
  unfold isMatD
  rw [Bool.and_eq_true, Bool.and_eq_true]
  refine ⟨rfl, decide_eq_true (by show (((m.map tupI).length : Nat) : Int) = _; rw [List.length_map, k.h]), List.all_eq_true.mpr fun d hd => ?_⟩
  obtain ⟨r, hr, rfl⟩ := List.mem_map.mp hd
  unfold isVecD
  rw [Bool.and_eq_true, Bool.and_eq_true]
  refine ⟨rfl, decide_eq_true (by show (((r.map PyData.int).length : Nat) : Int) = _; rw [List.length_map, (k.w r hr).1]), List.all_eq_true.mpr fun e he => ?_⟩
  obtain ⟨n, _, rfl⟩ := List.mem_map.mp he
  rfl
theorem draft_at {ms : List (List (List Int))} {i : Nat} {m : List (List Int)} (h : ms[i]? = some m) : atD (.list (ms.map sheetD)) i = sheetD m := atD_get (by
  show (ms.map sheetD)[i]? = _
  rw [List.getElem?_map, h] <;> rfl)
theorem draft_good {x : Str} {q : Int} {most : Nat} {ss : List Nat} {ms : List (List (List Int))} (d : Draft x q most ss ms) (px : Pat x 6) (hq : q ∈ primesL) (m6 : most ≤ 6) : rowGood x q (.list (ss.map natD)) (.list (ms.map sheetD)) = true := by
  unfold rowGood
  have e1 : isPatD (.str x) = true := by
    show (decide (x.length ≤ 6) && x.cps.toList.all isArr) = true
    rw [decide_eq_true px.l, px.a] <;> rfl
  have e2 : isPr (.int q) = true := decide_eq_true hq
  have e3 : mapsOk x.length (.list (ms.map sheetD)) = true := by
    unfold mapsOk
    rw [Bool.and_eq_true]
    exact ⟨rfl, decide_eq_true (by show (ms.map sheetD).length = _; rw [List.length_map, d.ml])⟩
  have e4 : badAt x (.list (ss.map natD)) (.list (ms.map sheetD)) = none := bad_none fun j hj => by
    have hj2 : j < ms.length := by rw [d.ml]; exact hj
    have h1 : ms[j]? = some ms[j] := List.getElem?_eq_getElem hj2
    unfold matOk
    rw [draft_at h1, nats_sz, nats_sz]
    exact mat_is (d.mo j _ h1)
  rw [e1, e2, nats_ok d.sl (fun s hs => Nat.le_trans (d.sb s hs) m6), e3, e4] <;> rfl
theorem draft_rows {x : Str} {q : Int} {most : Nat} {ss : List Nat} {ms : List (List (List Int))} (d : Draft x q most ss ms) : (itemsD (.list (ms.map sheetD))).map (rowsM q) = ms.map fun m => m.map tupI := by
  show (ms.map sheetD).map (rowsM q) = _
  rw [List.map_map]
  refine List.map_congr_left fun m hm => ?_
  obtain ⟨i, hi⟩ := List.getElem?_of_mem hm
  exact rows_id (d.mo i m hi)
theorem mat_small {q : Int} {h w : Nat} {m : List (List Int)} (k : MatOk q h w m) (hq : q ∈ primesL) (h6 : h ≤ 6) (w6 : w ≤ 6) : Fit (sheetD m) ∧ SheetT (sheetD m) := by
  have pp := prime_pos hq
  have cell : ∀ r, r ∈ m → ∀ d, d ∈ r.map PyData.int → Cell d := fun r hr d hd => by
    obtain ⟨e, he, rfl⟩ := List.mem_map.mp hd
    obtain ⟨h0, h1⟩ := (k.w r hr).2 e he
    exact cell_int (Nat.lt_of_le_of_lt (by omega : e.natAbs ≤ 13) (by decide))
  have lr : ∀ r, r ∈ m → (r.map PyData.int).length ≤ 6 := fun r hr => by rw [List.length_map, (k.w r hr).1]; exact w6
  have lm : (m.map tupI).length ≤ 6 := by rw [List.length_map, k.h]; exact h6
  have row : ∀ d, d ∈ m.map tupI → RowT d := fun d hd => by
    obtain ⟨r, hr, rfl⟩ := List.mem_map.mp hd
    exact ⟨tm_tup (lr r hr) fun d hd => (cell r hr d hd).tm, fit1_of (ds := r.map PyData.int) rfl (by have := lr r hr; omega) fun d hd => (cell r hr d hd).sm, rfl⟩
  have s := sheet_list lm row
  exact ⟨s.f, s⟩
theorem st_le {x : Str} {i : Nat} (h : i < x.length) : stA x i ≤ x.length := Nat.le_trans (stA_le x i) h
theorem get_le {ss : List Nat} {most : Nat} (h : ∀ s, s ∈ ss → s ≤ most) (j : Nat) : ss[j]?.getD 0 ≤ most := by
  cases e : ss[j]? with
  | none => exact Nat.zero_le _
  | some s => exact h s (List.mem_of_getElem? e)
theorem draft_sheet {x : Str} {q : Int} {most : Nat} {ss : List Nat} {ms : List (List (List Int))} (d : Draft x q most ss ms) (hq : q ∈ primesL) (m6 : most ≤ 6) : ∀ e, e ∈ ms.map sheetD → SheetT e := by
  intro e he
  obtain ⟨m, hm, rfl⟩ := List.mem_map.mp he
  obtain ⟨i, hi⟩ := List.getElem?_of_mem hm
  exact (mat_small (d.mo i m hi) hq (Nat.le_trans (get_le d.sb _) m6) (Nat.le_trans (get_le d.sb _) m6)).2
theorem draft_fitM {x : Str} {q : Int} {most : Nat} {ss : List Nat} {ms : List (List (List Int))} (d : Draft x q most ss ms) (px : Pat x 6) (hq : q ∈ primesL) (m6 : most ≤ 6) : FitM (.list (ms.map sheetD)) :=
  ⟨by show (ms.map sheetD).length ≤ _; rw [List.length_map, d.ml]; have := px.l; omega, fun e he => (draft_sheet d hq m6 e he).f⟩
theorem pat_short {x : Str} {m : Nat} (p : Pat x m) (h : m ≤ 6) : Short (.str x) := fun y e => by
  cases e
  have := p.l
  omega
/-! ### rows made -/
/-- the class of rows, its methods at hand -/
structure RowsAt (P : Program) (w : World) (K : PySem.W.Frag) (mg : Str → Option Value) (base : Heap) (C CT CP CZ CA CM : Addr) : Prop where
  g : mg "Row" = some (.ref C)
  cl : Cls K C
  ini : ∃ (f : Addr) (fd : FuncData), Mk K C f ∧ FnOk P w K mg base (L2.CX P w) 6 f fd ["self", "pattern", "prime", "sizes", "maps"] (spIniR C CT CP CZ CA CM) ∧ Binds K fd ["self", "pattern", "prime", "sizes", "maps"] []
section
variable {X : Cx} {C CT CP CZ CA CM : Addr} {p pos : Pos} {e : Expr} {es : List Expr} {t : TA}
def tRowS (C CT CP CZ CA CM : Addr) (W : WX) (t : TA) : TE := fun σ H Q => t σ H fun vs H1 => tRowMk C CT CP CZ CA CM H1 vs Q (fun cls d H' => W cls d σ H')
def tRowN (C CT CP CZ CA CM : Addr) (E : XK) (t : TA) : TE := fun σ H Q => t σ H fun vs H1 => tRowMk C CT CP CZ CA CM H1 vs Q E
theorem pe_rowS {W : WX} (R : RowsAt X.prog X.w X.K X.mg X.base C CT CP CZ CA CM) (hr : Room 7 X.A) (hx : ∀ σ, PassesAt (L2.CX X.prog X.w) X σ (fun cls d H' => W cls d σ H')) (ha : PA X (e :: es) t) (hg : Gl X "Row" := by rfl)
    (he : starEach (e :: es) X.env = (false, eval e X.env) :: starEach es X.env := by rfl) (hpl : (backTo pos (starEach es X.env)).any (·.1) = false := by rfl) : PE X (.Call (.Name "Row" p) (e :: es) [] pos) (tRowS C CT CP CZ CA CM W t) := by
  obtain ⟨f, fd, M, F, hb⟩ := R.ini
  refine ⟨fun pins s σ H Q I h => ?_⟩
  refine wpAny_Call_Name_kw (ld_glob I hg R.g ?_ (by decide))
  refine PySem.W.callWith_K (h₀ := X.base) I.ok.mod.kin M.kp (thn (ha.run pos pins s σ H _ I h) fun us s1 ⟨vs, H1, I1, r, q⟩ => ⟨I1.kIn, ?_⟩) he hpl
  exact run_makeS M F hr hb .nil hx I1 r (row_make q)
theorem pe_rowN {E : XK} (R : RowsAt X.prog X.w X.K X.mg X.base C CT CP CZ CA CM) (hr : Room 7 X.A) (hx : Passes (L2.CX X.prog X.w) X E) (ha : PA X (e :: es) t) (hg : Gl X "Row" := by rfl)
    (he : starEach (e :: es) X.env = (false, eval e X.env) :: starEach es X.env := by rfl) (hpl : (backTo pos (starEach es X.env)).any (·.1) = false := by rfl) : PE X (.Call (.Name "Row" p) (e :: es) [] pos) (tRowN C CT CP CZ CA CM E t) := by
  obtain ⟨f, fd, M, F, hb⟩ := R.ini
  refine ⟨fun pins s σ H Q I h => ?_⟩
  refine wpAny_Call_Name_kw (ld_glob I hg R.g ?_ (by decide))
  refine PySem.W.callWith_K (h₀ := X.base) I.ok.mod.kin M.kp (thn (ha.run pos pins s σ H _ I h) fun us s1 ⟨vs, H1, I1, r, q⟩ => ⟨I1.kIn, ?_⟩) he hpl
  exact run_make M F hr hb .nil hx I1 r (row_make q)
end
def spRowL (C : Addr) : Sp := fun vs H Q _ => ∃ v x q most ss ms, vs = [v] ∧ Any H v (draftD x q ss ms) ∧ Draft x q most ss ms ∧ Pat x 6 ∧ q ∈ primesL ∧ most ≤ 6 ∧
  ∀ a H', H a = none → Same H H' → RowAt C H' a x q (ss.map natD) (ms.map fun m => m.map tupI) → Q (.ref a) H'
/-- of data that is right nothing is refused -/
theorem good_parts {x : Str} {p : Int} {ds dm : PyData} (h : rowGood x p ds dm = true) : isPatD (.str x) = true ∧ isPr (.int p) = true ∧ sizesOk x.length ds = true ∧ mapsOk x.length dm = true ∧ badAt x ds dm = none := by
  unfold rowGood at h
  simp only [Bool.and_eq_true, Option.isNone_iff_eq_none] at h
  exact h
theorem good_err {x : Str} {p : Int} {vp vq va vm : V} {ds dm : PyData} {CT CP CZ CA CM : Addr} {H : Hp} {E : XK} (h : rowGood x p ds dm = true) : RowErr CT CP CZ CA CM H E vp vq va vm (.str x) (.int p) ds dm := by
  obtain ⟨h1, h2, h3, h4, h5⟩ := good_parts h
  refine ⟨fun z => (by rw [h1] at z; cases z), fun _ z => (by rw [h2] at z; cases z), fun y e _ _ z => ?_, fun y e _ _ _ z => ?_, fun y i v H1 e _ _ _ _ z => ?_⟩
  · cases e; rw [h3] at z; cases z
  · cases e; rw [h4] at z; cases z
  · cases e; rw [h5] at z; cases z
def spMatC (C : Addr) : Sp := fun vs H Q _ => ∃ a v d x p ss mm, vs = [.ref a, v] ∧ RowAt C H a x p ss mm ∧ Any H v d ∧ mm.length ≤ 1000 ∧ ∀ l H', Same H H' → Any H' (.ref l) (if inB d (.int 0) (.int ((mm.length : Nat) - 1 : Int)) = true then wD "told" (.list (mm[(intN d).toNat]?.getD [])) else wD "place" d) → Q (.ref l) H'
def spBarsN : Sp := fun vs H Q _ => ∃ x, vs = [.str x] ∧ x.length ≤ 6 ∧ ∀ l acc H', H l = none → Same H H' → H' l = some (.lst acc) → AnyL H' acc ((barsL (x.length + 1)).map barD) → Q (.ref l) H'
end Rw

set_option Elab.async false
set_option linter.all false
set_option maxRecDepth 100000
set_option maxHeartbeats 4000000
/-! TkBG: a tuple times any number of times. -/
namespace Rw
open PySem PySem.Spec PyProof.Rows L2
theorem tuple_mul1 (l : Addr) (items : Array Value) (n : Nat) (dd : Option Addr) (sl : Array (Option Value)) (u : Tok) (ne : items.isEmpty = false) :
    Meets (Builtin.«tuple.__mul__» ⟨[.ref l, .int 1 u], []⟩) (fun _ R s => s.heap.get? l = some { cls := .type "tuple", dict := dd, data := .seq items n, slots := sl } ∧ R (.ok (.ret (Value.ref l))) s) :=
  .of_wp fun prog w A R s h => by
    obtain ⟨hp, g, d, tk, os⟩ := s
    obtain ⟨hl, h⟩ := h
    have f1 := AutoSeq1.idx_int
    wp_walk using wpAny_loadPart' hl
    exact ⟨_, rfl, h⟩
theorem tuple_mul0 (l : Addr) (items : Array Value) (n : Nat) (dd : Option Addr) (sl : Array (Option Value)) (x : Int) (u : Tok) (c0 : (decide (x < -(2 ^ 63)) || decide (x ≥ 2 ^ 63)) = false) (c1 : (items.isEmpty || x == 1) = false) (c2 : (decide (x ≤ 0) || items.isEmpty) = true) :
    Meets (Builtin.«tuple.__mul__» ⟨[.ref l, .int x u], []⟩) (fun _ R s => s.heap.get? l = some { cls := .type "tuple", dict := dd, data := .seq items n, slots := sl } ∧
      R (.ok (.ret (Value.ref s.heap.objs.size))) { s with heap := s.heap.push { cls := Value.type "tuple", data := Data.seq #[] }, toks := s.toks }) :=
  .of_wp fun prog w A R s h => by
    obtain ⟨hp, g, d, tk, os⟩ := s
    obtain ⟨hl, h⟩ := h
    have f1 := AutoSeq1.idx_int
    wp_walk using wpAny_loadPart' hl
    repeat (first
      | (refine wpAny_ite_false (decide_eq_false (by rw [c0]; exact Bool.false_ne_true)) ?_; wp_walk using wpAny_loadPart' hl)
      | (refine wpAny_ite_false (decide_eq_false (by rw [c1]; exact Bool.false_ne_true)) ?_; wp_walk using wpAny_loadPart' hl)
      | (refine wpAny_ite_true (decide_eq_true (by rw [c2])) ?_; wp_walk using wpAny_loadPart' hl))
    exact ⟨_, rfl, h⟩
/-- a tuple with one item, so many times -/
def rRepO : R2 := fun x y H Q => ∃ (l : Addr) (k : Nat) (a : V), x = .ref l ∧ y = .int (k : Nat) ∧ H l = some (.tup [a]) ∧ k ≤ 1000 ∧ ∀ p H', Same H H' → H' p = some (.tup (List.replicate k a)) → Q (.ref p) H'
theorem op_repO {X : Cx} : OpR X (binaryOp .Mult) rRepO := by
  intro pins s σ H x y v u Q I rx ry h
  obtain ⟨l, k, a, rfl, rfl, hT0, hk, q⟩ := h
  have hT : SqT X.K H l [a] := SqT.of hT0
  by_cases k2 : 2 ≤ k
  · refine op_repT pins s σ H _ _ v u Q I rx ry ⟨l, (k : Nat), [a], rfl, rfl, hT, by simp, by omega, by omega, by show 1 ≤ 1000; decide, fun p hp => q p _ (same_new hp) ?_⟩
    rw [upd_same]
    have e : (List.replicate ((k : Nat) : Int).toNat [a]).flatten = List.replicate k a := by
      rw [Int.toNat_natCast]
      simp
    rw [e]
  cases rx
  obtain ⟨t, rfl⟩ := ry
  obtain ⟨its, r, ⟨⟨cls, dd, data, sl⟩, ho, hc, n, hd⟩, hs⟩ := I.tuple hT
  simp only at hc hd
  subst hc hd
  have hle : its.length = 1 := r.length.symm
  have hi : its.toArray.isEmpty = false := by
    cases its with
    | nil => cases hle
    | cons a b => rfl
  have c0 : (decide (((k : Nat) : Int) < -(2 ^ 63)) || decide (((k : Nat) : Int) ≥ 2 ^ 63)) = false := by
    rw [decide_eq_false (by omega), decide_eq_false (by omega)] <;> rfl
  by_cases k1 : k = 1
  · subst k1
    refine wpAny_binaryOp_repeat_ref (T := "tuple") (U := "int") (by decide) ⟨_, ho, rfl⟩ (fun s' => typeIs_int s' _ t) noFill_tuple_mul F.fills_int_mul F.slot_int_rmul repeat_tuple F.slot_int_index.lookup
      (call_meets F.slot_int_rmul (typeIs_int s _ t) F.entry_int_rmul (F.args_int_rmul_2 _ _) (int_rmul_tuple _ t l its.toArray n dd sl)
        ⟨ho, rfl, ⟨_, ho, rfl⟩, call_meets F.slot_tuple_mul ⟨_, ho, rfl⟩ F.entry_tuple_mul (F.args_tuple_mul_2 _ _) (tuple_mul1 l its.toArray n dd sl t hi) ⟨ho, ?_⟩⟩)
    exact ⟨.ref l, H, I, rfl, q l H (Same.refl _) hT0⟩
  · have k0 : k = 0 := by omega
    subst k0
    have c1 : (its.toArray.isEmpty || ((0 : Nat) : Int) == 1) = false := by rw [hi] <;> rfl
    have c2 : (decide (((0 : Nat) : Int) ≤ 0) || its.toArray.isEmpty) = true := by rw [decide_eq_true (by omega)] <;> rfl
    refine wpAny_binaryOp_repeat_ref (T := "tuple") (U := "int") (by decide) ⟨_, ho, rfl⟩ (fun s' => typeIs_int s' _ t) noFill_tuple_mul F.fills_int_mul F.slot_int_rmul repeat_tuple F.slot_int_index.lookup
      (call_meets F.slot_int_rmul (typeIs_int s _ t) F.entry_int_rmul (F.args_int_rmul_2 _ _) (int_rmul_tuple _ t l its.toArray n dd sl)
        ⟨ho, rfl, ⟨_, ho, rfl⟩, call_meets F.slot_tuple_mul ⟨_, ho, rfl⟩ F.entry_tuple_mul (F.args_tuple_mul_2 _ _) (tuple_mul0 l its.toArray n dd sl _ t c0 c1 c2) ⟨ho, ?_⟩⟩)
    refine ⟨.ref s.heap.objs.size, _, I.laid (t' := s.toks) (o := .tup []) (fun b ob q => Heap.get?_push_of_some _ q) (Nat.le_refl _) ?_, rfl, q _ _ (same_new (I.hok.fresh (Nat.le_refl _))) upd_same⟩
    exact ⟨by show 0 ≤ sizeLine; decide, _, .nil, IsTup.new _ _⟩
end Rw

set_option Elab.async false
set_option linter.all false
set_option maxRecDepth 100000
set_option maxHeartbeats 4000000
/-! TkBF: rows, read and joined: the promises. -/
namespace Rw
open PySem PySem.Spec PyProof.Rows L2
theorem ints_at {ns : List Int} {i : Nat} {v : V} (h : (ns.map V.int)[i]? = some v) : ∃ n, ns[i]? = some n ∧ v = .int n := by
  rw [List.getElem?_map] at h
  cases e : ns[i]? with
  | none => rw [e] at h; cases h
  | some n =>
    rw [e] at h
    exact ⟨n, rfl, (Option.some.inj h).symm⟩
theorem anyL_app {H : Hp} : ∀ {xs ys : List V} {ds es : List PyData}, AnyL H xs ds → AnyL H ys es → AnyL H (xs ++ ys) (ds ++ es)
  | _, _, _, _, .nil, b => b
  | _, _, _, _, .cons a r, b => .cons a (anyL_app r b)
def spGetP (C : Addr) : Sp := fun vs H Q _ => ∃ a x p ss mm, vs = [.ref a] ∧ RowAt C H a x p ss mm ∧ Q (.str x) H
def spGetQ (C : Addr) : Sp := fun vs H Q _ => ∃ a x p ss mm, vs = [.ref a] ∧ RowAt C H a x p ss mm ∧ Q (.int p) H
def spGetS (C : Addr) : Sp := fun vs H Q _ => ∃ a x p ss mm, vs = [.ref a] ∧ RowAt C H a x p ss mm ∧ ∀ ts, Any H (.ref ts) (.tuple ss) → Q (.ref ts) H
/-- a property of rows at hand -/
structure PropAt (P : Program) (w : World) (K : PySem.W.Frag) (mg : Str → Option Value) (base : Heap) (C : Addr) (f : Str) (sp : Sp) : Prop where
  cl : Cls K C
  has : ∃ (p g : Addr) (fd : FuncData), PropOf K C f p g ∧ FnOk P w K mg base CX0 1 g fd ["self"] sp ∧ Binds K fd ["self"] []
section
variable {X : Cx} {C : Addr} {f : Str} {sp : Sp} {e : Expr} {ta : TE} {pos : Pos}
theorem pass0n : Passes CX0 X.nox E0 := pass0
theorem pe_prp (A : PropAt X.prog X.w X.K X.mg X.base C f sp) (hr : Room 2 X.A) (he : PE X e ta) (hab : attributeBase e f X.env (eval e X.env) = eval e X.env := by rfl) : PE X (.Attribute e f pos) (tProp C sp [] E0 ta) := by
  obtain ⟨p, g, fd, hp, F, hb⟩ := A.has
  exact pe_prop he A.cl hp F hr hb .nil pass0n hab
end
/-- a method of rows that raises nothing, without arguments -/
structure Meth0At (P : Program) (w : World) (K : PySem.W.Frag) (mg : Str → Option Value) (base : Heap) (C : Addr) (m : Str) (k : Nat) (sp : Sp) : Prop where
  cl : Cls K C
  has : ∃ (f : Addr) (fd : FuncData), Meth K C m f ∧ FnOk P w K mg base CX0 k f fd ["self"] sp ∧ Binds K fd ["self"] []
/-- the first of some numbers above 6 -/
def spLow (K : PySem.W.Frag) (CG : Addr) : Sp := fun vs H Q E => ∃ (a : Addr) (ns : List Int), vs = [.ref a] ∧ SqL K H a (ns.map V.int) ∧ ns.length ≤ 1000 ∧ ((∀ (i : Nat) (n : Int), ns[i]? = some n → n ≤ 6) → Q .non H) ∧
  (∀ (i : Nat) (n : Int), ns[i]? = some n → 6 < n → (∀ (j : Nat) (m : Int), j < i → ns[j]? = some m → m ≤ 6) → Thrown CG (.int n) H E)
def spAlike (C CU : Addr) : Sp := fun vs H Q E => ∃ a b x p ss mm y q ts nn, vs = [.ref a, .ref b] ∧ RowAt C H a x p ss mm ∧ RowAt C H b y q ts nn ∧ (x = y → p = q → Q .non H) ∧ (¬(x = y ∧ p = q) → ThrownN CU H E)
/-- the rows of the one, zeros behind, and those of the other, zeros ahead -/
def besM (m1 m2 : List (List Int)) (w k : Nat) : List (List Int) := m1.map (fun r => r ++ List.replicate k 0) ++ m2.map (fun r => List.replicate w 0 ++ r)
def spBes : Sp := fun vs H Q _ => ∃ v1 v2 m1 m2 w k, vs = [v1, v2, .int (w : Nat), .int (k : Nat)] ∧ Any H v1 (.tuple (m1.map tupI)) ∧ Any H v2 (.tuple (m2.map tupI)) ∧ m1.length ≤ 6 ∧ m2.length ≤ 6 ∧ w ≤ 6 ∧ k ≤ 6 ∧ (∀ r, r ∈ m1 → r.length ≤ 6) ∧ (∀ r, r ∈ m2 → r.length ≤ 6) ∧
  ∀ l acc H', H l = none → Same H H' → H' l = some (.lst acc) → AnyL (del H' l) acc ((besM m1 m2 w k).map tupI) → Q (.ref l) H'
theorem cat_tup {K : PySem.W.Frag} {H : Hp} {a b : Addr} {xs ys : List V} {Q : VK} (ha : H a = some (.tup xs)) (hb : H b = some (.tup ys)) (hl : xs.length + ys.length ≤ 1000) (q : ∀ p H', Same H H' → H' p = some (.tup (xs ++ ys)) → Q (.ref p) H') : rCatA K (.ref a) (.ref b) H Q := by
  refine ⟨a, b, xs, ys, rfl, rfl, SqT.of ha, SqT.of hb, Nat.le_trans hl (by decide), fun e => q b H (Same.refl _) ?_, fun _ e => q a H (Same.refl _) ?_, fun _ _ p hp => q p _ (same_new hp) upd_same⟩
  · rw [e]; exact hb
  · rw [e, List.append_nil]; exact ha
theorem any_tupI {H : Hp} {v : V} {r : List Int} (h : Any H v (tupI r)) : ∃ p, v = .ref p ∧ H p = some (.tup (r.map V.int)) := by
  cases h with
  | tup e al => exact ⟨_, rfl, by rw [e, anyL_ints al]⟩
theorem tupI_any {H : Hp} {p : Addr} {r : List Int} (h : H p = some (.tup (r.map V.int))) : Any H (.ref p) (tupI r) := .tup h (ints_anyL r)
theorem rep_ints (k : Nat) : List.replicate k (V.int 0) = (List.replicate k (0 : Int)).map V.int := by simp
end Rw

set_option Elab.async false
set_option linter.all false
set_option maxRecDepth 100000
set_option maxHeartbeats 4000000
/-! TkBH: rows beside one another, parts of rows: the drafts and the promises. -/
namespace Rw
open PySem PySem.Spec PyProof.Rows L2
def sumS (ss ts : List Nat) : List Nat := (List.range ss.length).map fun i => ss[i]?.getD 0 + ts[i]?.getD 0
def besMs (x : Str) (ss ts : List Nat) (ms ns : List (List (List Int))) : List (List (List Int)) := (List.range x.length).map fun i => besM (ms[i]?.getD []) (ns[i]?.getD []) (ss[goA x i]?.getD 0) (ts[goA x i]?.getD 0)
theorem sumS_len (ss ts : List Nat) : (sumS ss ts).length = ss.length := by
  unfold sumS
  rw [List.length_map, List.length_range]
theorem sumS_at {ss ts : List Nat} {i : Nat} (h : i < ss.length) : (sumS ss ts)[i]? = some (ss[i]?.getD 0 + ts[i]?.getD 0) := by
  unfold sumS
  rw [List.getElem?_map, List.getElem?_range h] <;> rfl
theorem besMs_len (x : Str) (ss ts : List Nat) (ms ns : List (List (List Int))) : (besMs x ss ts ms ns).length = x.length := by
  unfold besMs
  rw [List.length_map, List.length_range]
theorem besMs_at {x : Str} {ss ts : List Nat} {ms ns : List (List (List Int))} {i : Nat} (h : i < x.length) : (besMs x ss ts ms ns)[i]? = some (besM (ms[i]?.getD []) (ns[i]?.getD []) (ss[goA x i]?.getD 0) (ts[goA x i]?.getD 0)) := by
  unfold besMs
  rw [List.getElem?_map, List.getElem?_range h] <;> rfl
theorem Draft.at_ {x : Str} {q : Int} {most : Nat} {ss : List Nat} {ms : List (List (List Int))} (d : Draft x q most ss ms) {i : Nat} (h : i < x.length) : MatOk q (ss[stA x i]?.getD 0) (ss[goA x i]?.getD 0) (ms[i]?.getD []) := by
  have h2 : i < ms.length := by rw [d.ml]; exact h
  have e : ms[i]? = some ms[i] := List.getElem?_eq_getElem h2
  rw [e]
  exact d.mo i _ e
theorem go_le {x : Str} {i : Nat} (h : i < x.length) : goA x i ≤ x.length := by
  unfold goA
  split <;> omega
theorem st_le2 {x : Str} {i : Nat} (h : i < x.length) : stA x i ≤ x.length := by
  unfold stA
  split <;> omega
theorem bes_ok {q : Int} {h1 h2 w k : Nat} {m1 m2 : List (List Int)} (q0 : 0 < q) (a : MatOk q h1 w m1) (b : MatOk q h2 k m2) : MatOk q (h1 + h2) (w + k) (besM m1 m2 w k) := by
  refine ⟨?_, fun r hr => ?_⟩
  · unfold besM
    rw [List.length_append, List.length_map, List.length_map, a.h, b.h]
  · unfold besM at hr
    rcases List.mem_append.mp hr with z | z
    · obtain ⟨r0, h0, rfl⟩ := List.mem_map.mp z
      obtain ⟨l0, i0⟩ := a.w r0 h0
      refine ⟨by rw [List.length_append, l0, List.length_replicate], fun e he => ?_⟩
      rcases List.mem_append.mp he with y | y
      · exact i0 e y
      · rw [List.eq_of_mem_replicate y]
        exact ⟨Int.le_refl _, q0⟩
    · obtain ⟨r0, h0, rfl⟩ := List.mem_map.mp z
      obtain ⟨l0, i0⟩ := b.w r0 h0
      refine ⟨by rw [List.length_append, l0, List.length_replicate], fun e he => ?_⟩
      rcases List.mem_append.mp he with y | y
      · rw [List.eq_of_mem_replicate y]
        exact ⟨Int.le_refl _, q0⟩
      · exact i0 e y
theorem sum_draft {x : Str} {q : Int} {m1 m2 : Nat} {ss ts : List Nat} {ms ns : List (List (List Int))} (a : Draft x q m1 ss ms) (b : Draft x q m2 ts ns) (hq : q ∈ primesL) (h : ∀ (i n : Nat), (sumS ss ts)[i]? = some n → n ≤ 6) : Draft x q 6 (sumS ss ts) (besMs x ss ts ms ns) := by
  have q0 : 0 < q := by have := prime_pos hq; omega
  refine ⟨by rw [sumS_len]; exact a.sl, fun s hs => ?_, besMs_len x ss ts ms ns, fun i m hm => ?_⟩
  · obtain ⟨i, hi⟩ := List.getElem?_of_mem hs
    exact h i s hi
  · have hi : i < x.length := by
      have := (List.getElem?_eq_some_iff.mp hm).1
      rw [besMs_len] at this
      exact this
    rw [besMs_at hi] at hm
    cases hm
    have g := go_le hi
    have t := st_le2 hi
    rw [sumS_at (by rw [a.sl]; omega), sumS_at (by rw [a.sl]; omega)]
    exact bes_ok q0 (a.at_ hi) (b.at_ hi)
theorem nat_vals {H : Hp} {xs : List V} {ss : List Nat} (h : AnyL H xs (ss.map natD)) : xs = ss.map fun s => V.int (s : Nat) := by
  have e : ss.map natD = (ss.map fun s => ((s : Nat) : Int)).map PyData.int := by
    rw [List.map_map]
    rfl
  rw [e] at h
  rw [anyL_ints h, List.map_map] <;> rfl
theorem nats_anyL {H : Hp} (ss : List Nat) : AnyL H (ss.map fun s => V.int (s : Nat)) (ss.map natD) := by
  have e : ss.map natD = (ss.map fun s => ((s : Nat) : Int)).map PyData.int := by
    rw [List.map_map]
    rfl
  have e2 : (ss.map fun s => V.int (s : Nat)) = (ss.map fun s => ((s : Nat) : Int)).map V.int := by
    rw [List.map_map]
    rfl
  rw [e, e2]
  exact ints_anyL _
/-- a row that a draft tells -/
abbrev RowOf (C : Addr) (H : Hp) (a : Addr) (x : Str) (q : Int) (ss : List Nat) (ms : List (List (List Int))) : Prop := RowAt C H a x q (ss.map natD) (ms.map fun m => m.map tupI)
structure Good (x : Str) (q : Int) (ss : List Nat) (ms : List (List (List Int))) : Prop where
  d : Draft x q 6 ss ms
  p : Pat x 6
  q : q ∈ primesL
def spAdd (C CU CG : Addr) : Sp := fun vs H Q E => ∃ a b x p ss ms y q ts ns, vs = [.ref a, .ref b] ∧ RowOf C H a x p ss ms ∧ RowOf C H b y q ts ns ∧ Good x p ss ms ∧ Good y q ts ns ∧ (¬(x = y ∧ p = q) → ThrownN CU H E) ∧
  (x = y → p = q → (∀ (i n : Nat) (H1 : Hp), (sumS ss ts)[i]? = some n → 6 < n → (∀ (j m : Nat), j < i → (sumS ss ts)[j]? = some m → m ≤ 6) → Same H H1 → Thrown CG (.int (n : Nat)) H1 E) ∧
    ((∀ (i n : Nat), (sumS ss ts)[i]? = some n → n ≤ 6) → ∀ o H', H o = none → Same H H' → RowOf C H' o x p (sumS ss ts) (besMs x ss ts ms ns) → Q (.ref o) H'))
end Rw

set_option Elab.async false
set_option linter.all false
set_option maxRecDepth 100000
set_option maxHeartbeats 4000000
/-! TkBI: parts of rows: the drafts. -/
namespace Rw
open PySem PySem.Spec PyProof.Rows L2
theorem str_len (x : Str) : x.cps.toList.length = x.length := by
  show x.cps.toList.length = x.cps.size
  exact Array.length_toList
theorem cut_list {x : Str} {i j : Nat} (h : i ≤ j) (hj : j ≤ x.length) : (cutS x (some (i : Nat)) (some (j : Nat))).cps.toList = (x.cps.toList.drop i).take (j - i) := by
  show (((x.cps.toList.drop (HT.sIx x.length 0 (some ((i : Nat) : Int)))).take (HT.sIx x.length x.length (some ((j : Nat) : Int)) - HT.sIx x.length 0 (some ((i : Nat) : Int)))).toArray).toList = _
  rw [HT.sIx_nat, HT.sIx_nat, Nat.min_eq_left hj, Nat.min_eq_left (show i ≤ x.length by omega)]
theorem cut_len {x : Str} {i j : Nat} (h : i ≤ j) (hj : j ≤ x.length) : (cutS x (some (i : Nat)) (some (j : Nat))).length = j - i := by
  rw [← str_len, cut_list h hj, List.length_take, List.length_drop, str_len]
  omega
theorem cut_isR {x : Str} {i j k : Nat} (h : i ≤ j) (hj : j ≤ x.length) (hk : k < j - i) : isR (cutS x (some (i : Nat)) (some (j : Nat))) k = isR x (i + k) := by
  unfold isR
  rw [cut_list h hj, List.getElem?_take, if_pos hk, List.getElem?_drop]
theorem cut_st {x : Str} {i j k : Nat} (h : i ≤ j) (hj : j ≤ x.length) (hk : k < j - i) : i + stA (cutS x (some (i : Nat)) (some (j : Nat))) k = stA x (i + k) := by
  unfold stA
  rw [cut_isR h hj hk]
  split <;> omega
theorem cut_go {x : Str} {i j k : Nat} (h : i ≤ j) (hj : j ≤ x.length) (hk : k < j - i) : i + goA (cutS x (some (i : Nat)) (some (j : Nat))) k = goA x (i + k) := by
  unfold goA
  rw [cut_isR h hj hk]
  split <;> omega
theorem cut_pat {x : Str} {m i j : Nat} (p : Pat x m) (h : i ≤ j) (hj : j ≤ x.length) : Pat (cutS x (some (i : Nat)) (some (j : Nat))) m := by
  refine ⟨by rw [cut_len h hj]; have := p.l; omega, ?_⟩
  rw [cut_list h hj]
  refine List.all_eq_true.mpr fun c hc => ?_
  exact List.all_eq_true.mp p.a c (List.mem_of_mem_drop (List.mem_of_mem_take hc))
theorem get_cut {α : Type} {l : List α} {i n k : Nat} (h : k < n) : ((l.drop i).take n)[k]? = l[i + k]? := by
  rw [List.getElem?_take, if_pos h, List.getElem?_drop]
theorem part_draft {x : Str} {q : Int} {most : Nat} {ss : List Nat} {ms : List (List (List Int))} {i j : Nat} (d : Draft x q most ss ms) (h : i ≤ j) (hj : j ≤ x.length) : Draft (cutS x (some (i : Nat)) (some (j : Nat))) q most ((ss.drop i).take (j + 1 - i)) ((ms.drop i).take (j - i)) := by
  have l1 := d.sl
  have l2 := d.ml
  refine ⟨by rw [List.length_take, List.length_drop, cut_len h hj]; omega, fun s hs => d.sb s (List.mem_of_mem_drop (List.mem_of_mem_take hs)), by rw [List.length_take, List.length_drop, cut_len h hj]; omega, fun k m hm => ?_⟩
  have hk : k < j - i := by
    have := (List.getElem?_eq_some_iff.mp hm).1
    rw [List.length_take] at this
    omega
  rw [get_cut hk] at hm
  have ok := d.mo (i + k) m hm
  have s1 := cut_st h hj hk
  have g1 := cut_go h hj hk
  have s2 : stA (cutS x (some (i : Nat)) (some (j : Nat))) k ≤ k + 1 := stA_le _ _
  have g2 : goA (cutS x (some (i : Nat)) (some (j : Nat))) k ≤ k + 1 := goA_le _ _
  rw [get_cut (by omega), get_cut (by omega), s1, g1]
  exact ok
/-- a row's data as tuples -/
def tupM (m : List (List Int)) : PyData := .tuple (m.map tupI)
theorem mat_isT {q : Int} {h w : Nat} {m : List (List Int)} (k : MatOk q h w m) : isMatD (h : Nat) (w : Nat) (tupM m) = true := by
  have e := mat_is k
  unfold isMatD at e ⊢
  rw [Bool.and_eq_true] at e ⊢
  exact ⟨rfl, e.2⟩
theorem draft_goodT {x : Str} {q : Int} {most : Nat} {ss : List Nat} {ms : List (List (List Int))} (d : Draft x q most ss ms) (px : Pat x 6) (hq : q ∈ primesL) (m6 : most ≤ 6) : rowGood x q (.tuple (ss.map natD)) (.tuple (ms.map tupM)) = true := by
  have g := good_parts (draft_good d px hq m6)
  obtain ⟨g1, g2, g3, g4, g5⟩ := g
  unfold rowGood
  rw [g1, g2]
  have e3 : sizesOk x.length (.tuple (ss.map natD)) = true := by
    unfold sizesOk at g3 ⊢
    rw [Bool.and_eq_true] at g3 ⊢
    exact ⟨rfl, g3.2⟩
  have e4 : mapsOk x.length (.tuple (ms.map tupM)) = true := by
    unfold mapsOk
    rw [Bool.and_eq_true]
    exact ⟨rfl, decide_eq_true (by show (ms.map tupM).length = _; rw [List.length_map, d.ml])⟩
  have e5 : badAt x (.tuple (ss.map natD)) (.tuple (ms.map tupM)) = none := bad_none fun k hk => by
    have hk2 : k < ms.length := by rw [d.ml]; exact hk
    have h1 : ms[k]? = some ms[k] := List.getElem?_eq_getElem hk2
    have h2 : atD (.tuple (ms.map tupM)) k = tupM ms[k] := atD_get (by
      show (ms.map tupM)[k]? = _
      rw [List.getElem?_map, h1] <;> rfl)
    unfold matOk
    have n1 : ∀ u, szL (.tuple (ss.map natD)) u = szL (.list (ss.map natD)) u := fun u => rfl
    rw [h2, n1, n1, nats_sz, nats_sz]
    exact mat_isT (d.mo k _ h1)
  rw [e3, e4, e5] <;> rfl
theorem draft_rowsT {x : Str} {q : Int} {most : Nat} {ss : List Nat} {ms : List (List (List Int))} (d : Draft x q most ss ms) : (itemsD (.tuple (ms.map tupM))).map (rowsM q) = ms.map fun m => m.map tupI := by
  have e := draft_rows d
  rw [← e]
  show (ms.map tupM).map (rowsM q) = (ms.map sheetD).map (rowsM q)
  rw [List.map_map, List.map_map]
  rfl
theorem draft_fitT {x : Str} {q : Int} {most : Nat} {ss : List Nat} {ms : List (List (List Int))} (d : Draft x q most ss ms) (px : Pat x 6) (hq : q ∈ primesL) (m6 : most ≤ 6) : FitM (.tuple (ms.map tupM)) := by
  have f := draft_fitM d px hq m6
  refine ⟨by show (ms.map tupM).length ≤ _; rw [List.length_map, d.ml]; have := px.l; omega, fun e he => ?_⟩
  obtain ⟨m, hm, rfl⟩ := List.mem_map.mp he
  have g := f.sub (sheetD m) (List.mem_map_of_mem hm)
  exact ⟨⟨g.top.len, g.top.sm⟩, g.sub⟩
def spPart (C CL : Addr) : Sp := fun vs H Q E => ∃ a x p ss ms v1 v2 d1 d2, vs = [.ref a, v1, v2] ∧ RowOf C H a x p ss ms ∧ Good x p ss ms ∧ Any H v1 d1 ∧ Any H v2 d2 ∧
  (inB d1 (.int 0) (.int (x.length : Nat)) = false → Thrown CL v1 H E) ∧ (inB d1 (.int 0) (.int (x.length : Nat)) = true → inB d2 d1 (.int (x.length : Nat)) = false → Thrown CL v2 H E) ∧
  (∀ i j : Nat, d1 = .int (i : Nat) → d2 = .int (j : Nat) → i ≤ j → j ≤ x.length → ∀ o H', H o = none → Same H H' → RowOf C H' o (cutS x (some (i : Nat)) (some (j : Nat))) p ((ss.drop i).take (j + 1 - i)) ((ms.drop i).take (j - i)) → Q (.ref o) H')
/-- a slice of a tuple -/
theorem cut_tup {K : PySem.W.Frag} {H : Hp} {a : Addr} {xs : List V} {i j : Nat} {Q : VK} (h : H a = some (.tup xs)) (hi : i ≤ j) (hj : j ≤ xs.length) (q : ∀ p H', Same H H' → H' p = some (.tup ((xs.drop i).take (j - i))) → Q (.ref p) H') : rSlA K (.ref a) (some (i : Nat)) (some (j : Nat)) H Q := by
  have e1 : HT.sIx xs.length 0 (some ((i : Nat) : Int)) = i := by rw [HT.sIx_nat, Nat.min_eq_left (by omega)]
  have e2 : HT.sIx xs.length xs.length (some ((j : Nat) : Int)) = j := by rw [HT.sIx_nat, Nat.min_eq_left hj]
  refine ⟨a, xs, rfl, SqT.of h, fun e => q a H (Same.refl _) ?_, fun _ p hp => q p _ (same_new hp) ?_⟩
  · rw [e1, e2] at e
    obtain ⟨z1, z2⟩ := e
    rw [h, z1, z2]
    simp
  · rw [upd_same]
    unfold cutV
    rw [e1, e2]
theorem anyL_cut {H : Hp} : ∀ {xs : List V} {ds : List PyData}, AnyL H xs ds → ∀ (i n : Nat), AnyL H ((xs.drop i).take n) ((ds.drop i).take n)
  | _, _, .nil, i, n => by simp; exact .nil
  | _, _, .cons a r, 0, 0 => .nil
  | _, _, .cons a r, 0, n + 1 => .cons a (by have := anyL_cut r 0 n; simpa using this)
  | _, _, .cons a r, i + 1, n => anyL_cut r i n
theorem inB_nat {d : PyData} {lo hi : Nat} (h : inB d (.int (lo : Nat)) (.int (hi : Nat)) = true) : ∃ n : Nat, d = .int (n : Nat) ∧ lo ≤ n ∧ n ≤ hi := by
  cases d with
  | int n =>
    have h2 : (decide (((lo : Nat) : Int) ≤ n) && decide (n ≤ ((hi : Nat) : Int))) = true := h
    simp only [Bool.and_eq_true, decide_eq_true_eq] at h2
    exact ⟨n.toNat, by congr 1; omega, by omega, by omega⟩
  | _ => cases h
end Rw

set_option Elab.async false
set_option linter.all false
set_option maxRecDepth 100000
set_option maxHeartbeats 4000000
/-! TkBJ: what the law wishes of rows beside one another and of parts. -/
namespace Rw
open PySem PySem.Spec PyProof.Rows L2
def partD (x : Str) (q : Int) (ss : List Nat) (ms : List (List (List Int))) (d1 d2 : PyData) : PyData :=
  if inB d1 (.int 0) (.int (x.length : Nat)) = true then (if inB d2 d1 (.int (x.length : Nat)) = true then
    wD "told" (draftD (cutS x (some (intN d1)) (some (intN d2))) q ((ss.drop (intN d1).toNat).take ((intN d2).toNat + 1 - (intN d1).toNat)) ((ms.drop (intN d1).toNat).take ((intN d2).toNat - (intN d1).toNat))) else wD "place" d2) else wD "place" d1
def besD (x : Str) (p : Int) (ss : List Nat) (ms : List (List (List Int))) (y : Str) (q : Int) (ts : List Nat) (ns : List (List (List Int))) : PyData :=
  if x = y ∧ p = q then (match (sumS ss ts).find? (fun n => decide (6 < n)) with | some n => wD "large" (natD n) | none => wD "told" (draftD x p (sumS ss ts) (besMs x ss ts ms ns))) else .list [.str "unlike"]
def spShown (C : Addr) : Sp := fun vs H Q _ => ∃ a x q ss ms, vs = [.ref a] ∧ RowOf C H a x q ss ms ∧ ms.length ≤ 1000 ∧ ∀ l H', H l = none → Same H H' → Any H' (.ref l) (draftD x q ss ms) → Q (.ref l) H'
def spPartL : Sp := fun vs H Q _ => ∃ v v1 v2 d1 d2 x q ss ms, vs = [v, v1, v2] ∧ Any H v (draftD x q ss ms) ∧ Good x q ss ms ∧ Any H v1 d1 ∧ Any H v2 d2 ∧ ∀ l H', Same H H' → Any H' (.ref l) (partD x q ss ms d1 d2) → Q (.ref l) H'
def spCut (C : Addr) : Sp := fun vs H Q _ => ∃ a v1 v2 d1 d2 x q ss ms, vs = [.ref a, v1, v2] ∧ RowOf C H a x q ss ms ∧ Good x q ss ms ∧ Any H v1 d1 ∧ Any H v2 d2 ∧ ∀ l H', Same H H' → Any H' (.ref l) (partD x q ss ms d1 d2) → Q (.ref l) H'
def spBesL : Sp := fun vs H Q _ => ∃ v1 v2 x p ss ms y q ts ns, vs = [v1, v2] ∧ Any H v1 (draftD x p ss ms) ∧ Any H v2 (draftD y q ts ns) ∧ Good x p ss ms ∧ Good y q ts ns ∧ ∀ l H', Same H H' → Any H' (.ref l) (besD x p ss ms y q ts ns) → Q (.ref l) H'
def spBesC (C : Addr) : Sp := fun vs H Q _ => ∃ a b x p ss ms y q ts ns, vs = [.ref a, .ref b] ∧ RowOf C H a x p ss ms ∧ RowOf C H b y q ts ns ∧ Good x p ss ms ∧ Good y q ts ns ∧ ∀ l H', Same H H' → Any H' (.ref l) (besD x p ss ms y q ts ns) → Q (.ref l) H'
section
variable {X : Cx} {C : Addr} {m : Str} {k : Nat} {sp : Sp} {o : Expr} {ta : TE} {apos pos : Pos}
theorem pe_mth0 (A : Meth0At X.prog X.w X.K X.mg X.base C m k sp) (hr : Room k X.A) (he : PE X o ta) {pl : Sem Bool}
    (ht : eval (.Call (.Attribute o m apos) [] [] pos) X.env = (do
      let ov ← eval o X.env
      standAt apos.atName
      let (f, first) ← holding [ov] (getMethod ov m pl)
      callWith pos f first (backTo pos (starEach [] X.env)) (backToKw pos (keywordEach [] X.env))) := by rfl) : PE X (.Call (.Attribute o m apos) [] [] pos) (tMeth C m sp [] E0 ta tNil) := by
  obtain ⟨f, fd, hm, F, hb⟩ := A.has
  exact pe_meth0 he A.cl hm F hr hb .nil pass0 ht
end
theorem inB_no {d l h : PyData} (e : isIntD d = false) : inB d l h = false := by
  cases d with
  | int n => cases e
  | _ => rfl
theorem find_low {l : List Nat} {i n : Nat} (h : l[i]? = some n) (hn : 6 < n) (lo : ∀ (j m : Nat), j < i → l[j]? = some m → m ≤ 6) : l.find? (fun n => decide (6 < n)) = some n := by
  induction l generalizing i with
  | nil => cases h
  | cons a l ih =>
    cases i with
    | zero =>
      have e : a = n := by simpa using h
      subst e
      rw [List.find?_cons, decide_eq_true hn]
    | succ i =>
      have a6 := lo 0 a (Nat.succ_pos _) rfl
      rw [List.find?_cons, decide_eq_false (by omega)]
      exact ih (by simpa using h) fun j m hj hm => lo (j + 1) m (by omega) (by simpa using hm)
theorem find_none {l : List Nat} (h : ∀ (i n : Nat), l[i]? = some n → n ≤ 6) : l.find? (fun n => decide (6 < n)) = none := by
  rw [List.find?_eq_none]
  intro n hn
  obtain ⟨i, hi⟩ := List.getElem?_of_mem hn
  have := h i n hi
  simp
  omega
end Rw

set_option Elab.async false
set_option linter.all false
set_option maxRecDepth 100000
set_option maxHeartbeats 4000000
/-! TkO: sheets under way. -/
namespace Rw
open PySem PySem.Spec PyProof.Rows L2
/-- the rows of a new sheet: new lists of small ints, each another -/
structure RowsOk (H0 H : Hp) (A : Addr) (xs : List V) (rs : List (List Int)) : Prop where
  len : xs.length = rs.length
  row : ∀ (i : Nat) (r : List Int), rs[i]? = some r → ∃ b : Addr, xs[i]? = some (.ref b) ∧ H b = some (.lst (r.map V.int)) ∧ H0 b = none ∧ b ≠ A
  inj : ∀ (i j : Nat) (b : Addr), xs[i]? = some (.ref b) → xs[j]? = some (.ref b) → i = j
  wide : ∀ r, r ∈ rs → r.length ≤ 4 ∧ ∀ n, n ∈ r → n.natAbs ≤ 100
/-- a new list at A with new rows of any kind -/
structure Gen (H Hn : Hp) (p A : Addr) (c : Nat) : Prop where
  g : Grow p H Hn
  bx : Bx Hn p c
  new : H A = none
  ex : ∃ xs ds, Hn A = some (.lst xs) ∧ AnyL (del (nw H Hn) A) xs ds ∧ ds.length ≤ 5 ∧ ∀ d, d ∈ ds → RowT d
structure Shp (H Hn : Hp) (p A : Addr) (c hi wi : Nat) : Prop where
  g : Grow p H Hn
  bx : Bx Hn p c
  new : H A = none
  ex : ∃ xs rs, Hn A = some (.lst xs) ∧ RowsOk H Hn A xs rs ∧ rs.length = hi ∧ hi ≤ 4 ∧ ∀ r, r ∈ rs → r.length = wi
theorem anyL_all {H : Hp} : ∀ {xs : List V} {ds : List PyData}, xs.length = ds.length → (∀ (i : Nat) (x : V) (d : PyData), xs[i]? = some x → ds[i]? = some d → Any H x d) → AnyL H xs ds
  | [], [], _, _ => .nil
  | x :: xs, d :: ds, l, h => .cons (h 0 x d rfl rfl) (anyL_all (by simpa using l) fun i x d e1 e2 => h (i + 1) x d (by simpa using e1) (by simpa using e2))
theorem nw_at {H Hn : Hp} {b : Addr} {o : HO} (h0 : H b = none) (h : Hn b = some o) : nw H Hn b = some o := by
  show (if H b = none then Hn b else none) = _
  rw [if_pos h0]
  exact h
theorem ints_row {H : Hp} {b : Addr} {r : List Int} (h : H b = some (.lst (r.map V.int))) : Any H (.ref b) (.list (r.map .int)) := .lst h (ints_anyL r)
theorem row_ints {r : List Int} (h : r.length ≤ 4 ∧ ∀ n, n ∈ r → n.natAbs ≤ 100) : RowT (.list (r.map .int)) := row_list (by rw [List.length_map]; omega) (by
  intro d hd
  obtain ⟨n, hn, rfl⟩ := List.mem_map.mp hd
  exact cell_int (Nat.lt_of_le_of_lt (h.2 n hn) (by decide)))
theorem Shp.gen {H Hn : Hp} {p A : Addr} {c hi wi : Nat} (s : Shp H Hn p A c hi wi) : Gen H Hn p A c := by
  obtain ⟨xs, rs, ha, ok, l1, l2, l3⟩ := s.ex
  refine ⟨s.g, s.bx, s.new, xs, rs.map (fun r => .list (r.map .int)), ha, ?_, by rw [List.length_map]; omega, ?_⟩
  · refine anyL_all (by rw [List.length_map]; exact ok.len) fun i x d e1 e2 => ?_
    rw [List.getElem?_map] at e2
    cases e3 : rs[i]? with
    | none => rw [e3] at e2; cases e2
    | some r =>
      rw [e3] at e2
      cases e2
      obtain ⟨b, h1, h2, h3, h4⟩ := ok.row i r e3
      rw [e1] at h1
      cases h1
      refine ints_row ?_
      rw [del_ne h4]
      exact nw_at h3 h2
  · intro d hd
    obtain ⟨r, hr, rfl⟩ := List.mem_map.mp hd
    exact row_ints (ok.wide r hr)
theorem Gen.more {H Hn : Hp} {p A : Addr} {c e : Nat} (s : Gen H Hn p A c) (l : c ≤ e) : Gen H Hn p A e := ⟨s.g, s.bx.more l, s.new, s.ex⟩
theorem Gen.pA {H Hn : Hp} {p A : Addr} {c n : Nat} (s : Gen H Hn p A c) (b : Bx H p n) : p ≠ A := b.ne s.new
/-- only the box has turned, and new things have come -/
theorem Gen.grow {H Hn H2 : Hp} {p A : Addr} {c e n : Nat} (s : Gen H Hn p A c) (b0 : Bx H p n) (k : Grow p Hn H2) (b : Bx H2 p e) : Gen H H2 p A e := by
  obtain ⟨xs, ds, ha, al, l, r⟩ := s.ex
  obtain ⟨_, _, _, hp, _⟩ := id b0
  refine ⟨s.g.trans k, b, s.new, xs, ds, k _ _ (b0.ne s.new).symm ha, anyL_keep ?_ al, l, r⟩
  exact Grow.del (Grow.of (nw_grow hp k))
theorem Shp.grow {H Hn H2 : Hp} {p A : Addr} {c e n hi wi : Nat} (s : Shp H Hn p A c hi wi) (b0 : Bx H p n) (k : Grow p Hn H2) (b : Bx H2 p e) : Shp H H2 p A e hi wi := by
  obtain ⟨xs, rs, ha, ok, l1, l2, l3⟩ := s.ex
  refine ⟨s.g.trans k, b, s.new, xs, rs, k _ _ (b0.ne s.new).symm ha, ⟨ok.len, fun i r e => ?_, ok.inj, ok.wide⟩, l1, l2, l3⟩
  obtain ⟨q, h1, h2, h3, h4⟩ := ok.row i r e
  exact ⟨q, h1, k _ _ (b0.ne h3).symm h2, h3, h4⟩
/-- new in the later is new in the whole -/
theorem nw_from {H Hn H2 : Hp} {p : Addr} {n : Nat} (b0 : Bx Hn p n) (g : Grow p H Hn) : Same (nw Hn H2) (nw H H2) := fun b o e => by
  have e' : (if Hn b = none then H2 b else none) = some o := e
  by_cases z : Hn b = none
  · rw [if_pos z] at e'
    refine nw_at ?_ e'
    cases y : H b with
    | none => rfl
    | some u =>
      by_cases w : b = p
      · obtain ⟨_, _, _, hp, _⟩ := b0
        rw [w, hp] at z
        cases z
      · rw [g _ _ w y] at z
        cases z
  · rw [if_neg z] at e'
    cases e'
theorem anyL_set {H : Hp} : ∀ {xs : List V} {ds : List PyData} {j : Nat} {v : V} {d : PyData}, AnyL H xs ds → Any H v d → AnyL H (xs.set j v) (ds.set j d)
  | _, _, _, _, _, .nil, _ => .nil
  | _, _, 0, _, _, .cons _ r, a => .cons a r
  | _, _, j + 1, _, _, .cons b r, a => .cons b (anyL_set r a)
theorem mem_set {α : Type} {ds : List α} {j : Nat} {d e : α} (h : e ∈ ds.set j d) : e = d ∨ e ∈ ds := by
  rcases List.mem_or_eq_of_mem_set h with z | z
  · exact .inr z
  · exact .inl z
/-- an item of the list at A is set to a thing that is new since -/
theorem Gen.put {H Hn H2 : Hp} {p A : Addr} {c e n : Nat} (s : Gen H Hn p A c) (b0 : Bx H p n) (k : Grow p Hn H2) (b : Bx H2 p e) {v : V} {d : PyData} (a : Any (nw Hn H2) v d) (r : RowT d) :
    ∃ xs, H2 A = some (.lst xs) ∧ ∀ j, Gen H (upd H2 A (.lst (xs.set j v))) p A e := by
  obtain ⟨xs, ds, ha, al, l, rr⟩ := s.ex
  have pA := b0.ne s.new
  refine ⟨xs, k _ _ pA.symm ha, fun j => ?_⟩
  have new := s.new
  obtain ⟨x1, x2, x3, hp, _⟩ := id b0
  have s2 : Same (del (nw H Hn) A) (del (nw H (upd H2 A (.lst (xs.set j v)))) A) := fun q o eo => by
    by_cases y : q = A
    · rw [y, del_same] at eo
      cases eo
    · rw [del_ne y] at eo ⊢
      have e2 := nw_grow hp k _ _ eo
      have e3 : H q = none := by
        cases w : H q with
        | none => rfl
        | some u =>
          have e4 : (if H q = none then Hn q else none) = some o := eo
          rw [if_neg (by rw [w]; exact fun z => by cases z)] at e4
          cases e4
      refine nw_at e3 ?_
      rw [upd_ne y]
      have e5 : (if H q = none then H2 q else none) = some o := e2
      rw [if_pos e3] at e5
      exact e5
  have s3 : Same (nw Hn H2) (del (nw H (upd H2 A (.lst (xs.set j v)))) A) := fun q o eo => by
    have y : q ≠ A := fun y => by
      have e4 : (if Hn q = none then H2 q else none) = some o := eo
      rw [if_neg (by rw [y, ha]; exact fun z => by cases z)] at e4
      cases e4
    have e1 := nw_from s.bx s.g _ _ eo
    rw [del_ne y]
    have e3 : H q = none := by
      cases w : H q with
      | none => rfl
      | some u =>
        have e4 : (if H q = none then H2 q else none) = some o := e1
        rw [if_neg (by rw [w]; exact fun z => by cases z)] at e4
        cases e4
    refine nw_at e3 ?_
    rw [upd_ne y]
    have e5 : (if H q = none then H2 q else none) = some o := e1
    rw [if_pos e3] at e5
    exact e5
  refine ⟨?_, ?_, new, xs.set j v, ds.set j d, upd_same, anyL_set (anyL_keep s2 al) (a.keep s3), by rw [List.length_set]; exact l, fun d' hd => ?_⟩
  · intro q o ne eo
    rw [upd_ne (ne_of_none eo new)]
    exact (s.g.trans k) q o ne eo
  · obtain ⟨a1, a2, a3, h1, rest⟩ := b
    exact ⟨a1, a2, a3, by rw [upd_ne pA]; exact h1, rest⟩
  · rcases mem_set hd with z | z
    · rw [z]; exact r
    · exact rr d' z
/-- a new row behind the others -/
theorem Gen.snoc {H Hn H2 : Hp} {p A : Addr} {c e n : Nat} (s : Gen H Hn p A c) (b0 : Bx H p n) (k : Grow p Hn H2) (b : Bx H2 p e) {q : Addr} {r : List Int} (hq : Hn q = none) (h2 : H2 q = some (.lst (r.map V.int))) (rr : RowT (.list (r.map .int))) (few : ∀ xs, H2 A = some (.lst xs) → xs.length ≤ 4) :
    ∃ xs, H2 A = some (.lst xs) ∧ Gen H (upd H2 A (.lst (xs ++ [.ref q]))) p A e := by
  obtain ⟨xs, ds, ha, al, l, r0⟩ := s.ex
  have pA := b0.ne s.new
  have ha2 := k _ _ pA.symm ha
  have l4 := few xs ha2
  have ln := anyL_len al
  obtain ⟨x1, x2, x3, hp, _⟩ := id b0
  have new := s.new
  have q0 : H q = none := by
    cases y : H q with
    | none => rfl
    | some u =>
      obtain ⟨y1, y2, y3, hp2, _⟩ := s.bx
      by_cases w : q = p
      · rw [w, hp2] at hq
        cases hq
      · rw [s.g _ _ w y] at hq
        cases hq
  have qA : q ≠ A := fun y => by rw [y, ha] at hq; cases hq
  have s2 : Same (del (nw H Hn) A) (del (nw H (upd H2 A (.lst (xs ++ [.ref q])))) A) := fun z o eo => by
    by_cases y : z = A
    · rw [y, del_same] at eo
      cases eo
    · rw [del_ne y] at eo ⊢
      have e3 : H z = none := by
        cases w : H z with
        | none => rfl
        | some u =>
          have e4 : (if H z = none then Hn z else none) = some o := eo
          rw [if_neg (by rw [w]; exact fun z => by cases z)] at e4
          cases e4
      have e2 := nw_grow hp k _ _ eo
      refine nw_at e3 ?_
      rw [upd_ne y]
      have e5 : (if H z = none then H2 z else none) = some o := e2
      rw [if_pos e3] at e5
      exact e5
  refine ⟨xs, ha2, ?_, ?_, new, xs ++ [.ref q], ds ++ [.list (r.map .int)], upd_same, anyL_snoc (anyL_keep s2 al) (ints_row ?_), by rw [List.length_append, List.length_singleton]; omega, fun d hd => ?_⟩
  · intro z o ne eo
    rw [upd_ne (ne_of_none eo new)]
    exact (s.g.trans k) z o ne eo
  · obtain ⟨a1, a2, a3, h1, rest⟩ := b
    exact ⟨a1, a2, a3, by rw [upd_ne pA]; exact h1, rest⟩
  · rw [del_ne qA]
    refine nw_at q0 ?_
    rw [upd_ne qA]
    exact h2
  · rcases List.mem_append.mp hd with z | z
    · exact r0 d z
    · rw [List.mem_singleton.mp z]
      exact rr
/-- an item of a row is set to a thing that is new since -/
theorem Shp.cell {H Hn H2 : Hp} {p A : Addr} {c e n hi wi : Nat} (s : Shp H Hn p A c hi wi) (b0 : Bx H p n) (k : Grow p Hn H2) (b : Bx H2 p e) {v : V} {d : PyData} (a : Any (nw Hn H2) v d) (cd : Cell d) {i : Nat} (hi2 : i < hi) :
    ∃ (xs : List V) (q : Addr) (r : List Int), H2 A = some (.lst xs) ∧ xs[i]? = some (.ref q) ∧ H2 q = some (.lst (r.map V.int)) ∧ r.length = wi ∧ ∀ j, Gen H (upd H2 q (.lst ((r.map V.int).set j v))) p A e := by
  obtain ⟨xs, rs, ha, ok, l1, l2, l3⟩ := s.ex
  have hlt : i < rs.length := by omega
  obtain ⟨q, h1, h2, h3, h4⟩ := ok.row i rs[i] (List.getElem?_eq_getElem hlt)
  have hm : rs[i] ∈ rs := List.getElem_mem hlt
  have pA := b0.ne s.new
  have pq := b0.ne h3
  have new := s.new
  obtain ⟨x1, x2, x3, hp, _⟩ := id b0
  have ha2 := k _ _ pA.symm ha
  refine ⟨xs, q, rs[i], ha2, h1, k _ _ pq.symm h2, l3 _ hm, fun j => ?_⟩
  have s3 : Same (nw Hn H2) (del (nw H (upd H2 q (.lst ((rs[i].map V.int).set j v)))) A) := fun z o eo => by
    have off : ∀ {w : Addr} {u : HO}, Hn w = some u → z ≠ w := fun e y => by
      have e4 : (if Hn z = none then H2 z else none) = some o := eo
      rw [if_neg (by rw [y, e]; exact fun z => by cases z)] at e4
      cases e4
    have e1 := nw_from s.bx s.g _ _ eo
    rw [del_ne (off ha)]
    have e3 : H z = none := by
      cases w : H z with
      | none => rfl
      | some u =>
        have e4 : (if H z = none then H2 z else none) = some o := e1
        rw [if_neg (by rw [w]; exact fun z => by cases z)] at e4
        cases e4
    refine nw_at e3 ?_
    rw [upd_ne (off h2)]
    have e5 : (if H z = none then H2 z else none) = some o := e1
    rw [if_pos e3] at e5
    exact e5
  have inner : AnyL (del (nw H (upd H2 q (.lst ((rs[i].map V.int).set j v)))) A) ((rs[i].map V.int).set j v) ((rs[i].map PyData.int).set j d) := anyL_set (ints_anyL _) (a.keep s3)
  refine ⟨?_, ?_, new, xs, (rs.map (fun r => PyData.list (r.map .int))).set i (.list ((rs[i].map PyData.int).set j d)), ?_, ?_, by rw [List.length_set, List.length_map]; omega, fun e' he => ?_⟩
  · intro z o ne eo
    rw [upd_ne (ne_of_none eo h3)]
    exact (s.g.trans k) z o ne eo
  · obtain ⟨a1, a2, a3, h1, rest⟩ := b
    exact ⟨a1, a2, a3, by rw [upd_ne pq]; exact h1, rest⟩
  · rw [upd_ne h4.symm]
    exact ha2
  · refine anyL_all (by rw [List.length_set, List.length_map]; exact ok.len) fun t x dd e1 e2 => ?_
    by_cases y : t = i
    · subst y
      rw [h1] at e1
      cases e1
      rw [List.getElem?_set_self (by rw [List.length_map]; exact hlt)] at e2
      cases e2
      refine .lst ?_ inner
      rw [del_ne h4]
      refine nw_at h3 ?_
      exact upd_same
    · rw [List.getElem?_set_ne (fun z => y z.symm), List.getElem?_map] at e2
      cases e3 : rs[t]? with
      | none => rw [e3] at e2; cases e2
      | some r =>
        rw [e3] at e2
        cases e2
        obtain ⟨w, g1, g2, g3, g4⟩ := ok.row t r e3
        rw [e1] at g1
        cases g1
        refine ints_row ?_
        rw [del_ne g4]
        refine nw_at g3 ?_
        have wq : w ≠ q := fun z => y (ok.inj t i w e1 (by rw [z]; exact h1))
        rw [upd_ne wq]
        exact k _ _ (b0.ne g3).symm g2
  · rcases mem_set he with z | z
    · rw [z]
      have wide := ok.wide _ hm
      refine row_list (by rw [List.length_set, List.length_map]; omega) fun x hx => ?_
      rcases mem_set hx with y | y
      · rw [y]; exact cd
      · obtain ⟨n, hn, rfl⟩ := List.mem_map.mp y
        exact cell_int (Nat.lt_of_le_of_lt (wide.2 n hn) (by decide))
    · obtain ⟨r, hr, rfl⟩ := List.mem_map.mp z
      exact row_ints (ok.wide r hr)
theorem anyL_drop {H : Hp} : ∀ {xs : List V} {ds : List PyData} (j : Nat), AnyL H xs ds → AnyL H (xs.drop j) (ds.drop j)
  | _, _, 0, h => h
  | _, _, _ + 1, .nil => .nil
  | _, _, j + 1, .cons _ r => anyL_drop j r
theorem anyL_take {H : Hp} : ∀ {xs : List V} {ds : List PyData} (j : Nat), AnyL H xs ds → AnyL H (xs.take j) (ds.take j)
  | _, _, 0, _ => .nil
  | _, _, _ + 1, .nil => .nil
  | _, _, j + 1, .cons a r => .cons a (anyL_take j r)
/-- one row more -/
theorem Shp.snoc {H Hn H2 : Hp} {p A : Addr} {c e n i wi : Nat} (s : Shp H Hn p A c i wi) (b0 : Bx H p n) (k : Grow p Hn H2) (b : Bx H2 p e) {q : Addr} {r : List Int} (hq : Hn q = none) (h2 : H2 q = some (.lst (r.map V.int))) (rl : r.length = wi) (w4 : wi ≤ 4) (sm : ∀ n, n ∈ r → n.natAbs ≤ 100) (l4 : i + 1 ≤ 4) :
    ∃ xs, H2 A = some (.lst xs) ∧ xs.length = i ∧ Shp H (upd H2 A (.lst (xs ++ [.ref q]))) p A e (i + 1) wi := by
  obtain ⟨xs, rs, ha, ok, l1, l2, l3⟩ := s.ex
  have pA := b0.ne s.new
  have ha2 := k _ _ pA.symm ha
  have new := s.new
  have qA : q ≠ A := fun y => by rw [y, ha] at hq; cases hq
  have q0 : H q = none := by
    cases y : H q with
    | none => rfl
    | some u =>
      obtain ⟨y1, y2, y3, hp2, _⟩ := s.bx
      by_cases w : q = p
      · rw [w, hp2] at hq
        cases hq
      · rw [s.g _ _ w y] at hq
        cases hq
  have ln := ok.len
  have in_old : ∀ (t : Nat) (z : Addr), (xs ++ [V.ref q])[t]? = some (.ref z) → (xs[t]? = some (.ref z) ∧ z ≠ q) ∨ (t = xs.length ∧ z = q) := by
    intro t z e1
    by_cases y : t < xs.length
    · rw [List.getElem?_append_left y] at e1
      refine .inl ⟨e1, fun zq => ?_⟩
      have y2 : t < rs.length := by omega
      obtain ⟨w, g1, g2, g3, g4⟩ := ok.row t rs[t] (List.getElem?_eq_getElem y2)
      rw [e1] at g1
      cases g1
      rw [zq, hq] at g2
      cases g2
    · rw [List.getElem?_append_right (by omega)] at e1
      have e3 : t - xs.length = 0 := by
        cases y3 : t - xs.length with
        | zero => rfl
        | succ m => rw [y3] at e1; simp at e1
      rw [e3] at e1
      refine .inr ⟨by omega, ?_⟩
      have e4 : V.ref q = V.ref z := Option.some.inj e1
      injection e4 with e5
      exact e5.symm
  refine ⟨xs, ha2, by omega, ?_, ?_, new, xs ++ [.ref q], rs ++ [r], upd_same, ⟨by rw [List.length_append, List.length_append, ln] <;> rfl, ?_, ?_, ?_⟩, by rw [List.length_append, l1] <;> rfl, l4, ?_⟩
  · intro z o ne eo
    rw [upd_ne (ne_of_none eo new)]
    exact (s.g.trans k) z o ne eo
  · obtain ⟨a1, a2, a3, h1, rest⟩ := b
    exact ⟨a1, a2, a3, by rw [upd_ne pA]; exact h1, rest⟩
  · intro t r' e1
    by_cases y : t < rs.length
    · rw [List.getElem?_append_left y] at e1
      obtain ⟨w, g1, g2, g3, g4⟩ := ok.row t r' e1
      refine ⟨w, by rw [List.getElem?_append_left (by omega)]; exact g1, ?_, g3, g4⟩
      rw [upd_ne g4]
      exact k _ _ (b0.ne g3).symm g2
    · rw [List.getElem?_append_right (by omega)] at e1
      have e3 : t - rs.length = 0 := by
        cases y3 : t - rs.length with
        | zero => rfl
        | succ m => rw [y3] at e1; simp at e1
      rw [e3] at e1
      have e4 : r = r' := Option.some.inj e1
      subst e4
      have e5 : t = xs.length := by omega
      refine ⟨q, by rw [e5, List.getElem?_append_right (Nat.le_refl _), Nat.sub_self] <;> rfl, ?_, q0, qA⟩
      rw [upd_ne qA]
      exact h2
  · intro t t' z e1 e2
    rcases in_old t z e1 with ⟨a1, a2⟩ | ⟨a1, a2⟩
    · rcases in_old t' z e2 with ⟨b1, b2⟩ | ⟨b1, b2⟩
      · exact ok.inj t t' z a1 b1
      · exact absurd b2 a2
    · rcases in_old t' z e2 with ⟨b1, b2⟩ | ⟨b1, b2⟩
      · exact absurd a2 b2
      · omega
  · intro r' hr
    rcases List.mem_append.mp hr with z | z
    · exact ok.wide r' z
    · rw [List.mem_singleton.mp z]
      exact ⟨by omega, sm⟩
  · intro r' hr
    rcases List.mem_append.mp hr with z | z
    · exact l3 r' z
    · rw [List.mem_singleton.mp z]
      exact rl
end Rw

set_option Elab.async false
set_option linter.all false
set_option maxRecDepth 100000
set_option maxHeartbeats 4000000
/-! TkK: sheets that are bent; things to make rows of. -/
namespace Rw
open PySem PySem.Spec PyProof.Rows L2
theorem ixn {n j : Nat} (hj : j < n) : ixN n (j : Int) = some j := by
  unfold ixN
  rw [if_pos (by omega), if_pos (by omega)]
  simp
theorem fresh_of {H H1 : Hp} {p q : Addr} {c : Nat} (g : Grow p H H1) (bx : Bx H1 p c) (hq : H1 q = none) : H q = none := by
  cases y : H q with
  | none => rfl
  | some u =>
    obtain ⟨y1, y2, y3, hp2, _⟩ := bx
    by_cases w : q = p
    · rw [w, hp2] at hq
      cases hq
    · rw [g _ _ w y] at hq
      cases hq
def spBentS : Sp := fun vs H Q _ => ∃ (p : Addr) (v : V) (n h w : Nat) (q : Int) (m : List (List Int)), vs = [.ref p, v] ∧ Any (del H p) v (sheetD m) ∧ MatOk q h w m ∧ q ∈ primesL ∧ h ≤ 4 ∧ w ≤ 4 ∧ Bx H p n ∧ n ≤ 900000 ∧ ∀ v d H', SheetT d → Any (nw H H') v d → Grow p H H' → Bx H' p (n + 100) → Q v H'
end Rw
namespace Rw
open PySem PySem.Spec PyProof.Rows L2
/-! ### things to make rows of -/
def off (p F : Addr) (H : Hp) : Hp := del (del H p) F
theorem off_same {p F : Addr} {H H' : Hp} (k : ∀ b o, b ≠ p → b ≠ F → H b = some o → H' b = some o) : Same (off p F H) (off p F H') := fun b o e => by
  unfold off at e ⊢
  by_cases y1 : b = F
  · rw [y1, del_same] at e; cases e
  · rw [del_ne y1] at e ⊢
    by_cases y2 : b = p
    · rw [y2, del_same] at e; cases e
    · rw [del_ne y2] at e ⊢
      exact k b o y2 y1 e
theorem off_sub {p F : Addr} {H : Hp} : Same (off p F H) H := same_del.trans same_del
theorem off_subp {p F : Addr} {H : Hp} : Same (off p F H) (del H p) := same_del
theorem nw_off {p F : Addr} {H H' : Hp} (hp : H p ≠ none) (hF : H F ≠ none) : Same (nw H H') (off p F H') := fun b o e => by
  have e2 : (if H b = none then H' b else none) = some o := e
  split at e2
  · rename_i h
    unfold off
    rw [del_ne (fun z => hF (by rw [← z]; exact h)), del_ne (fun z => hp (by rw [← z]; exact h))]
    exact e2
  · cases e2
structure StrT (d : PyData) : Prop where
  tm : Tq 0 d
  sh : Short d
structure SizT (k : Nat) (d : PyData) : Prop where
  tm : Tq 1 d
  l : (itemsD d).length ≤ k
  c : ∀ e, e ∈ itemsD d → Cell e
structure MapT (k : Nat) (d : PyData) : Prop where
  tm : Tq 3 d
  l : (itemsD d).length ≤ k
  c : ∀ e, e ∈ itemsD d → SheetT e
theorem SizT.up {k m : Nat} {d : PyData} (s : SizT k d) (h : k ≤ m) : SizT m d := ⟨s.tm, Nat.le_trans s.l h, s.c⟩
theorem MapT.up {k m : Nat} {d : PyData} (s : MapT k d) (h : k ≤ m) : MapT m d := ⟨s.tm, Nat.le_trans s.l h, s.c⟩
theorem siz_list {k : Nat} {ds : List PyData} (h : k ≤ 12) (l : ds.length ≤ k) (c : ∀ e, e ∈ ds → Cell e) : SizT k (.list ds) := ⟨tq_list (by omega) fun d hd => (c d hd).tm.q, l, c⟩
theorem map_list {k : Nat} {ds : List PyData} (h : k ≤ 12) (l : ds.length ≤ k) (c : ∀ e, e ∈ ds → SheetT e) : MapT k (.list ds) := ⟨tq_list (by omega) fun d hd => (c d hd).tm.q, l, c⟩
theorem odd_one : ∀ d ∈ oddL, (itemsD d).length ≤ 1 := by
  intro d hd
  unfold oddL at hd
  simp only [List.mem_cons, List.not_mem_nil, or_false] at hd
  rcases hd with z | z | z | z | z | z | z | z | z | z | z | z | z | z | z | z <;> subst z <;> simp [itemsD]
theorem odd_str {d : PyData} (h : d ∈ oddL) : StrT d := ⟨(odd_cell d h).tm.q, odd_short d h⟩
theorem odd_siz {d : PyData} (h : d ∈ oddL) {k : Nat} (hk : 1 ≤ k) : SizT k d := ⟨(odd_cell d h).tm.q.up (by decide), Nat.le_trans (odd_one d h) hk, fun e he => (odd_items d h e he).1⟩
theorem odd_map {d : PyData} (h : d ∈ oddL) {k : Nat} (hk : 1 ≤ k) : MapT k d := ⟨(odd_cell d h).tm.q.up (by decide), Nat.le_trans (odd_one d h) hk, fun e he => (odd_items d h e he).2⟩
structure Fnd (H Hn : Hp) (p F : Addr) (c a b : Nat) : Prop where
  g : Grow p H Hn
  bx : Bx Hn p c
  new : H F = none
  ex : ∃ u0 u1 u2 u3 d0 d1 d2 d3, Hn F = some (.lst [u0, u1, u2, u3]) ∧ Any (off p F Hn) u0 d0 ∧ Any (off p F Hn) u1 d1 ∧ Any (off p F Hn) u2 d2 ∧ Any (off p F Hn) u3 d3 ∧ StrT d0 ∧ Tq 0 d1 ∧ SizT a d2 ∧ MapT b d3
theorem Fnd.grow {H Hn H2 : Hp} {p F : Addr} {c e n a b : Nat} (s : Fnd H Hn p F c a b) (b0 : Bx H p n) (k : Grow p Hn H2) (bx : Bx H2 p e) : Fnd H H2 p F e a b := by
  obtain ⟨u0, u1, u2, u3, d0, d1, d2, d3, hF, a0, a1, a2, a3, r⟩ := s.ex
  have pF := b0.ne s.new
  have kk : Same (off p F Hn) (off p F H2) := off_same fun x o n1 n2 ex => k x o n1 ex
  exact ⟨s.g.trans k, bx, s.new, u0, u1, u2, u3, d0, d1, d2, d3, k _ _ pF.symm hF, a0.keep kk, a1.keep kk, a2.keep kk, a3.keep kk, r⟩
theorem Fnd.more {H Hn : Hp} {p F : Addr} {c e a b a' b' : Nat} (s : Fnd H Hn p F c a b) (h : c ≤ e) (ha : a ≤ a') (hb : b ≤ b') : Fnd H Hn p F e a' b' := by
  obtain ⟨u0, u1, u2, u3, d0, d1, d2, d3, hF, a0, a1, a2, a3, r0, r1, r2, r3⟩ := s.ex
  exact ⟨s.g, s.bx.more h, s.new, u0, u1, u2, u3, d0, d1, d2, d3, hF, a0, a1, a2, a3, r0, r1, r2.up ha, r3.up hb⟩
/-- the list is written anew -/
theorem Fnd.put {H Hn : Hp} {p F : Addr} {c n a b : Nat} (g : Grow p H Hn) (bx : Bx Hn p c) (new : H F = none) (b0 : Bx H p n) {u0 u1 u2 u3 : V} {d0 d1 d2 d3 : PyData} (a0 : Any (off p F Hn) u0 d0) (a1 : Any (off p F Hn) u1 d1) (a2 : Any (off p F Hn) u2 d2) (a3 : Any (off p F Hn) u3 d3)
    (r0 : StrT d0) (r1 : Tq 0 d1) (r2 : SizT a d2) (r3 : MapT b d3) : Fnd H (upd Hn F (.lst [u0, u1, u2, u3])) p F c a b := by
  have pF := b0.ne new
  have kk : Same (off p F Hn) (off p F (upd Hn F (.lst [u0, u1, u2, u3]))) := off_same fun x o n1 n2 ex => by rw [upd_ne n2]; exact ex
  refine ⟨fun x o n1 ex => ?_, ?_, new, u0, u1, u2, u3, d0, d1, d2, d3, upd_same, a0.keep kk, a1.keep kk, a2.keep kk, a3.keep kk, r0, r1, r2, r3⟩
  · rw [upd_ne (ne_of_none ex new)]
    exact g x o n1 ex
  · obtain ⟨c1, c2, c3, h1, rest⟩ := bx
    exact ⟨c1, c2, c3, by rw [upd_ne pF]; exact h1, rest⟩
structure ThingT (d : PyData) : Prop where
  ex : ∃ d0 d1 d2 d3, d = .list [d0, d1, d2, d3] ∧ StrT d0 ∧ Tq 0 d1 ∧ SizT 7 d2 ∧ MapT 6 d3
def spBent : Sp := fun vs H Q _ => ∃ (p : Addr) (v : V) (n : Nat) (x : Str) (q : Int) (ss : List Nat) (ms : List (List (List Int))), vs = [.ref p, v] ∧ Any (del H p) v (draftD x q ss ms) ∧ Draft x q 3 ss ms ∧ Pat x 4 ∧ q ∈ primesL ∧ Bx H p n ∧ n ≤ 800000 ∧
  ∀ v' d H', ThingT d → Any (del H' p) v' d → Grow p H H' → Bx H' p (n + 1000) → Q v' H'
theorem op_mul_str {X : Cx} : OpR X (binaryOp .Mult) (fun x y H Q => ∃ z n, x = .str z ∧ y = .int n ∧ PySem.MulOk z n ∧ Q (.str (Txt.mul z n)) H) := by
  intro pins s σ H x y v u Q I rx ry h
  obtain ⟨z, n, rfl, rfl, ok, q⟩ := h
  obtain ⟨t, rfl⟩ := rx
  obtain ⟨t', rfl⟩ := ry
  exact PySem.SB.mul ok fun t' k => ⟨.str _, H, I.tok _, ⟨_, rfl⟩, q⟩
end Rw

set_option Elab.async false
set_option linter.all false
set_option maxRecDepth 100000
set_option maxHeartbeats 4000000
/-! TkKb: the four parts of a thing, one exchanged. -/
namespace Rw
open PySem PySem.Spec PyProof.Rows L2
theorem off_from {H Hn : Hp} {p F : Addr} (new : H F = none) (g : Grow p H Hn) : Same (del H p) (off p F Hn) := fun b o e => by
  unfold off
  by_cases y : b = p
  · rw [y, del_same] at e; cases e
  · rw [del_ne y] at e
    have n2 : b ≠ F := ne_of_none e new
    rw [del_ne n2, del_ne y]
    exact g b o y e
/-- what was there stays, when a new list is written -/
theorem off_put {H1 H3 : Hp} {p F L : Addr} {o : HO} (hL : H1 L = none) (k : ∀ x u, x ≠ p → x ≠ F → H1 x = some u → H3 x = some u) : Same (off p F H1) (off p F (upd H3 L o)) := off_same fun x u n1 n2 ex => by
  rw [upd_ne (ne_of_none ex hL)]
  exact k x u n1 n2 ex
theorem nw_offput {H H' : Hp} {p F L : Addr} {o : HO} (hp : H p ≠ none) (hF : H F ≠ none) (hL : H L ≠ none) : Same (nw H H') (off p F (upd H' L o)) := fun b u e => by
  have e2 : (if H b = none then H' b else none) = some u := e
  split at e2
  · rename_i h
    unfold off
    rw [del_ne (fun z => hF (by rw [← z]; exact h)), del_ne (fun z => hp (by rw [← z]; exact h)), upd_ne (fun z => hL (by rw [← z]; exact h))]
    exact e2
  · cases e2
theorem Bx.some {H : Hp} {p : Addr} {n : Nat} (b : Bx H p n) : H p ≠ none := by
  obtain ⟨_, _, _, h, _⟩ := b
  rw [h]
  exact fun z => by cases z
section
variable {H Hn : Hp} {p F : Addr} {c n a b : Nat}
theorem Fnd.here (s : Fnd H Hn p F c a b) : Hn F ≠ none := by
  obtain ⟨u0, u1, u2, u3, d0, d1, d2, d3, hF, _⟩ := s.ex
  rw [hF]
  exact fun z => by cases z
theorem Fnd.odd (s : Fnd H Hn p F c a b) (b0 : Bx H p n) (ha : 1 ≤ a) (hb : 1 ≤ b) {v : V} {d : PyData} (hd : d ∈ oddL) (an : Any (off p F Hn) v d) {j : Nat} (hj : j < 4) : ∃ us, Hn F = some (.lst us) ∧ us.length = 4 ∧ Fnd H (upd Hn F (.lst (us.set j v))) p F c a b := by
  obtain ⟨u0, u1, u2, u3, d0, d1, d2, d3, hF, a0, a1, a2, a3, r0, r1, r2, r3⟩ := s.ex
  refine ⟨_, hF, rfl, ?_⟩
  rcases (by omega : j = 0 ∨ j = 1 ∨ j = 2 ∨ j = 3) with e | e | e | e <;> subst e
  · exact Fnd.put s.g s.bx s.new b0 an a1 a2 a3 (odd_str hd) r1 r2 r3
  · exact Fnd.put s.g s.bx s.new b0 a0 an a2 a3 r0 (odd_cell d hd).tm.q r2 r3
  · exact Fnd.put s.g s.bx s.new b0 a0 a1 an a3 r0 r1 (odd_siz hd ha) r3
  · exact Fnd.put s.g s.bx s.new b0 a0 a1 a2 an r0 r1 r2 (odd_map hd hb)
theorem Fnd.str (s : Fnd H Hn p F c a b) (b0 : Bx H p n) {v : V} {d : PyData} (r : StrT d) (an : Any (off p F Hn) v d) : ∃ us, Hn F = some (.lst us) ∧ us.length = 4 ∧ Fnd H (upd Hn F (.lst (us.set 0 v))) p F c a b := by
  obtain ⟨u0, u1, u2, u3, d0, d1, d2, d3, hF, a0, a1, a2, a3, r0, r1, r2, r3⟩ := s.ex
  exact ⟨_, hF, rfl, Fnd.put s.g s.bx s.new b0 an a1 a2 a3 r r1 r2 r3⟩
theorem Fnd.siz (s : Fnd H Hn p F c a b) (b0 : Bx H p n) {v : V} {d : PyData} {a' : Nat} (r : SizT a' d) (an : Any (off p F Hn) v d) : ∃ us, Hn F = some (.lst us) ∧ us.length = 4 ∧ Fnd H (upd Hn F (.lst (us.set 2 v))) p F c a' b := by
  obtain ⟨u0, u1, u2, u3, d0, d1, d2, d3, hF, a0, a1, a2, a3, r0, r1, r2, r3⟩ := s.ex
  exact ⟨_, hF, rfl, Fnd.put s.g s.bx s.new b0 a0 a1 an a3 r0 r1 r r3⟩
theorem Fnd.map (s : Fnd H Hn p F c a b) (b0 : Bx H p n) {v : V} {d : PyData} {b' : Nat} (r : MapT b' d) (an : Any (off p F Hn) v d) : ∃ us, Hn F = some (.lst us) ∧ us.length = 4 ∧ Fnd H (upd Hn F (.lst (us.set 3 v))) p F c a b' := by
  obtain ⟨u0, u1, u2, u3, d0, d1, d2, d3, hF, a0, a1, a2, a3, r0, r1, r2, r3⟩ := s.ex
  exact ⟨_, hF, rfl, Fnd.put s.g s.bx s.new b0 a0 a1 a2 an r0 r1 r2 r⟩
theorem Fnd.at2 (s : Fnd H Hn p F c a b) : ∃ us u d, Hn F = some (.lst us) ∧ us.length = 4 ∧ us[2]? = some u ∧ Any (off p F Hn) u d ∧ SizT a d := by
  obtain ⟨u0, u1, u2, u3, d0, d1, d2, d3, hF, a0, a1, a2, a3, r0, r1, r2, r3⟩ := s.ex
  exact ⟨_, _, _, hF, rfl, rfl, a2, r2⟩
theorem Fnd.at3 (s : Fnd H Hn p F c a b) : ∃ us u d, Hn F = some (.lst us) ∧ us.length = 4 ∧ us[3]? = some u ∧ Any (off p F Hn) u d ∧ MapT b d := by
  obtain ⟨u0, u1, u2, u3, d0, d1, d2, d3, hF, a0, a1, a2, a3, r0, r1, r2, r3⟩ := s.ex
  exact ⟨_, _, _, hF, rfl, rfl, a3, r3⟩
/-- the new list in the place of the sizes is written -/
theorem Fnd.in2 (s : Fnd H Hn p F c a b) (b0 : Bx H p n) {us zs : List V} {ds : List PyData} {L : Addr} {H3 : Hp} {e a' : Nat} (hF : Hn F = some (.lst us)) (hL : Hn L = none) (k : ∀ x o, x ≠ p → x ≠ F → Hn x = some o → H3 x = some o)
    (h3 : H3 F = some (.lst (us.set 2 (.ref L)))) (bx : Bx H3 p e) (al : AnyL (off p F (upd H3 L (.lst zs))) zs ds) (r : SizT a' (.list ds)) : Fnd H (upd H3 L (.lst zs)) p F e a' b := by
  obtain ⟨u0, u1, u2, u3, d0, d1, d2, d3, hF', a0, a1, a2, a3, r0, r1, r2, r3⟩ := s.ex
  rw [hF] at hF'
  cases hF'
  have LF : L ≠ F := fun z => by rw [z, hF] at hL; cases hL
  have Lp : L ≠ p := fun z => s.bx.some (by rw [← z]; exact hL)
  have kk : Same (off p F Hn) (off p F (upd H3 L (.lst zs))) := off_put hL k
  refine ⟨fun x o n1 ex => ?_, ?_, s.new, u0, u1, .ref L, u3, d0, d1, .list ds, d3, by rw [upd_ne (Ne.symm LF)]; exact h3, a0.keep kk, a1.keep kk, .lst ?_ al, a3.keep kk, r0, r1, r, r3⟩
  · have e1 := s.g x o n1 ex
    rw [upd_ne (ne_of_none e1 hL)]
    exact k x o n1 (ne_of_none ex s.new) e1
  · obtain ⟨c1, c2, c3, h1, rest⟩ := bx
    exact ⟨c1, c2, c3, by rw [upd_ne (Ne.symm Lp)]; exact h1, rest⟩
  · unfold off
    rw [del_ne LF, del_ne Lp, upd_same]
theorem Fnd.in3 (s : Fnd H Hn p F c a b) (b0 : Bx H p n) {us zs : List V} {ds : List PyData} {L : Addr} {H3 : Hp} {e b' : Nat} (hF : Hn F = some (.lst us)) (hL : Hn L = none) (k : ∀ x o, x ≠ p → x ≠ F → Hn x = some o → H3 x = some o)
    (h3 : H3 F = some (.lst (us.set 3 (.ref L)))) (bx : Bx H3 p e) (al : AnyL (off p F (upd H3 L (.lst zs))) zs ds) (r : MapT b' (.list ds)) : Fnd H (upd H3 L (.lst zs)) p F e a b' := by
  obtain ⟨u0, u1, u2, u3, d0, d1, d2, d3, hF', a0, a1, a2, a3, r0, r1, r2, r3⟩ := s.ex
  rw [hF] at hF'
  cases hF'
  have LF : L ≠ F := fun z => by rw [z, hF] at hL; cases hL
  have Lp : L ≠ p := fun z => s.bx.some (by rw [← z]; exact hL)
  have kk : Same (off p F Hn) (off p F (upd H3 L (.lst zs))) := off_put hL k
  refine ⟨fun x o n1 ex => ?_, ?_, s.new, u0, u1, u2, .ref L, d0, d1, d2, .list ds, by rw [upd_ne (Ne.symm LF)]; exact h3, a0.keep kk, a1.keep kk, a2.keep kk, .lst ?_ al, r0, r1, r2, r⟩
  · have e1 := s.g x o n1 ex
    rw [upd_ne (ne_of_none e1 hL)]
    exact k x o n1 (ne_of_none ex s.new) e1
  · obtain ⟨c1, c2, c3, h1, rest⟩ := bx
    exact ⟨c1, c2, c3, by rw [upd_ne (Ne.symm Lp)]; exact h1, rest⟩
  · unfold off
    rw [del_ne LF, del_ne Lp, upd_same]
theorem Fnd.thing (s : Fnd H Hn p F c 7 6) (b0 : Bx H p n) : ∃ d, ThingT d ∧ Any (del Hn p) (.ref F) d := by
  have pF := b0.ne s.new
  obtain ⟨u0, u1, u2, u3, d0, d1, d2, d3, hF, a0, a1, a2, a3, r0, r1, r2, r3⟩ := s.ex
  exact ⟨_, ⟨d0, d1, d2, d3, rfl, r0, r1, r2, r3⟩, .lst (by
    rw [del_ne (Ne.symm pF)]
    exact hF) (.cons (a0.keep off_subp) (.cons (a1.keep off_subp) (.cons (a2.keep off_subp) (.cons (a3.keep off_subp) .nil))))⟩
end
theorem str_t {x : Str} (h : x.length ≤ 7) (c : ∀ z ∈ x.cps.toList, z < 16 ^ 8) : StrT (.str x) := ⟨tq_str h c, fun y e => by cases e; omega⟩
theorem str_app_len (x y : Str) : (x ++ y).length = x.length + y.length := by
  show (x.cps ++ y.cps).size = _
  rw [Array.size_append]
  rfl
theorem str_app_mem {x y : Str} {P : Nat → Prop} (h1 : ∀ z ∈ x.cps.toList, P z) (h2 : ∀ z ∈ y.cps.toList, P z) : ∀ z ∈ (x ++ y).cps.toList, P z := by
  intro z hz
  have hz2 : z ∈ (x.cps ++ y.cps).toList := hz
  rw [Array.toList_append] at hz2
  rcases List.mem_append.mp hz2 with e | e
  · exact h1 z e
  · exact h2 z e
theorem str_app_t {x y : Str} (px : Pat x 4) (ly : y.length ≤ 1) (cy : ∀ z ∈ y.cps.toList, z < 16 ^ 8) : StrT (.str (x ++ y)) :=
  str_t (by rw [str_app_len]; have := px.l; omega) (str_app_mem (arr_small px.a) cy)
theorem str_cut_t {x : Str} (px : Pat x 4) (lo hi : Option Int) : StrT (.str (cutS x lo hi)) := by
  refine str_t (by have := cutS_length x lo hi; have := px.l; omega) fun z hz => ?_
  have hz2 : z ∈ (x.cps.toList.drop (HT.sIx x.length 0 lo)).take (HT.sIx x.length x.length hi - HT.sIx x.length 0 lo) := by simpa [cutS] using hz
  exact arr_small px.a z (List.mem_of_mem_drop (List.mem_of_mem_take hz2))
end Rw

set_option Elab.async false
set_option linter.all false
set_option maxRecDepth 100000
set_option maxHeartbeats 4000000
/-! TkBK: drafts are small enough to be shown and compared; rows stay. -/
namespace Rw
open PySem PySem.Spec PyProof.Rows L2
theorem _root_.L2.Same.grow {p : Addr} {H H1 H2 : Hp} (s : Same H H1) (hp : H p = none) (g : Grow p H1 H2) : Same H H2 := fun b o e => g b o (ne_of_none e hp) (s b o e)
theorem str_same (a : Str) : decide (V.str a = V.str a) = true := decide_eq_true rfl
theorem passN {X : Cx} : Passes (L2.CX X.prog X.w) X E0 := fun _ _ _ _ _ _ _ h => by
  obtain ⟨_, _, _, _, _, _, _, _, _, _, _, _, z⟩ := h
  exact z.elim
theorem tm_ok {n : Nat} {d : PyData} (h : Tm n d) (l : n ≤ 5) : d.showable = true ∧ d.depth ≤ 60 ∧ d.shown.length ≤ sizeLine := by
  have h6 := h.up l
  exact ⟨h.sh, by have := h6.dp; omega, Nat.le_trans h6.ln (by decide +kernel)⟩
theorem tm_short {x : Str} (h : (reprText x).length ≤ 50) : Tm 0 (.str x) := ⟨by simp only [PyData.showable], by simp only [PyData.depth]; omega, by simp only [PyData.shown]; exact h⟩
theorem tm_w {n : Nat} {x : Str} {d : PyData} (hx : (reprText x).length ≤ 50) (h : Tm n d) : Tm (n + 1) (wD x d) := tm_list (by show 2 ≤ 6; decide) (by
  intro e he
  rcases List.mem_cons.mp he with z | z
  · rw [z]; exact (tm_short hx).up (Nat.zero_le _)
  · rw [List.mem_singleton.mp z]; exact h)
theorem tm_tq {n m k : Nat} {d : PyData} (h : Tq n d) (l1 : n ≤ m) (l2 : 80 * 13 ^ n ≤ 50 * 8 ^ m) : Tm m d := ⟨h.sh, by have := h.dp; omega, Nat.le_trans h.ln l2⟩
theorem tm_draft {x : Str} {q : Int} {ss : List Nat} {ms : List (List (List Int))} (g : Good x q ss ms) : Tm 4 (draftD x q ss ms) := by
  have lx := g.p.l
  have q20 : q.natAbs < 20 := by
    have := prime_pos g.q
    omega
  refine tm_list (by show 4 ≤ 6; decide) fun e he => ?_
  rcases List.mem_cons.mp he with z | he
  · rw [z]
    exact tm_tq (k := 0) (tq_str (by omega) (arr_small g.p.a)) (Nat.zero_le _) (by decide)
  rcases List.mem_cons.mp he with z | he
  · rw [z]
    exact (tm_int (Nat.lt_trans q20 (by decide))).up (Nat.zero_le _)
  rcases List.mem_cons.mp he with z | he
  · rw [z]
    refine tm_tq (k := 0) (n := 1) (tq_list (by rw [List.length_map, g.d.sl]; omega) fun d hd => ?_) (by decide) (by decide)
    obtain ⟨s, hs, rfl⟩ := List.mem_map.mp hd
    have := g.d.sb s hs
    exact tq_int (Nat.lt_of_le_of_lt (by omega : ((s : Nat) : Int).natAbs ≤ 6) (by decide))
  · rw [List.mem_singleton.mp he]
    refine tm_list (by rw [List.length_map, g.d.ml]; omega) fun d hd => ?_
    exact (draft_sheet g.d g.q (Nat.le_refl _) d hd).tm
theorem sumS_lt {ss ts : List Nat} {i n : Nat} (h1 : ∀ s, s ∈ ss → s ≤ 6) (h2 : ∀ s, s ∈ ts → s ≤ 6) (h : (sumS ss ts)[i]? = some n) : n ≤ 12 := by
  have hi : i < ss.length := by
    have := (List.getElem?_eq_some_iff.mp h).1
    rw [sumS_len] at this
    exact this
  rw [sumS_at hi] at h
  cases h
  have a := get_le h1 i
  have b := get_le h2 i
  omega
theorem tm_besD {x y : Str} {p q : Int} {ss ts : List Nat} {ms ns : List (List (List Int))} (g : Good x p ss ms) (k : Good y q ts ns) : Tm 5 (besD x p ss ms y q ts ns) := by
  unfold besD
  split
  · rename_i h
    obtain ⟨e1, e2⟩ := h
    subst e1
    subst e2
    cases e : (sumS ss ts).find? (fun n => decide (6 < n)) with
    | some n =>
      have hm := List.mem_of_find?_eq_some e
      obtain ⟨i, hi⟩ := List.getElem?_of_mem hm
      have := sumS_lt g.d.sb k.d.sb hi
      exact (tm_w (by decide +kernel) (tm_int (n := ((n : Nat) : Int)) (Nat.lt_of_le_of_lt (by omega : _ ≤ 12) (by decide)))).up (by decide)
    | none =>
      rw [List.find?_eq_none] at e
      have low : ∀ (i n : Nat), (sumS ss ts)[i]? = some n → n ≤ 6 := fun i n hi => by
        have := e n (List.mem_of_getElem? hi)
        simp at this
        exact this
      exact tm_w (by decide +kernel) (tm_draft ⟨sum_draft g.d k.d g.q low, g.p, g.q⟩)
  · refine (tm_list (n := 0) (by show 1 ≤ 6; decide) fun e he => ?_).up (by decide)
    rw [List.mem_singleton.mp he]
    exact tm_short (by decide +kernel)
theorem tm_partD {x : Str} {q : Int} {ss : List Nat} {ms : List (List (List Int))} {d1 d2 : PyData} (g : Good x q ss ms) (h1 : Tm 0 d1) (h2 : Tm 0 d2) : Tm 5 (partD x q ss ms d1 d2) := by
  unfold partD
  split
  · rename_i i1
    split
    · rename_i i2
      obtain ⟨i, rfl, i0, il⟩ := inB_nat (lo := 0) i1
      obtain ⟨j, rfl, j0, jl⟩ := inB_nat i2
      exact tm_w (by decide +kernel) (tm_draft ⟨part_draft g.d j0 jl, cut_pat g.p j0 jl, g.q⟩)
    · exact (tm_w (by decide +kernel) h2).up (by decide)
  · exact (tm_w (by decide +kernel) h1).up (by decide)
theorem noL_mats (ms : List (List (List Int))) : noL (.tuple ((ms.map fun m => m.map tupI).map .tuple)) = true := by
  show noLs _ = true
  refine noLs_of fun d hd => ?_
  rw [List.map_map] at hd
  obtain ⟨m, _, rfl⟩ := List.mem_map.mp hd
  show noLs (m.map tupI) = true
  refine noLs_of fun e he => ?_
  obtain ⟨r, _, rfl⟩ := List.mem_map.mp he
  exact noL_tupI r
theorem noL_nats (ss : List Nat) : noL (.tuple (ss.map natD)) = true := by
  show noLs _ = true
  refine noLs_of fun d hd => ?_
  obtain ⟨n, _, rfl⟩ := List.mem_map.mp hd
  rfl
theorem row_away {C a p : Addr} {H : Hp} {n : Nat} {x : Str} {q : Int} {ss : List Nat} {ms : List (List (List Int))} (b : Bx H p n) (r : RowAt C H a x q (ss.map natD) (ms.map fun m => m.map tupI)) : RowAt C (del H p) a x q (ss.map natD) (ms.map fun m => m.map tupI) := by
  obtain ⟨dx, ts, tm, h1, h2, h3⟩ := r
  obtain ⟨b1, b2, b3, hp, _⟩ := b
  refine ⟨dx, ts, tm, ?_, any_noL hp _ _ h2 (noL_nats ss), any_noL hp _ _ h3 (noL_mats ms)⟩
  rw [del_ne (fun z => by rw [z, hp] at h1; cases h1)]
  exact h1
theorem lay_draft {x : Str} {m : Nat} (px : Pat x m) (q : Int) (ss : List Nat) (ms : List (List (List Int))) : (draftD x q ss ms).canLay0 = true := by
  refine lay_list fun d hd => ?_
  rcases List.mem_cons.mp hd with z | hd
  · rw [z]
    simp only [PyData.canLay0]
    unfold PyData.strOk
    rw [← Array.all_toList]
    refine List.all_eq_true.mpr fun c hc => decide_eq_true ?_
    have := List.all_eq_true.mp px.a c hc
    unfold isArr at this
    simp only [Bool.or_eq_true, beq_iff_eq] at this
    omega
  rcases List.mem_cons.mp hd with z | hd
  · rw [z]
    first | rfl | simp only [PyData.canLay0]
  rcases List.mem_cons.mp hd with z | hd
  · rw [z]
    refine lay_list fun e he => ?_
    obtain ⟨s, _, rfl⟩ := List.mem_map.mp he
    first | rfl | simp only [natD, PyData.canLay0]
  · rw [List.mem_singleton.mp hd]
    refine lay_list fun e he => ?_
    obtain ⟨m, _, rfl⟩ := List.mem_map.mp he
    refine lay_list fun e he => ?_
    obtain ⟨r, _, rfl⟩ := List.mem_map.mp he
    exact lay_tup (lay_ints r)
theorem dep_draft {x : Str} {q : Int} {ss : List Nat} {ms : List (List (List Int))} (g : Good x q ss ms) : (draftD x q ss ms).depth ≤ 64 := by
  have := (tm_draft g).dp
  omega
end Rw

set_option Elab.async false
set_option linter.all false
set_option maxRecDepth 100000
set_option maxHeartbeats 4000000
/-! TkCA: only lists change; rows held against one another; == by an own __eq__. -/
namespace Rw
open PySem PySem.Spec PyProof.Rows L2
/-- no object but lists has changed -/
def Lt (H H' : Hp) : Prop := ∀ b o, H b = some o → (∀ xs, o ≠ .lst xs) → H' b = some o
theorem Lt.refl {H : Hp} : Lt H H := fun _ _ e _ => e
theorem Lt.trans {H H1 H2 : Hp} (a : Lt H H1) (b : Lt H1 H2) : Lt H H2 := fun c o e n => b c o (a c o e n) n
theorem Lt.of {H H' : Hp} (k : Same H H') : Lt H H' := fun b o e _ => k b o e
theorem Lt.put {H : Hp} {a : Addr} {xs ys : List V} (h : H a = some (.lst xs)) : Lt H (upd H a (.lst ys)) := fun b o e n => by
  have ne : b ≠ a := fun z => by
    rw [z, h] at e
    exact n xs (Option.some.inj e).symm
  rw [upd_ne ne]
  exact e
mutual
theorem any_lt {H H' : Hp} (k : Lt H H') : ∀ (d : PyData) (v : V), Any H v d → noL d = true → Any H' v d
  | .none, _, a, _ => by cases a; exact .non
  | .bool b, _, a, _ => by cases a; exact .bl b
  | .int i, _, a, _ => by cases a; exact .int i
  | .str x, _, a, _ => by cases a; exact .str x
  | .list ds, _, _, z => by cases z
  | .dict ds, _, _, z => by cases z
  | .tuple ds, _, a, z => by
    cases a with
    | tup e b => exact .tup (k _ _ e fun xs y => by cases y) (anyL_lt k ds _ b z)
theorem anyL_lt {H H' : Hp} (k : Lt H H') : ∀ (ds : List PyData) (vs : List V), AnyL H vs ds → noLs ds = true → AnyL H' vs ds
  | [], _, a, _ => by cases a; exact .nil
  | d :: ds, _, a, z => by
    have z2 : (noL d && noLs ds) = true := z
    rw [Bool.and_eq_true] at z2
    cases a with
    | cons a b => exact .cons (any_lt k d _ a z2.1) (anyL_lt k ds _ b z2.2)
end
theorem row_lt {C a : Addr} {H H' : Hp} {x : Str} {q : Int} {ss : List Nat} {ms : List (List (List Int))} (r : RowOf C H a x q ss ms) (k : Lt H H') : RowOf C H' a x q ss ms := by
  obtain ⟨dx, ts, tm, h1, h2, h3⟩ := r
  exact ⟨dx, ts, tm, k _ _ h1 (fun xs z => by cases z), any_lt k _ _ h2 (noL_nats ss), any_lt k _ _ h3 (noL_mats ms)⟩
/-! ### the same data -/
theorem eqvAll_map {α : Type} [DecidableEq α] (f : α → PyData) (h : ∀ a b, PyData.eqv (f a) (f b) = decide (a = b)) : ∀ as bs : List α, PyData.eqvAll (as.map f) (bs.map f) = decide (as = bs)
  | [], [] => by simp [PyData.eqvAll]
  | [], b :: bs => by simp [PyData.eqvAll]
  | a :: as, [] => by simp [PyData.eqvAll]
  | a :: as, b :: bs => by
    show PyData.eqvAll (f a :: as.map f) (f b :: bs.map f) = _
    rw [PyData.eqvAll, h, eqvAll_map f h as bs]
    by_cases e1 : a = b
    · by_cases e2 : as = bs
      · rw [decide_eq_true e1, decide_eq_true e2, decide_eq_true (by rw [e1, e2])] <;> rfl
      · rw [decide_eq_true e1, decide_eq_false e2, decide_eq_false (fun z => e2 (List.cons.inj z).2)] <;> rfl
    · rw [decide_eq_false e1, decide_eq_false (fun z => e1 (List.cons.inj z).1), Bool.false_and]
theorem eqv_int (a b : Int) : PyData.eqv (.int a) (.int b) = decide (a = b) := by
  simp [PyData.eqv]
  by_cases h : a = b
  · rw [decide_eq_true h, h]; simp
  · rw [decide_eq_false h]; simpa using h
theorem eqv_nat (a b : Nat) : PyData.eqv (natD a) (natD b) = decide (a = b) := by
  unfold natD
  rw [eqv_int]
  by_cases h : a = b
  · rw [decide_eq_true h, decide_eq_true (by rw [h])]
  · rw [decide_eq_false h, decide_eq_false (by omega)]
theorem eqv_tupI (a b : List Int) : PyData.eqv (tupI a) (tupI b) = decide (a = b) := by
  unfold tupI
  rw [PyData.eqv]
  exact eqvAll_map PyData.int eqv_int a b
theorem eqv_tupM (a b : List (List Int)) : PyData.eqv (tupM a) (tupM b) = decide (a = b) := by
  unfold tupM
  rw [PyData.eqv]
  exact eqvAll_map tupI eqv_tupI a b
theorem eqv_sheet (a b : List (List Int)) : PyData.eqv (sheetD a) (sheetD b) = decide (a = b) := by
  unfold sheetD
  rw [PyData.eqv]
  exact eqvAll_map tupI eqv_tupI a b
theorem eqv_str (a b : Str) : PyData.eqv (.str a) (.str b) = decide (a = b) := by
  simp [PyData.eqv]
  by_cases h : a = b
  · rw [decide_eq_true h, h]; simp
  · rw [decide_eq_false h]; simpa using h
def sameRow (x : Str) (q : Int) (ss : List Nat) (ms : List (List (List Int))) (y : Str) (p : Int) (ts : List Nat) (ns : List (List (List Int))) : Bool := decide (x = y) && (decide (q = p) && (decide (ss = ts) && decide (ms = ns)))
theorem eqv_draft (x y : Str) (q p : Int) (ss ts : List Nat) (ms ns : List (List (List Int))) : PyData.eqv (draftD x q ss ms) (draftD y p ts ns) = sameRow x q ss ms y p ts ns := by
  unfold draftD sameRow
  have e1 : PyData.eqv (.list (ss.map natD)) (.list (ts.map natD)) = decide (ss = ts) := by
    rw [PyData.eqv]
    exact eqvAll_map natD eqv_nat ss ts
  have e2 : PyData.eqv (.list (ms.map sheetD)) (.list (ns.map sheetD)) = decide (ms = ns) := by
    rw [PyData.eqv]
    exact eqvAll_map sheetD eqv_sheet ms ns
  rw [PyData.eqv, PyData.eqvAll, PyData.eqvAll, PyData.eqvAll, PyData.eqvAll, PyData.eqvAll, eqv_str, eqv_int, e1, e2, Bool.and_true]
theorem lay_tupI (r : List Int) : (tupI r).canLay0 = true := lay_tup (lay_ints r)
theorem lay_nats (ss : List Nat) : (PyData.tuple (ss.map natD)).canLay0 = true := lay_tup fun d hd => by
  obtain ⟨s, _, rfl⟩ := List.mem_map.mp hd
  first | rfl | simp only [natD, PyData.canLay0]
theorem lay_mats (ms : List (List (List Int))) : (PyData.tuple (ms.map tupM)).canLay0 = true := lay_tup fun d hd => by
  obtain ⟨m, _, rfl⟩ := List.mem_map.mp hd
  refine lay_tup fun e he => ?_
  obtain ⟨r, _, rfl⟩ := List.mem_map.mp he
  exact lay_tupI r
theorem dep_le {n : Nat} : ∀ {ds : List PyData}, (∀ d, d ∈ ds → d.depth ≤ n) → PyData.depthAll ds ≤ n
  | [], _ => by simp only [PyData.depthAll]; omega
  | d :: ds, h => by
    simp only [PyData.depthAll]
    have a := h d List.mem_cons_self
    have b := dep_le (ds := ds) fun e he => h e (List.mem_cons_of_mem _ he)
    omega
theorem dep_int (n : Int) : (PyData.int n).depth ≤ 3 := by simp only [PyData.depth]; omega
theorem dep_nats (ss : List Nat) : (PyData.tuple (ss.map natD)).depth ≤ 64 := by
  have : PyData.depthAll (ss.map natD) ≤ 3 := dep_le fun d hd => by
    obtain ⟨s, _, rfl⟩ := List.mem_map.mp hd
    exact dep_int _
  simp only [PyData.depth]
  omega
theorem dep_tupM (m : List (List Int)) : (tupM m).depth ≤ 20 := by
  have : PyData.depthAll (m.map tupI) ≤ 10 := dep_le fun d hd => by
    obtain ⟨r, _, rfl⟩ := List.mem_map.mp hd
    have : PyData.depthAll (r.map PyData.int) ≤ 3 := dep_le fun d hd => by
      obtain ⟨s, _, rfl⟩ := List.mem_map.mp hd
      exact dep_int _
    unfold tupI
    simp only [PyData.depth]
    omega
  unfold tupM
  simp only [PyData.depth]
  omega
theorem dep_mats (ms : List (List (List Int))) : (PyData.tuple (ms.map tupM)).depth ≤ 64 := by
  have : PyData.depthAll (ms.map tupM) ≤ 20 := dep_le fun d hd => by
    obtain ⟨m, _, rfl⟩ := List.mem_map.mp hd
    exact dep_tupM m
  simp only [PyData.depth]
  omega
/-- two data held by == -/
theorem eq_two {K : PySem.W.Frag} {H : Hp} {x y : V} {d e : PyData} {Q : VK} (a : Any H x d) (b : Any H y e) (c1 : d.canLay0 = true) (c2 : e.canLay0 = true) (l1 : d.depth ≤ 64) (l2 : e.depth ≤ 64) (q : Q (.bl (PyData.eqv d e)) H) : rEqD K x y H Q := by
  refine ⟨d, e, any_dp d x a c1, any_dp e y b c2, ?_, ?_, q⟩
  · unfold SeqAt.shaped
    rw [c1, decide_eq_true l1] <;> rfl
  · unfold SeqAt.shaped
    rw [c2, decide_eq_true l2] <;> rfl
/-! ### == by an own __eq__ -/
/-- what a class with an own __eq__ asks -/
structure EqC (K : PySem.W.Frag) (C f : Addr) : Prop where
  at_ : PySem.W.findIn K (.ref C) "__eq__" = some (some (.ref f))
  fn : PySem.W.isFn K (.ref f) = true
  nl : PySem.W.notFirst K C (.type "list") = true
  ns : PySem.W.notFirst K C (.type "str") = true
def rEqO (C : Addr) (sp : Sp) : R2 := fun x y H Q => ∃ a dx fs, x = .ref a ∧ H a = some (.ins C dx fs) ∧ ((∃ b dy gs, y = .ref b ∧ H b = some (.ins C dy gs)) ∨ (∃ b xs, y = .ref b ∧ H b = some (.lst xs)) ∨ ∃ z, y = .str z) ∧ sp [x, y] H (fun v H' => ∃ b, v = .bl b ∧ Q (.bl b) H') (fun _ _ _ => False)
theorem op_eqO {X : Cx} {k : Nat} {f C : Addr} {fd : FuncData} {ps : List Str} {sp : Sp} (O : EqC X.K C f) (F : FnOk X.prog X.w X.K X.mg X.base CX0 k f fd ps sp) (hr : Room k X.A) (hb : Binds X.K fd ps []) : OpR X (compareOp .Eq) (rEqO C sp) := by
  intro pins s σ H x y v u Q I rx ry h
  obtain ⟨a, dx, fs, rfl, ea, hy, h⟩ := h
  obtain rfl : v = Value.ref a := rx
  obtain ⟨mA, J, _⟩ := ins_get I.hok ea
  obtain ⟨od, J, _⟩ := J.look
  obtain ⟨m, hF⟩ := I.fr
  show wpAny (model X.prog X.w) X.A (richCompare .Eq (.ref a) u) (EP X pins σ Q) X.xe s
  have go : ∀ (tb : Value), PySem.W.Looks (model X.prog X.w) s.heap (typeOf u) tb → PySem.W.notFirst X.K C tb = true → wpAny (model X.prog X.w) X.A (richCompare .Eq (.ref a) u) (EP X pins σ Q) X.xe s := fun tb ht hn => by
    refine PySem.W.cmp_K (op := .Eq) (tb := tb) hr.units0 hF I.ok.mod.kin J ht hn O.at_ O.fn ?_
    have r2 : Vals [V.ref a, y] [Value.ref a, u] := .cons rfl (.cons ry .nil)
    have hl := F.len _ _ _ _ h
    refine wpAny_call (codeAny_mono (F.run X.A X.stack s H ⟨[.ref a, u], []⟩ [.ref a, u] [.ref a, y] _ _ hr I.env0 (by
      have := hb s [.ref a, u] I.kIn (by simpa using hl)
      simpa using this) r2 h) fun r s' hq => ?_)
    cases r with
    | error e => exact False.elim hq
    | ok fl =>
      cases fl with
      | ret w' =>
        obtain ⟨z, H', I', rz, b, ez, q⟩ := I.after hq
        subst ez
        cases rz
        exact ⟨.bl b, H', I', rfl, q⟩
      | next => exact False.elim hq
      | brk => exact False.elim hq
      | cont => exact False.elim hq
  rcases hy with ⟨b, dy, gs, rfl, eb⟩ | ⟨b, xs, rfl, eb⟩ | ⟨z, rfl⟩
  · obtain rfl : u = Value.ref b := ry
    obtain ⟨mB, J', _⟩ := ins_get I.hok eb
    obtain ⟨od', J', _⟩ := J'.look
    exact go (.ref C) J'.type (by simp [PySem.W.notFirst])
  · obtain rfl : u = Value.ref b := ry
    obtain ⟨its, r, p, _⟩ := I.list (SqL.of (K := X.K) eb)
    obtain ⟨o, n, eo, ec, _, _⟩ := p
    exact go (.type "list") (by
      have l := (PySem.W.Looks.ld (M := model X.prog X.w) (part := some headPart) eo).andThen (f := fun ob => (pure ob.cls : Sem Value)) .now
      rw [ec] at l
      exact l) O.nl
  · obtain ⟨t, rfl⟩ := ry
    exact go (.type "str") (PySem.W.Looks.of_pure rfl) O.ns
end Rw

set_option Elab.async false
set_option linter.all false
set_option maxRecDepth 100000
set_option maxHeartbeats 4000000
/-! TkCB: what a comprehension lays is new; rows held against one another; what is told is new. -/
namespace Rw
open PySem PySem.Spec PyProof.Rows L2
theorem dnw_put {H H' : Hp} {D q : Addr} {o : HO} (h : H q = none) (ne : q ≠ D) : del (nw H (upd H' q o)) D q = some o := by
  rw [del_ne ne]
  exact nw_put h
theorem dnw_same {H H1 H2 : Hp} {D : Addr} (k : Same H1 H2) : Same (del (nw H H1) D) (del (nw H H2) D) := fun b o e => by
  by_cases z : b = D
  · rw [z, del_same] at e; cases e
  · rw [del_ne z] at e ⊢
    exact nw_same k b o e
theorem dnw_upd {H H1 : Hp} {D : Addr} {o : HO} : del (nw H (upd H1 D o)) D = del (nw H H1) D := by
  funext b
  by_cases z : b = D
  · rw [z, del_same, del_same]
  · rw [del_ne z, del_ne z]
    show (if H b = none then (upd H1 D o) b else none) = (if H b = none then H1 b else none)
    rw [upd_ne z]
theorem dnw_at {H H1 : Hp} {D b : Addr} {o : HO} (e : del (nw H H1) D b = some o) : H b = none ∧ H1 b = some o ∧ b ≠ D := by
  have ne : b ≠ D := fun z => by rw [z, del_same] at e; cases e
  rw [del_ne ne] at e
  have e' : (if H b = none then H1 b else none) = some o := e
  by_cases z : H b = none
  · rw [if_pos z] at e'
    exact ⟨z, e', ne⟩
  · rw [if_neg z] at e'
    cases e'
/-- of lists that are laid: what is laid is new -/
theorem lc_new {J : It} {n : Nat} {G : Hp → Prop} {P : Nat → V → Prop} (w : Walk J n G (fun i H x H' => H' = H ∧ P i x)) {j : Nat} {σ : L2.St} {vs : List Nat} {te : TE} {H0 H1 : Hp} {D : Addr} {Q : Hp → Prop} (hn : n ≤ 1000) (hD : H1 D = none) (hG : ∀ H, Same H1 H → G H) (f : Nat → PyData)
    (hs : ∀ i x H, i < n → P i x → Same H1 H → (∃ o, H D = some o) → wipe ((wipe σ vs).set j (some x)) vs = wipe σ vs ∧ ∀ k : VK, (∀ y H', Same H H' → Any (del (nw H0 H') D) y (f i) → k y H') → te ((wipe σ vs).set j (some x)) H k)
    (hq : ∀ H acc, Same H1 H → H D = some (.lst acc) → AnyL (del (nw H0 H) D) acc ((List.range n).map f) → Q H) :
    ∃ W : Nat → Nat → Hp → Prop, (∃ m, W 0 m (upd H1 D (.lst []))) ∧ ∀ i m H, W i m H →
      (J.stop i H ∧ Q H) ∨ (J.go i H ∧ ∃ Nx : Hp → Prop, (∀ H', Nx H' → ∃ m', m' < m ∧ W (i + 1) m' H') ∧ ∀ x H', J.yld i H x H' → gName j x (wipe σ vs) H' fun σ2 H2 => wipe σ2 vs = wipe σ vs ∧ tYes σ2 H2 fun b H3 =>
        if b = true then te σ2 H3 fun y H4 => ∃ acc, H4 D = some (.lst acc) ∧ acc.length < sizeLine ∧ Nx (upd H4 D (.lst (acc ++ [y]))) else Nx H3) := by
  refine lc_it w (Qd := Q) (Pv := fun i H => Same H1 H ∧ ∃ acc, H D = some (.lst acc) ∧ acc.length = i ∧ AnyL (del (nw H0 H) D) acc ((List.range i).map f)) ⟨same_new hD, [], upd_same, rfl, .nil⟩ (fun i H _ h => hG H h.1) ?_ ?_
  · rintro i x H H' hi ⟨s1, acc, ha, hl, an⟩ ⟨rfl, hp⟩
    obtain ⟨e1, e2⟩ := hs i x H' hi hp s1 ⟨_, ha⟩
    refine ⟨e1, ?_⟩
    show te _ _ _
    refine e2 _ fun y H4 s2 hy => ?_
    refine ⟨acc, s2 _ _ ha, Nat.lt_of_lt_of_le (by omega : acc.length < 1000) (by decide), ?_, acc ++ [y], upd_same, by rw [List.length_append, hl] <;> rfl, ?_⟩
    · intro b o e
      have ne : b ≠ D := ne_of_none e hD
      rw [upd_ne ne]
      exact s2 _ _ (s1 _ _ e)
    · rw [dnw_upd, List.range_succ, List.map_append]
      exact anyL_snoc (anyL_keep (dnw_same s2) an) hy
  · rintro H ⟨s1, acc, ha, hl, an⟩
    exact hq H acc s1 ha an
/-- rows told: the outer list and the sheets are new -/
def spMapsN (C : Addr) : Sp := fun vs H Q _ => ∃ a x p ss ms, vs = [.ref a] ∧ RowOf C H a x p ss ms ∧ ms.length ≤ 1000 ∧ (∀ m, m ∈ ms → m.length ≤ 1000) ∧ ∀ l acc H', H l = none → Same H H' → H' l = some (.lst acc) → AnyL (del H' l) acc (ms.map sheetD) →
  (∀ v, v ∈ acc → ∃ b xs, v = .ref b ∧ H b = none ∧ b ≠ l ∧ H' b = some (.lst xs) ∧ xs.length ≤ 1000) → Q (.ref l) H'
def spEqR (C : Addr) : Sp := fun vs H Q _ => ∃ a v x p ss ms, vs = [.ref a, v] ∧ RowOf C H a x p ss ms ∧
  ((∃ b y q ts ns, v = .ref b ∧ RowOf C H b y q ts ns ∧ Q (.bl (sameRow x p ss ms y q ts ns)) H) ∨ (((∃ b xs, v = .ref b ∧ H b = some (.lst xs)) ∨ ∃ z, v = .str z) ∧ Q (.bl false) H))
/-- isinstance of an own class, also of lists and texts -/
structure KitC (K : PySem.W.Frag) (C : Addr) : Prop where
  kl : PySem.W.kitOne K (.type "list") (.ref C) = some false
  ks : PySem.W.kitOne K (.type "str") (.ref C) = some false
theorem two_nats {K : PySem.W.Frag} {H : Hp} {x y : V} {ss ts : List Nat} {Q : VK} (a : Any H x (.tuple (ss.map natD))) (b : Any H y (.tuple (ts.map natD))) (q : Q (.bl (decide (ss = ts))) H) : rEqD K x y H Q := by
  refine eq_two a b (lay_nats ss) (lay_nats ts) (dep_nats ss) (dep_nats ts) ?_
  rw [PyData.eqv, eqvAll_map natD eqv_nat]
  exact q
theorem mats_tup (ms : List (List (List Int))) : PyData.tuple ((ms.map fun m => m.map tupI).map .tuple) = .tuple (ms.map tupM) := by
  rw [List.map_map]
  rfl
theorem two_mats {K : PySem.W.Frag} {H : Hp} {x y : V} {ms ns : List (List (List Int))} {Q : VK} (a : Any H x (.tuple ((ms.map fun m => m.map tupI).map .tuple))) (b : Any H y (.tuple ((ns.map fun m => m.map tupI).map .tuple))) (q : Q (.bl (decide (ms = ns))) H) : rEqD K x y H Q := by
  rw [mats_tup] at a b
  refine eq_two a b (lay_mats ms) (lay_mats ns) (dep_mats ms) (dep_mats ns) ?_
  rw [PyData.eqv, eqvAll_map tupM eqv_tupM]
  exact q
end Rw

set_option Elab.async false
set_option linter.all false
set_option maxRecDepth 100000
set_option maxHeartbeats 4000000
/-! TkCC: what a law asks of a row told. -/
namespace Rw
open PySem PySem.Spec PyProof.Rows L2
theorem ne_two {K : PySem.W.Frag} {H : Hp} {x y : V} {d e : PyData} {Q : VK} (a : Any H x d) (b : Any H y e) (c1 : d.canLay0 = true) (c2 : e.canLay0 = true) (l1 : d.depth ≤ 64) (l2 : e.depth ≤ 64) (q : Q (.bl (!PyData.eqv d e)) H) : rNeD K x y H Q := by
  refine ⟨d, e, any_dp d x a c1, any_dp e y b c2, ?_, ?_, q⟩
  · unfold SeqAt.shaped
    rw [c1, decide_eq_true l1] <;> rfl
  · unfold SeqAt.shaped
    rw [c2, decide_eq_true l2] <;> rfl
/-- pattern, prime, sizes, length -/
def heads (x : Str) (q : Int) (ss : List Nat) : PyData := .list [.str x, .int q, .tuple (ss.map natD), natD ss.length]
theorem heads_eqv (x : Str) (q : Int) (ss : List Nat) : PyData.eqv (heads x q ss) (heads x q ss) = true := by
  unfold heads
  have e1 : PyData.eqv (.tuple (ss.map natD)) (.tuple (ss.map natD)) = true := by
    rw [PyData.eqv, eqvAll_map natD eqv_nat, decide_eq_true rfl]
  rw [PyData.eqv, PyData.eqvAll, PyData.eqvAll, PyData.eqvAll, PyData.eqvAll, PyData.eqvAll, eqv_str, eqv_int, eqv_nat, e1, decide_eq_true rfl, decide_eq_true rfl, decide_eq_true rfl] <;> rfl
theorem lay_str {x : Str} {m : Nat} (px : Pat x m) : (PyData.str x).canLay0 = true := by
  simp only [PyData.canLay0]
  unfold PyData.strOk
  rw [← Array.all_toList]
  refine List.all_eq_true.mpr fun c hc => decide_eq_true ?_
  have := List.all_eq_true.mp px.a c hc
  unfold isArr at this
  simp only [Bool.or_eq_true, beq_iff_eq] at this
  omega
theorem lay_heads {x : Str} {m : Nat} (px : Pat x m) (q : Int) (ss : List Nat) : (heads x q ss).canLay0 = true := by
  refine lay_list fun d hd => ?_
  rcases List.mem_cons.mp hd with z | hd
  · rw [z]; exact lay_str px
  rcases List.mem_cons.mp hd with z | hd
  · rw [z]; first | rfl | simp only [PyData.canLay0]
  rcases List.mem_cons.mp hd with z | hd
  · rw [z]; exact lay_nats ss
  · rw [List.mem_singleton.mp hd]
    first | rfl | simp only [natD, PyData.canLay0]
theorem dep_heads (x : Str) (q : Int) (ss : List Nat) : (heads x q ss).depth ≤ 64 := by
  have h0 : PyData.depthAll (ss.map natD) ≤ 3 := dep_le fun d hd => by
    obtain ⟨s, _, rfl⟩ := List.mem_map.mp hd
    exact dep_int _
  have h1 : PyData.depthAll [.str x, .int q, .tuple (ss.map natD), natD ss.length] ≤ 10 := dep_le fun d hd => by
    rcases List.mem_cons.mp hd with z | hd
    · rw [z]; simp only [PyData.depth]; omega
    rcases List.mem_cons.mp hd with z | hd
    · rw [z]; simp only [PyData.depth]; omega
    rcases List.mem_cons.mp hd with z | hd
    · rw [z]; simp only [PyData.depth]; omega
    · rw [List.mem_singleton.mp hd]
      have := dep_int ((ss.length : Nat) : Int)
      show (PyData.int _).depth ≤ 10
      omega
  unfold heads
  simp only [PyData.depth]
  omega
theorem same_heads {K : PySem.W.Frag} {H : Hp} {v u : V} {x : Str} {m : Nat} {q : Int} {ss : List Nat} {Q : VK} (px : Pat x m) (a : Any H v (heads x q ss)) (b : Any H u (heads x q ss)) (k : Q (.bl false) H) : rNeD K v u H Q := by
  refine ne_two a b (lay_heads px q ss) (lay_heads px q ss) (dep_heads x q ss) (dep_heads x q ss) ?_
  rw [heads_eqv]
  exact k
theorem heads_any {H : Hp} {l : Addr} {v : V} {x : Str} {q : Int} {ss : List Nat} {n : Nat} (e : H l = some (.lst [.str x, .int q, v, .int (n : Nat)])) (a : Any H v (.tuple (ss.map natD))) (hn : n = ss.length) : Any H (.ref l) (heads x q ss) := by
  subst hn
  exact .lst e (.cons (.str x) (.cons (.int q) (.cons a (.cons (.int _) .nil))))
theorem in_ok {i n : Nat} (h : i < n) : inB (.int (i : Nat)) (.int 0) (.int ((n : Nat) - 1 : Int)) = true := by
  show (decide ((0 : Int) ≤ (i : Nat)) && decide (((i : Nat) : Int) ≤ (n : Nat) - 1)) = true
  rw [Bool.and_eq_true]
  exact ⟨decide_eq_true (by omega), decide_eq_true (by omega)⟩
/-- the matrices of a draft -/
abbrev mapsD (ms : List (List (List Int))) : PyData := .list (ms.map sheetD)
theorem tm_maps {x : Str} {q : Int} {ss : List Nat} {ms : List (List (List Int))} (g : Good x q ss ms) : Tm 3 (mapsD ms) := by
  have lx := g.p.l
  refine tm_list (by rw [List.length_map, g.d.ml]; omega) fun d hd => ?_
  exact (draft_sheet g.d g.q (Nat.le_refl _) d hd).tm
theorem lay_maps (ms : List (List (List Int))) : (mapsD ms).canLay0 = true := lay_list fun e he => by
  obtain ⟨m, _, rfl⟩ := List.mem_map.mp he
  refine lay_list fun e he => ?_
  obtain ⟨r, _, rfl⟩ := List.mem_map.mp he
  exact lay_tup (lay_ints r)
theorem dep_maps {x : Str} {q : Int} {ss : List Nat} {ms : List (List (List Int))} (g : Good x q ss ms) : (mapsD ms).depth ≤ 64 := by
  have := (tm_maps g).dp
  omega
theorem maps_eqv (ms ns : List (List (List Int))) : PyData.eqv (mapsD ms) (mapsD ns) = decide (ms = ns) := by
  rw [PyData.eqv]
  exact eqvAll_map sheetD eqv_sheet ms ns
theorem same_maps {K : PySem.W.Frag} {H : Hp} {v u : V} {x : Str} {q : Int} {ss : List Nat} {ms : List (List (List Int))} {Q : VK} (g : Good x q ss ms) (a : Any H v (mapsD ms)) (b : Any H u (mapsD ms)) (k : Q (.bl false) H) : rNeD K v u H Q := by
  refine ne_two a b (lay_maps ms) (lay_maps ms) (dep_maps g) (dep_maps g) ?_
  rw [maps_eqv, decide_eq_true rfl]
  exact k
theorem any_listD {H : Hp} {v : V} {ds : List PyData} (a : Any H v (.list ds)) : ∃ p ys, v = .ref p ∧ H p = some (.lst ys) ∧ AnyL H ys ds := by
  cases a with
  | lst e al => exact ⟨_, _, rfl, e, al⟩
theorem mat_get {ms : List (List (List Int))} {i : Nat} (h : i < ms.length) : (ms.map fun m => m.map tupI)[i]?.getD [] = ms[i].map tupI := by
  rw [List.getElem?_map, List.getElem?_eq_getElem h] <;> rfl
theorem noL_rowsT (m : List (List Int)) : noLs (m.map tupI) = true := noLs_of fun d hd => by
  obtain ⟨r, _, rfl⟩ := List.mem_map.mp hd
  exact noL_tupI r
def spTold (C : Addr) : Sp := fun vs H Q _ => ∃ v a x q ss ms, vs = [v, .ref a] ∧ Any H v (draftD x q ss ms) ∧ RowOf C H a x q ss ms ∧ Good x q ss ms ∧ ∀ H', Same H H' → Q (.bl true) H'
theorem good_high {x : Str} {q : Int} {ss : List Nat} {ms : List (List (List Int))} (g : Good x q ss ms) : ∀ m, m ∈ ms → m.length ≤ 6 := fun m hm => by
  obtain ⟨i, hi⟩ := List.getElem?_of_mem hm
  have := (g.d.mo i m hi).h
  rw [this]
  exact get_le g.d.sb _
structure RowLenAt2 (P : Program) (w : World) (K : PySem.W.Frag) (mg : Str → Option Value) (base : Heap) (C : Addr) : Prop where
  has : ∃ (f : Addr) (fd : FuncData), PySem.W.findIn K (.ref C) "__len__" = some (some (.ref f)) ∧ PySem.W.isFn K (.ref f) = true ∧ FnOk P w K mg base CX0 1 f fd ["self"] (spLenR C) ∧ Binds K fd ["self"] []
structure RowMatAt2 (P : Program) (w : World) (K : PySem.W.Frag) (mg : Str → Option Value) (base : Heap) (C CL : Addr) : Prop where
  has : ∃ (f : Addr) (fd : FuncData), Meth K C "matrix" f ∧ FnOk P w K mg base (L2.CX P w) 4 f fd ["self", "index"] (spMatx C CL) ∧ Binds K fd ["self", "index"] []
end Rw

set_option Elab.async false
set_option linter.all false
set_option maxRecDepth 100000
set_option maxHeartbeats 4000000
/-! TkCD: matrices as lists, the items otherwise by multiples of the prime, all new. -/
namespace Rw
open PySem PySem.Spec PyProof.Rows L2
def lstI (r : List Int) : PyData := .list (r.map .int)
def sheetL (w : List (List Int)) : PyData := .list (w.map lstI)
/-- the rows are none of the sheets, no sheet stands twice -/
def Ap (H : Hp) (vs : List V) : Prop := vs.Nodup ∧ ∀ b rs, V.ref b ∈ vs → H b = some (.lst rs) → ∀ r, r ∈ rs → r ∉ vs
def redR (q : Int) (r : List Int) : List Int := r.map fun e => e.fmod q
def redM (q : Int) (w : List (List Int)) : List (List Int) := w.map (redR q)
def smallR (r : List Int) : Prop := ∀ e, e ∈ r → e.natAbs.log2 < 400
def smallM (w : List (List Int)) : Prop := ∀ r, r ∈ w → smallR r
theorem anyL_mem {M : Hp} : ∀ {xs : List V} {ds : List PyData}, AnyL M xs ds → ∀ v, v ∈ xs → ∃ d, d ∈ ds ∧ Any M v d
  | _, _, .nil, v, h => nomatch h
  | _, _, .cons a r, v, h => by
    rcases List.mem_cons.mp h with z | z
    · rw [z]; exact ⟨_, List.mem_cons_self, a⟩
    · obtain ⟨d, h1, h2⟩ := anyL_mem r v z
      exact ⟨d, List.mem_cons_of_mem _ h1, h2⟩
theorem any_lstI {M : Hp} {v : V} {r : List Int} (a : Any M v (lstI r)) : ∃ c, v = .ref c ∧ M c = some (.lst (r.map V.int)) := by
  obtain ⟨c, ys, e1, e2, al⟩ := any_listD a
  rw [anyL_ints al] at e2
  exact ⟨c, e1, e2⟩
theorem rows_mem {M : Hp} {rs : List V} {w : List (List Int)} (al : AnyL M rs (w.map lstI)) : ∀ r, r ∈ rs → ∃ c e, r = .ref c ∧ e ∈ w ∧ M c = some (.lst (e.map V.int)) := fun r hr => by
  obtain ⟨d, hd, an⟩ := anyL_mem al r hr
  obtain ⟨e, he, rfl⟩ := List.mem_map.mp hd
  obtain ⟨c, e1, e2⟩ := any_lstI an
  exact ⟨c, e, e1, he, e2⟩
theorem sheets_mem {M : Hp} {acc : List V} {ws : List (List (List Int))} (al : AnyL M acc (ws.map sheetL)) : ∀ v, v ∈ acc → ∃ b rs w, v = .ref b ∧ w ∈ ws ∧ M b = some (.lst rs) ∧ AnyL M rs (w.map lstI) := fun v hv => by
  obtain ⟨d, hd, an⟩ := anyL_mem al v hv
  obtain ⟨w, hw, rfl⟩ := List.mem_map.mp hd
  obtain ⟨b, rs, e1, e2, al2⟩ := any_listD an
  exact ⟨b, rs, w, e1, hw, e2, al2⟩
theorem dl_at {H : Hp} {p b : Addr} {o : HO} (e : del H p b = some o) : b ≠ p ∧ H b = some o := by
  have ne : b ≠ p := fun z => by rw [z, del_same] at e; cases e
  rw [del_ne ne] at e
  exact ⟨ne, e⟩
theorem grow_free {H H2 : Hp} {p b : Addr} {o : HO} (g : Grow p H H2) (hp : H2 p = some o) (h : H2 b = none) : H b = none := by
  cases e : H b with
  | none => rfl
  | some u =>
    have ne : b ≠ p := fun z => by rw [z, hp] at h; cases h
    rw [g b u ne e] at h
    cases h
/-- what was new since later is new since earlier -/
theorem nw_nw {H H2 H3 : Hp} {p D G : Addr} {o u z : HO} (g : Grow p H H2) (hp : H2 p = some o) (hG : H2 G = some u) : Same (del (nw H2 H3) D) (del (nw H (upd H3 G z)) G) := fun b y e => by
  obtain ⟨h1, h2, h3⟩ := dnw_at e
  have ne : b ≠ G := fun z => by rw [z, hG] at h1; cases h1
  rw [del_ne ne]
  show (if H b = none then (upd H3 G z) b else none) = some y
  rw [if_pos (grow_free g hp h1), upd_ne ne]
  exact h2
theorem dnw_grow {H H1 H2 : Hp} {p D : Addr} {o : HO} (hp : H p = some o) (k : Grow p H1 H2) : Same (del (nw H H1) D) (del (nw H H2) D) := fun b u e => by
  by_cases z : b = D
  · rw [z, del_same] at e; cases e
  · rw [del_ne z] at e ⊢
    exact nw_grow hp k b u e
theorem ap_add {H H2 H3 : Hp} {p G D : Addr} {o u z : HO} {acc ac : List V} {ws : List (List (List Int))} {w : List (List Int)} (hp : H p = some o) (g3 : Grow p H2 H3) (hG : H2 G = some u) (hD : H2 D = none) (al : AnyL (del (nw H H2) G) acc (ws.map sheetL)) (ap : Ap H2 acc) (eD : H3 D = some (.lst ac)) (al2 : AnyL (del (nw H2 H3) D) ac (w.map lstI)) : Ap (upd H3 G z) (acc ++ [.ref D]) := by
  have old : ∀ b, V.ref b ∈ acc → ∃ (rs : List V) (w : List (List Int)), H b = none ∧ H2 b = some (.lst rs) ∧ b ≠ G ∧ AnyL (del (nw H H2) G) rs (w.map lstI) := fun b hb => by
    obtain ⟨b', rs, w, e1, _, e2, al⟩ := sheets_mem al _ hb
    cases e1
    obtain ⟨h1, h2, h3⟩ := dnw_at e2
    exact ⟨rs, w, h1, h2, h3, al⟩
  have DG : D ≠ G := fun y => by rw [y, hG] at hD; cases hD
  have nD : V.ref D ∉ acc := fun y => by
    obtain ⟨rs, w, _, h2, _⟩ := old D y
    rw [hD] at h2
    cases h2
  refine ⟨?_, fun b rs hb e r hr hm => ?_⟩
  · rw [List.nodup_append]
    refine ⟨ap.1, by simp, fun a ha b hb => ?_⟩
    rw [List.mem_singleton.mp hb]
    exact fun y => nD (by rw [← y]; exact ha)
  · rcases List.mem_append.mp hb with hb | hb
    · obtain ⟨rs2, w2, h1, h2, h3, al3⟩ := old b hb
      rw [upd_ne h3, g3 b _ (fun y => by rw [y, hp] at h1; cases h1) h2] at e
      cases e
      rcases List.mem_append.mp hm with hm | hm
      · exact ap.2 b _ hb h2 r hr hm
      · rw [List.mem_singleton.mp hm] at hr
        obtain ⟨c, e4, e5, _, e6⟩ := rows_mem al3 _ hr
        cases e5
        rw [(dnw_at e6).2.1] at hD
        cases hD
    · cases List.mem_singleton.mp hb
      rw [upd_ne DG, eD] at e
      cases e
      obtain ⟨c, e4, rfl, _, e6⟩ := rows_mem al2 _ hr
      obtain ⟨h1, h2, h3⟩ := dnw_at e6
      rcases List.mem_append.mp hm with hm | hm
      · obtain ⟨rs2, w2, _, h5, _⟩ := old c hm
        rw [h1] at h5
        cases h5
      · cases List.mem_singleton.mp hm
        exact h3 rfl
def spGrown : Sp := fun vs H Q _ => ∃ p v x q ss ms n, vs = [.ref p, v] ∧ Bx H p n ∧ n ≤ 500000 ∧ Any (del H p) v (draftD x q ss ms) ∧ Good x q ss ms ∧
  ∀ G acc (ws : List (List (List Int))) H', H G = none → Grow p H H' → Bx H' p (n + 216) → H' G = some (.lst acc) → AnyL (del (nw H H') G) acc (ws.map sheetL) → Ap H' acc → ws.map (redM q) = ms → (∀ w, w ∈ ws → smallM w) → Q (.ref G) H'
theorem grow_item {e q t : Int} (h0 : 0 ≤ e) (h1 : e < q) (hq : q < 20) (t0 : 0 ≤ t) (t1 : t < 5) : (e + q * (t - 2) * (10 ^ Int.toNat 27)).fmod q = e ∧ (e + q * (t - 2) * (10 ^ Int.toNat 27)).natAbs.log2 < 400 := by
  have e1 : (10 : Int) ^ Int.toNat 27 = 1000000000000000000000000000 := by decide
  rw [e1]
  constructor
  · rw [Int.fmod_eq_emod_of_nonneg _ (by omega), Int.mul_assoc, Int.add_mul_emod_self_left]
    exact Int.emod_eq_of_lt h0 h1
  · have b : (e + q * (t - 2) * 1000000000000000000000000000).natAbs < 10 ^ 40 := by
      have h2 : -60 ≤ q * (t - 2) ∧ q * (t - 2) ≤ 60 := by
        rcases (by omega : t = 0 ∨ t = 1 ∨ t = 2 ∨ t = 3 ∨ t = 4) with z | z | z | z | z <;> subst z <;> omega
      generalize q * (t - 2) = u at h2 ⊢
      omega
    exact log2_small b
end Rw

set_option Elab.async false
set_option linter.all false
set_option maxRecDepth 100000
set_option maxHeartbeats 4000000
/-! TkCE: a draft under change: its lists are new and apart. -/
namespace Rw
open PySem PySem.Spec PyProof.Rows L2
theorem Lt.grow {p : Addr} {H H' : Hp} {xs : List V} (g : Grow p H H') (h : H p = some (.lst xs)) : Lt H H' := fun b o e n => g b o (fun z => by rw [z, h] at e; exact n xs (Option.some.inj e).symm) e
def ShAt (H : Hp) (bs : List Addr) (ns : List (List (List Int))) : Prop := bs.length = ns.length ∧ ∀ (i : Nat) (b : Addr) (m : List (List Int)), bs[i]? = some b → ns[i]? = some m → ∃ rs, H b = some (.lst rs) ∧ AnyL H rs (m.map tupI)
theorem ShAt.lt {H H' : Hp} {bs : List Addr} {ns : List (List (List Int))} (h : ShAt H bs ns) (k : Lt H H') (e : ∀ b o, b ∈ bs → H b = some o → H' b = some o) : ShAt H' bs ns :=
  ⟨h.1, fun i b m hb hm => by
    obtain ⟨rs, h1, h2⟩ := h.2 i b m hb hm
    exact ⟨rs, e b _ (List.mem_of_getElem? hb) h1, anyL_lt k _ _ h2 (noL_rowsT m)⟩⟩
/-- a draft whose lists are new -/
structure Ot (H0 H : Hp) (F A M : Addr) (bs : List Addr) (y : Str) (q : Int) (ts : List Nat) (ns : List (List (List Int))) : Prop where
  f : H F = some (.lst [.str y, .int q, .ref A, .ref M])
  a : H A = some (.lst (ts.map fun s => V.int (s : Nat)))
  m : H M = some (.lst (bs.map V.ref))
  nf : H0 F = none
  na : H0 A = none
  nm : H0 M = none
  nb : ∀ b, b ∈ bs → H0 b = none
  fa : F ≠ A
  fm : F ≠ M
  am : A ≠ M
  bx : ∀ b, b ∈ bs → b ≠ F ∧ b ≠ A ∧ b ≠ M
  nd : bs.Nodup
  sh : ShAt H bs ns
section
variable {H0 H H' : Hp} {p F A M : Addr} {bs : List Addr} {y : Str} {q : Int} {ts : List Nat} {ns : List (List (List Int))}
theorem Ot.grow {xs : List V} {o : HO} (h : Ot H0 H F A M bs y q ts ns) (hp : H0 p = some o) (hq : H p = some (.lst xs)) (g : Grow p H H') : Ot H0 H' F A M bs y q ts ns := by
  have ne : ∀ b, H0 b = none → b ≠ p := fun b hb z => by rw [z, hp] at hb; cases hb
  exact ⟨g _ _ (ne _ h.nf) h.f, g _ _ (ne _ h.na) h.a, g _ _ (ne _ h.nm) h.m, h.nf, h.na, h.nm, h.nb, h.fa, h.fm, h.am, h.bx, h.nd, h.sh.lt (Lt.grow g hq) fun b o hb e => g _ _ (ne _ (h.nb b hb)) e⟩
theorem Ot.keep (h : Ot H0 H F A M bs y q ts ns) (k : Same H H') : Ot H0 H' F A M bs y q ts ns :=
  ⟨k _ _ h.f, k _ _ h.a, k _ _ h.m, h.nf, h.na, h.nm, h.nb, h.fa, h.fm, h.am, h.bx, h.nd, h.sh.lt (Lt.of k) fun b o _ e => k _ _ e⟩
theorem sheets_any {M0 : Hp} : ∀ {bs : List Addr} {ns : List (List (List Int))}, bs.length = ns.length → (∀ (i : Nat) (b : Addr) (m : List (List Int)), bs[i]? = some b → ns[i]? = some m → ∃ rs, M0 b = some (.lst rs) ∧ AnyL M0 rs (m.map tupI)) → AnyL M0 (bs.map V.ref) (ns.map sheetD)
  | [], [], _, _ => .nil
  | b :: bs, m :: ns, hl, h => by
    obtain ⟨rs, e1, e2⟩ := h 0 b m rfl rfl
    exact .cons (.lst e1 e2) (sheets_any (by simpa using hl) fun i b' m' h1 h2 => h (i + 1) b' m' (by simpa using h1) (by simpa using h2))
theorem Ot.any {xs : List V} {o : HO} (h : Ot H0 H F A M bs y q ts ns) (hp : H0 p = some o) (hq : H p = some (.lst xs)) : Any (del H p) (.ref F) (draftD y q ts ns) := by
  have ne : ∀ b, H0 b = none → b ≠ p := fun b hb z => by rw [z, hp] at hb; cases hb
  refine .lst (by rw [del_ne (ne _ h.nf)]; exact h.f) (.cons (.str y) (.cons (.int q) (.cons (.lst (by rw [del_ne (ne _ h.na)]; exact h.a) (nats_anyL ts)) (.cons (.lst (by rw [del_ne (ne _ h.nm)]; exact h.m) (sheets_any h.sh.1 fun i b m h1 h2 => ?_)) .nil))))
  obtain ⟨rs, e1, e2⟩ := h.sh.2 i b m h1 h2
  exact ⟨rs, by rw [del_ne (ne _ (h.nb b (List.mem_of_getElem? h1)))]; exact e1, anyL_noL hq _ _ e2 (noL_rowsT m)⟩
end
def spOther : Sp := fun vs H Q _ => ∃ p v x q ss ms n, vs = [.ref p, v] ∧ Bx H p n ∧ n ≤ 500000 ∧ Any (del H p) v (draftD x q ss ms) ∧ Good x q ss ms ∧
  ∀ l H' y q2 ts ns, Good y q2 ts ns → Grow p H H' → Bx H' p (n + 10) → Any (del H' p) (.ref l) (draftD y q2 ts ns) → Q (.ref l) H'
end Rw

set_option Elab.async false
set_option linter.all false
set_option maxRecDepth 100000
set_option maxHeartbeats 4000000
/-! TkCF: drafts changed in one thing: what stays right. -/
namespace Rw
open PySem PySem.Spec PyProof.Rows L2
theorem shnew_add {H1 H2 H3 : Hp} {M l : Addr} {bs : List Addr} {ms : List (List (List Int))} {m : List (List Int)} {rs : List V} (s1 : Same H1 H2) (nd : bs.Nodup) (nb : ∀ b, b ∈ bs → H1 b = none ∧ b ≠ M ∧ ∃ o, H2 b = some o) (sh : ShAt H2 bs ms) (hM : H1 M = none) (eM : H2 M = some (.lst (bs.map V.ref))) (hl : H2 l = none) (k : Same H2 H3) (el : H3 l = some (.lst rs)) (al : AnyL H3 rs (m.map tupI)) :
    ∃ bs2 : List Addr, Same H1 (upd H3 M (.lst (bs.map V.ref ++ [.ref l]))) ∧ (upd H3 M (.lst (bs.map V.ref ++ [.ref l]))) M = some (.lst (bs2.map V.ref)) ∧ bs2.Nodup ∧ (∀ b, b ∈ bs2 → H1 b = none ∧ b ≠ M ∧ ∃ o, (upd H3 M (.lst (bs.map V.ref ++ [.ref l]))) b = some o) ∧ ShAt (upd H3 M (.lst (bs.map V.ref ++ [.ref l]))) bs2 (ms ++ [m]) := by
  have lM : l ≠ M := fun z => by rw [z, eM] at hl; cases hl
  have k3 := k _ _ eM
  have lt : Lt H3 (upd H3 M (.lst (bs.map V.ref ++ [.ref l]))) := Lt.put k3
  refine ⟨bs ++ [l], fun b o e => ?_, by rw [List.map_append]; exact upd_same, ?_, fun b hb => ?_, ?_, fun i b m' h1 h2 => ?_⟩
  · rw [upd_ne (ne_of_none e hM)]
    exact k _ _ (s1 _ _ e)
  · rw [List.nodup_append]
    refine ⟨nd, by simp, fun a ha b hb => ?_⟩
    rw [List.mem_singleton.mp hb]
    intro z
    obtain ⟨_, _, o, e⟩ := nb a ha
    rw [z, hl] at e
    cases e
  · rcases List.mem_append.mp hb with z | z
    · obtain ⟨h1, h2, o, e⟩ := nb b z
      exact ⟨h1, h2, o, by rw [upd_ne h2]; exact k _ _ e⟩
    · rw [List.mem_singleton.mp z]
      exact ⟨s1.free hl, lM, _, by rw [upd_ne lM]; exact el⟩
  · rw [List.length_append, List.length_append, sh.1] <;> rfl
  · by_cases hi : i < bs.length
    · rw [List.getElem?_append_left hi] at h1
      rw [List.getElem?_append_left (by rw [← sh.1]; exact hi)] at h2
      obtain ⟨rs', e1, e2⟩ := sh.2 i b m' h1 h2
      obtain ⟨_, bM, _⟩ := nb b (List.mem_of_getElem? h1)
      exact ⟨rs', by rw [upd_ne bM]; exact k _ _ e1, anyL_lt ((Lt.of k).trans lt) _ _ e2 (noL_rowsT _)⟩
    · rw [List.getElem?_append_right (by omega)] at h1
      rw [List.getElem?_append_right (by rw [← sh.1]; omega)] at h2
      have h0 : i - bs.length = 0 := by
        have := (List.getElem?_eq_some_iff.mp h1).1
        simp at this
        omega
      rw [h0] at h1
      rw [← sh.1, h0] at h2
      have e1 : l = b := by simpa using h1
      have e2 : m = m' := by simpa using h2
      subst e1
      subst e2
      exact ⟨rs, by rw [upd_ne lM]; exact el, anyL_lt lt _ _ al (noL_rowsT _)⟩
theorem bx_on {H H' : Hp} {p : Addr} {n : Nat} (b : Bx H p n) (k : ∀ o, H p = some o → H' p = some o) : Bx H' p n := by
  obtain ⟨c1, c2, c3, h1, rest⟩ := b
  exact ⟨c1, c2, c3, k _ h1, rest⟩
theorem ne_unit {K : PySem.W.Frag} {H : Hp} {v u : V} {r : List Int} {Q : VK} (hr : r.length ≤ 1000) (a : Any H v (tupI r)) (b : Any H u (.tuple [])) (k : Q (.bl (!r.isEmpty)) H) : rNeD K v u H Q := by
  have d1 : (tupI r).depth ≤ 64 := by
    have : PyData.depthAll (r.map PyData.int) ≤ 3 := dep_le fun d hd => by
      obtain ⟨s, _, rfl⟩ := List.mem_map.mp hd
      exact dep_int _
    unfold tupI
    simp only [PyData.depth]
    omega
  refine ne_two a b (lay_tupI r) (lay_tup fun d hd => nomatch hd) d1 (by decide) ?_
  have e : PyData.eqv (tupI r) (.tuple []) = r.isEmpty := by
    have := eqv_tupI r []
    unfold tupI at this ⊢
    rw [List.map_nil] at this
    rw [this]
    cases r with
    | nil => rfl
    | cons a t => exact decide_eq_false fun z => nomatch z
  rw [e]
  exact k
/-! ### the next prime -/
def nextK : List (Key × V) := [(.inl 2, .int 3), (.inl 3, .int 5), (.inl 5, .int 7), (.inl 7, .int 11), (.inl 11, .int 13), (.inl 13, .int 2)]
theorem next_val {q : Int} (h : q ∈ primesL) : ∃ r, r ∈ primesL ∧ some (V.int r) = valV (mergeK [] nextK) (.inl q) := by
  simp only [primesL, List.mem_cons, List.not_mem_nil, or_false] at h
  rcases h with z | z | z | z | z | z <;> subst z
  · exact ⟨3, by decide, rfl⟩
  · exact ⟨5, by decide, rfl⟩
  · exact ⟨7, by decide, rfl⟩
  · exact ⟨11, by decide, rfl⟩
  · exact ⟨13, by decide, rfl⟩
  · exact ⟨2, by decide, rfl⟩
theorem draft_mod {y : Str} {q r : Int} {ts : List Nat} {ns : List (List (List Int))} (d : Draft y q 6 ts ns) (hr : 0 < r) : Draft y r 6 ts (ns.map (redM r)) := by
  refine ⟨d.sl, d.sb, by rw [List.length_map]; exact d.ml, fun i m hm => ?_⟩
  rw [List.getElem?_map] at hm
  cases e : ns[i]? with
  | none => rw [e] at hm; cases hm
  | some m0 =>
    rw [e] at hm
    cases Option.some.inj hm
    have o := d.mo i m0 e
    refine ⟨by unfold redM; rw [List.length_map]; exact o.h, fun x hx => ?_⟩
    obtain ⟨x0, h0, rfl⟩ := List.mem_map.mp hx
    refine ⟨by unfold redR; rw [List.length_map]; exact (o.w x0 h0).1, fun e he => ?_⟩
    obtain ⟨e0, _, rfl⟩ := List.mem_map.mp he
    rw [Int.fmod_eq_emod_of_nonneg _ (by omega)]
    exact ⟨Int.emod_nonneg _ (by omega), Int.emod_lt_of_pos _ hr⟩
theorem draft_item {y : Str} {q v : Int} {ts : List Nat} {ns : List (List (List Int))} {k j : Nat} {m : List (List Int)} {r : List Int} (d : Draft y q 6 ts ns) (hm : ns[k]? = some m) (hr : m[j]? = some r) (v0 : 0 ≤ v) (v1 : v < q) : Draft y q 6 ts (ns.set k (m.set j (r.set 0 v))) := by
  refine ⟨d.sl, d.sb, by rw [List.length_set]; exact d.ml, fun i m' h => ?_⟩
  by_cases z : k = i
  · subst z
    rw [List.getElem?_set_self (List.getElem?_eq_some_iff.mp hm).1] at h
    cases Option.some.inj h
    have o := d.mo k m hm
    refine ⟨by rw [List.length_set]; exact o.h, fun x hx => ?_⟩
    rcases List.mem_or_eq_of_mem_set hx with h1 | h1
    · exact o.w x h1
    · subst h1
      obtain ⟨w1, w2⟩ := o.w r (List.mem_of_getElem? hr)
      refine ⟨by rw [List.length_set]; exact w1, fun e he => ?_⟩
      rcases List.mem_or_eq_of_mem_set he with h2 | h2
      · exact w2 e h2
      · rw [h2]; exact ⟨v0, v1⟩
  · rw [List.getElem?_set_ne z] at h
    exact d.mo i m' h
theorem nodup_inj {α : Type} : ∀ {l : List α} (_ : l.Nodup) {i j : Nat} {a : α} (_ : l[i]? = some a) (_ : l[j]? = some a), i = j
  | [], _, i, j, a, h, _ => by simp at h
  | x :: l, nd, 0, 0, a, _, _ => rfl
  | x :: l, nd, 0, j + 1, a, h1, h2 => by
    have e : x = a := by simpa using h1
    subst e
    exact absurd (List.mem_of_getElem? (by simpa using h2)) (List.nodup_cons.mp nd).1
  | x :: l, nd, i + 1, 0, a, h1, h2 => by
    have e : x = a := by simpa using h2
    subst e
    exact absurd (List.mem_of_getElem? (by simpa using h1)) (List.nodup_cons.mp nd).1
  | x :: l, nd, i + 1, j + 1, a, h1, h2 => by
    rw [nodup_inj (List.nodup_cons.mp nd).2 (i := i) (j := j) (by simpa using h1) (by simpa using h2)]
/-- one sheet's row exchanged -/
theorem ShAt.row {H : Hp} {bs : List Addr} {ns : List (List (List Int))} {k j : Nat} {b t : Addr} {m : List (List Int)} {r : List Int} {rs : List V} (h : ShAt H bs ns) (nd : bs.Nodup) (hb : bs[k]? = some b) (hm : ns[k]? = some m) (eb : H b = some (.lst rs)) (al : AnyL H rs (m.map tupI)) (et : H t = some (.tup (r.map V.int))) : ShAt (upd H b (.lst (rs.set j (.ref t)))) bs (ns.set k (m.set j r)) := by
  have lt : Lt H (upd H b (.lst (rs.set j (.ref t)))) := Lt.put eb
  refine ⟨by rw [List.length_set]; exact h.1, fun i b' m' h1 h2 => ?_⟩
  by_cases z : k = i
  · subst z
    rw [hb] at h1
    cases Option.some.inj h1
    rw [List.getElem?_set_self (List.getElem?_eq_some_iff.mp hm).1] at h2
    cases Option.some.inj h2
    refine ⟨_, upd_same, anyL_lt lt _ _ ?_ (noL_rowsT _)⟩
    rw [List.map_set]
    exact anyL_set al (tupI_any et)
  · rw [List.getElem?_set_ne z] at h2
    obtain ⟨rs', e1, e2⟩ := h.2 i b' m' h1 h2
    have ne : b' ≠ b := fun y => by
      subst y
      have i1 := (List.getElem?_eq_some_iff.mp h1)
      have i2 := (List.getElem?_eq_some_iff.mp hb)
      obtain ⟨l1, g1⟩ := i1
      obtain ⟨l2, g2⟩ := i2
      exact z (nodup_inj nd h1 hb).symm
    exact ⟨rs', by rw [upd_ne ne]; exact e1, anyL_lt lt _ _ e2 (noL_rowsT _)⟩
theorem draft_flip {y z : Str} {q : Int} {ts : List Nat} {ns : List (List (List Int))} (d : Draft y q 6 ts ns) (hl : z.length = y.length) (h0 : ∀ s, s ∈ ts → s = 0) : Draft z q 6 ts ns := by
  have g0 : ∀ i : Nat, ts[i]?.getD 0 = 0 := fun i => by
    cases e : ts[i]? with
    | none => rfl
    | some s => exact h0 s (List.mem_of_getElem? e)
  refine ⟨by rw [hl]; exact d.sl, d.sb, by rw [hl]; exact d.ml, fun i m hm => ?_⟩
  have := d.mo i m hm
  rw [g0, g0] at this ⊢
  exact this
theorem draft_low {y : Str} {q : Int} {ts : List Nat} {ns : List (List (List Int))} {s : Nat} (d : Draft y q 6 ts ns) (hl : ts.length = 1) (hs : s ≤ 6) : Draft y q 6 (ts.set 0 s) ns := by
  have l0 : y.length = 0 := by have := d.sl; omega
  have n0 : ns = [] := List.length_eq_zero_iff.mp (by rw [d.ml]; exact l0)
  refine ⟨by rw [List.length_set]; exact d.sl, fun t ht => ?_, d.ml, fun i m hm => ?_⟩
  · rcases List.mem_or_eq_of_mem_set ht with h | h
    · exact d.sb t h
    · omega
  · rw [n0] at hm
    cases hm
def flipK : List (Key × V) := [(.inr ">", .str "<"), (.inr "<", .str ">")]
theorem flip_val {c : Nat} (h : isArr c = true) : ∃ u : Nat, isArr u = true ∧ some (V.str ⟨#[u]⟩) = valV (mergeK [] flipK) (.inr ⟨#[c]⟩) := by
  unfold isArr at h
  rw [Bool.or_eq_true, beq_iff_eq, beq_iff_eq] at h
  rcases h with z | z <;> subst z
  · exact ⟨60, by decide, by decide⟩
  · exact ⟨62, by decide, by decide⟩
theorem flip_pat {y : Str} {u : Nat} (py : Pat y 6) (hy : y.length ≠ 0) (hu : isArr u = true) : Pat ((⟨#[u]⟩ : Str) ++ cutS y (some 1) none) 6 ∧ ((⟨#[u]⟩ : Str) ++ cutS y (some 1) none).length = y.length := by
  have e : ((⟨#[u]⟩ : Str) ++ cutS y (some 1) none).cps.toList = u :: y.cps.toList.drop 1 := by
    show (#[u] ++ (cutS y (some 1) none).cps).toList = _
    rw [Array.toList_append]
    have e1 : HT.sIx y.length 0 (some 1) = 1 := by
      have := HT.sIx_nat y.length 0 1
      rw [Nat.min_eq_left (by omega)] at this
      exact this
    have e2 : HT.sIx y.length y.length none = y.length := HT.sIx_none _ _
    show [u] ++ ((y.cps.toList.drop (HT.sIx y.length 0 (some 1))).take (HT.sIx y.length y.length none - HT.sIx y.length 0 (some 1))) = _
    rw [e1, e2, List.take_of_length_le (by rw [List.length_drop, str_len]; omega)] <;> rfl
  have l : ((⟨#[u]⟩ : Str) ++ cutS y (some 1) none).length = y.length := by
    rw [← str_len, e, List.length_cons, List.length_drop, str_len]
    omega
  refine ⟨⟨by rw [l]; exact py.l, ?_⟩, l⟩
  rw [e, List.all_cons, hu, Bool.true_and]
  exact List.all_eq_true.mpr fun c hc => List.all_eq_true.mp py.a c (List.mem_of_mem_drop hc)
end Rw

set_option Elab.async false
set_option linter.all false
set_option maxRecDepth 100000
set_option maxHeartbeats 4000000
/-! TkCG: rows made of what was handed in; what was handed in is changed. -/
namespace Rw
open PySem PySem.Spec PyProof.Rows L2
theorem good_of {x : Str} {q : Int} {ds dm : PyData} (px : Pat x 6) (hq : q ∈ primesL) (hs : sizesOk x.length ds = true) (hl : isSeqD dm = true) (l : (itemsD dm).length = x.length) (hm : ∀ k, k < x.length → matOk x ds dm k = true) : rowGood x q ds dm = true := by
  unfold rowGood
  have e1 : isPatD (.str x) = true := by
    show (decide (x.length ≤ 6) && x.cps.toList.all isArr) = true
    rw [decide_eq_true px.l, px.a] <;> rfl
  have e2 : isPr (.int q) = true := decide_eq_true hq
  have e3 : mapsOk x.length dm = true := by
    unfold mapsOk
    rw [Bool.and_eq_true]
    exact ⟨hl, decide_eq_true (by rw [l])⟩
  rw [e1, e2, hs, e3, bad_none hm] <;> rfl
theorem sheetL_is {q : Int} {h w : Nat} {u : List (List Int)} (k : MatOk q h w (redM q u)) : isMatD (h : Nat) (w : Nat) (sheetL u) = true := by
  unfold isMatD
  rw [Bool.and_eq_true, Bool.and_eq_true]
  have lh := k.h
  unfold redM at lh
  rw [List.length_map] at lh
  refine ⟨rfl, decide_eq_true (by show (((u.map lstI).length : Nat) : Int) = _; rw [List.length_map, lh]), List.all_eq_true.mpr fun d hd => ?_⟩
  obtain ⟨r, hr, rfl⟩ := List.mem_map.mp hd
  have lw := (k.w (redR q r) (List.mem_map_of_mem hr)).1
  unfold redR at lw
  rw [List.length_map] at lw
  unfold isVecD
  rw [Bool.and_eq_true, Bool.and_eq_true]
  refine ⟨rfl, decide_eq_true (by show (((r.map PyData.int).length : Nat) : Int) = _; rw [List.length_map, lw]), List.all_eq_true.mpr fun e he => ?_⟩
  obtain ⟨n, _, rfl⟩ := List.mem_map.mp he
  rfl
section
variable {x : Str} {q : Int} {ss : List Nat} {ms ws : List (List (List Int))}
theorem grown_good (g : Good x q ss ms) (e : ws.map (redM q) = ms) : rowGood x q (.list (ss.map natD)) (.list (ws.map sheetL)) = true := by
  have lw : ws.length = x.length := by rw [← g.d.ml, ← e, List.length_map]
  refine good_of g.p g.q (nats_ok g.d.sl g.d.sb) rfl (by show (ws.map sheetL).length = _; rw [List.length_map, lw]) fun k hk => ?_
  have hk2 : k < ws.length := by omega
  have h1 : ms[k]? = some (redM q ws[k]) := by rw [← e, List.getElem?_map, List.getElem?_eq_getElem hk2] <;> rfl
  have h2 : atD (.list (ws.map sheetL)) k = sheetL ws[k] := atD_get (by
    show (ws.map sheetL)[k]? = _
    rw [List.getElem?_map, List.getElem?_eq_getElem hk2] <;> rfl)
  unfold matOk
  rw [h2, nats_sz, nats_sz]
  exact sheetL_is (g.d.mo k _ h1)
theorem rows_red (u : List (List Int)) : rowsM q (sheetL u) = (redM q u).map tupI := by
  unfold rowsM redM
  show (u.map lstI).map (fun r => PyData.tuple ((itemsD r).map (modD q))) = _
  rw [List.map_map, List.map_map]
  refine List.map_congr_left fun r _ => ?_
  show PyData.tuple ((r.map PyData.int).map (modD q)) = .tuple ((redR q r).map .int)
  unfold redR
  rw [List.map_map, List.map_map]
  rfl
theorem grown_rows (e : ws.map (redM q) = ms) : (itemsD (.list (ws.map sheetL))).map (rowsM q) = ms.map fun m => m.map tupI := by
  show (ws.map sheetL).map (rowsM q) = _
  rw [← e, List.map_map, List.map_map]
  exact List.map_congr_left fun u _ => rows_red u
theorem fit_lst {r : List Int} (l : r.length ≤ 1000) (s : smallR r) : Fit1 (lstI r) := ⟨by show (r.map PyData.int).length ≤ _; rw [List.length_map]; exact l, fun n hn => by
  obtain ⟨e, he, h⟩ := List.mem_map.mp (show PyData.int n ∈ r.map PyData.int from hn)
  injection h with h
  subst h
  exact s e he⟩
theorem grown_fit (g : Good x q ss ms) (e : ws.map (redM q) = ms) (sm : ∀ w, w ∈ ws → smallM w) : FitM (.list (ws.map sheetL)) := by
  have lw : ws.length = x.length := by rw [← g.d.ml, ← e, List.length_map]
  have lx := g.p.l
  refine ⟨by show (ws.map sheetL).length ≤ _; rw [List.length_map]; omega, fun d hd => ?_⟩
  obtain ⟨u, hu, rfl⟩ := List.mem_map.mp (show d ∈ ws.map sheetL from hd)
  obtain ⟨k, hk⟩ := List.getElem?_of_mem hu
  have h1 : ms[k]? = some (redM q u) := by rw [← e, List.getElem?_map, hk] <;> rfl
  have o := g.d.mo k _ h1
  have lh : u.length ≤ 6 := by
    have := o.h
    unfold redM at this
    rw [List.length_map] at this
    rw [this]
    exact get_le g.d.sb _
  refine ⟨⟨by show (u.map lstI).length ≤ _; rw [List.length_map]; omega, fun n hn => ?_⟩, fun r hr => ?_⟩
  · obtain ⟨r, _, h⟩ := List.mem_map.mp (show PyData.int n ∈ u.map lstI from hn)
    cases h
  · obtain ⟨r, h2, rfl⟩ := List.mem_map.mp (show r ∈ u.map lstI from hr)
    refine fit_lst ?_ (sm u hu r h2)
    have := (o.w (redR q r) (List.mem_map_of_mem h2)).1
    unfold redR at this
    rw [List.length_map] at this
    rw [this]
    exact Nat.le_trans (get_le g.d.sb _) (by decide)
theorem twin_good (g : Good x q ss ms) : rowGood x q (.tuple (ss.map natD)) (.tuple (ms.map sheetD)) = true := by
  have e3 : sizesOk x.length (.tuple (ss.map natD)) = true := by
    have := nats_ok g.d.sl g.d.sb
    unfold sizesOk at this ⊢
    rw [Bool.and_eq_true] at this ⊢
    exact ⟨rfl, this.2⟩
  refine good_of g.p g.q e3 rfl (by show (ms.map sheetD).length = _; rw [List.length_map, g.d.ml]) fun k hk => ?_
  have hk2 : k < ms.length := by rw [g.d.ml]; exact hk
  have h1 : ms[k]? = some ms[k] := List.getElem?_eq_getElem hk2
  have h2 : atD (.tuple (ms.map sheetD)) k = sheetD ms[k] := atD_get (by
    show (ms.map sheetD)[k]? = _
    rw [List.getElem?_map, h1] <;> rfl)
  unfold matOk
  have n1 : ∀ u, szL (.tuple (ss.map natD)) u = szL (.list (ss.map natD)) u := fun u => rfl
  rw [h2, n1, n1, nats_sz, nats_sz]
  exact mat_is (g.d.mo k _ h1)
theorem twin_fit (g : Good x q ss ms) : FitM (.tuple (ms.map sheetD)) := by
  have f := draft_fitM g.d g.p g.q (Nat.le_refl _)
  exact ⟨f.len, f.sub⟩
theorem sameRow_comm (y : Str) (p : Int) (ts : List Nat) (ns : List (List (List Int))) : sameRow x q ss ms y p ts ns = sameRow y p ts ns x q ss ms := by
  unfold sameRow
  rw [decide_eq_decide.mpr (show (x = y) ↔ (y = x) from eq_comm), decide_eq_decide.mpr (show (q = p) ↔ (p = q) from eq_comm), decide_eq_decide.mpr (show (ss = ts) ↔ (ts = ss) from eq_comm), decide_eq_decide.mpr (show (ms = ns) ↔ (ns = ms) from eq_comm)]
theorem sameRow_self : sameRow x q ss ms x q ss ms = true := by
  unfold sameRow
  rw [decide_eq_true rfl, decide_eq_true rfl, decide_eq_true rfl, decide_eq_true rfl] <;> rfl
/-- a row with sizes 0 alone -/
theorem zero_good (px : Pat x 6) (hq : q ∈ primesL) : Good x q (List.replicate (x.length + 1) 0) (List.replicate x.length []) := by
  refine ⟨⟨List.length_replicate, fun s hs => by rw [List.eq_of_mem_replicate hs]; omega, List.length_replicate, fun i m hm => ?_⟩, px, hq⟩
  have hi := (List.getElem?_eq_some_iff.mp hm)
  obtain ⟨l, e⟩ := hi
  rw [List.getElem_replicate] at e
  subst e
  have z : ∀ j : Nat, (List.replicate (x.length + 1) 0)[j]?.getD 0 = 0 := fun j => by
    rw [List.getElem?_replicate]
    split <;> rfl
  rw [z, z]
  exact ⟨rfl, fun r hr => nomatch hr⟩
end
theorem draft_rd {H : Hp} {p D : Addr} {x : Str} {q : Int} {ss : List Nat} {ms : List (List (List Int))} (a : Any (del H p) (.ref D) (draftD x q ss ms)) : ∃ v2 v3, H D = some (.lst [.str x, .int q, v2, v3]) ∧ Any H v2 (.list (ss.map natD)) ∧ Any H v3 (mapsD ms) ∧ Any H (.ref D) (draftD x q ss ms) := by
  obtain ⟨dp, v0, v1, v2, v3, e0, ed, a0, a1, a2, a3⟩ := any_list4 a
  cases e0
  cases a0
  cases a1
  exact ⟨v2, v3, (dl_at ed).2, a2.keep same_del, a3.keep same_del, a.keep same_del⟩
theorem bars_len {n : Nat} (h : n ≤ 7) : (barsL n).length ≤ 49 := by
  have h1 := pre_len n n
  have h3 : n * n ≤ 7 * 7 := Nat.mul_le_mul h h
  exact Nat.le_trans h1 h3
theorem pat_is {x : Str} (px : Pat x 6) : isPatD (.str x) = true := by
  show (decide (x.length ≤ 6) && x.cps.toList.all isArr) = true
  rw [decide_eq_true px.l, px.a] <;> rfl
/-! ### bars -/
theorem eqv_bar (a b : Nat × Nat) : PyData.eqv (barD a) (barD b) = decide (a = b) := by
  obtain ⟨a1, a2⟩ := a
  obtain ⟨b1, b2⟩ := b
  unfold barD
  rw [PyData.eqv, PyData.eqvAll, PyData.eqvAll, PyData.eqvAll, Bool.and_true]
  have h1 := eqv_nat a1 b1
  have h2 := eqv_nat a2 b2
  unfold natD at h1 h2
  rw [h1, h2]
  by_cases e1 : a1 = b1
  · by_cases e2 : a2 = b2
    · rw [decide_eq_true e1, decide_eq_true e2, decide_eq_true (by rw [e1, e2])] <;> rfl
    · rw [decide_eq_true e1, decide_eq_false e2, decide_eq_false (fun z => e2 (Prod.mk.inj z).2)] <;> rfl
  · rw [decide_eq_false e1, decide_eq_false (fun z => e1 (Prod.mk.inj z).1), Bool.false_and]
theorem same_bars {K : PySem.W.Frag} {H : Hp} {v u : V} {l : List (Nat × Nat)} {Q : VK} (a : Any H v (.list (l.map barD))) (b : Any H u (.list (l.map barD))) (k : Q (.bl false) H) : rNeD K v u H Q := by
  have c : (PyData.list (l.map barD)).canLay0 = true := lay_list fun d hd => by
    obtain ⟨z, _, rfl⟩ := List.mem_map.mp hd
    refine lay_tup fun e he => ?_
    rcases List.mem_cons.mp he with y | he
    · rw [y]; first | rfl | simp only [PyData.canLay0]
    · rw [List.mem_singleton.mp he]
      first | rfl | simp only [PyData.canLay0]
  have dp : (PyData.list (l.map barD)).depth ≤ 64 := by
    have : PyData.depthAll (l.map barD) ≤ 20 := dep_le fun d hd => by
      obtain ⟨z, _, rfl⟩ := List.mem_map.mp hd
      have : PyData.depthAll [.int (z.1 : Nat), .int (z.2 : Nat)] ≤ 3 := dep_le fun e he => by
        rcases List.mem_cons.mp he with y | he
        · rw [y]; exact dep_int _
        · rw [List.mem_singleton.mp he]
          exact dep_int _
      unfold barD
      simp only [PyData.depth]
      omega
    simp only [PyData.depth]
    omega
  refine ne_two a b c c dp dp ?_
  rw [PyData.eqv, eqvAll_map barD eqv_bar, decide_eq_true rfl]
  exact k
/-! ### what was handed in is changed -/
structure GAt (H0 H1 : Hp) (G : Addr) (acc : List V) : Prop where
  nd : acc.Nodup
  s : ∀ v, v ∈ acc → ∃ b rs, v = .ref b ∧ H0 b = none ∧ b ≠ G ∧ H1 b = some (.lst rs) ∧ ∀ r, r ∈ rs → r ∉ acc ∧ ∃ c xs, r = .ref c ∧ H0 c = none ∧ c ≠ G ∧ H1 c = some (.lst xs) ∧ xs.length ≤ 1000
theorem gat_of {H0 H1 : Hp} {G : Addr} {acc : List V} {ws : List (List (List Int))} (al : AnyL (del (nw H0 H1) G) acc (ws.map sheetL)) (ap : Ap H1 acc) (sm : ∀ w, w ∈ ws → ∀ r, r ∈ w → r.length ≤ 1000) : GAt H0 H1 G acc := ⟨ap.1, fun v hv => by
  obtain ⟨b, rs, w, rfl, hw, eb, al2⟩ := sheets_mem al v hv
  obtain ⟨h1, h2, h3⟩ := dnw_at eb
  refine ⟨b, rs, rfl, h1, h3, h2, fun r hr => ⟨ap.2 b rs hv h2 r hr, ?_⟩⟩
  obtain ⟨c, e, rfl, he, ec⟩ := rows_mem al2 r hr
  obtain ⟨c1, c2, c3⟩ := dnw_at ec
  exact ⟨c, _, rfl, c1, c3, c2, by rw [List.length_map]; exact sm w hw e he⟩⟩
structure MI (H0 H1 Hs : Hp) (p G : Addr) (N : Nat) (acc : List V) (i L : Nat) (H : Hp) : Prop where
  g : Grow p H0 H
  b : Bx H p N
  c : H G = some (.lst acc)
  t : Lt Hs H
  e : ∀ j b rs, i ≤ j → acc[j]? = some (.ref b) → H1 b = some (.lst rs) → H b = some (.lst rs)
  f : ∀ b rs r c, V.ref b ∈ acc → H1 b = some (.lst rs) → r ∈ rs → r = .ref c → ∃ xs, H c = some (.lst xs) ∧ xs.length ≤ L
section
variable {H0 H1 Hs H : Hp} {p G : Addr} {N i L : Nat} {acc : List V} {o : HO}
theorem MI.row {b c : Addr} {rs xs : List V} {y : V} (g : GAt H0 H1 G acc) (hp : H0 p = some o) (m : MI H0 H1 Hs p G N acc i L H) (hb : V.ref b ∈ acc) (eb : H1 b = some (.lst rs)) (hc : V.ref c ∈ rs) (ec : H c = some (.lst xs)) (lx : xs.length ≤ L) : MI H0 H1 Hs p G N acc i (L + 1) (upd H c (.lst (xs ++ [y]))) := by
  obtain ⟨b', rs', e1, h1, h2, h3, h4⟩ := g.s _ hb
  cases e1
  rw [eb] at h3
  cases h3
  obtain ⟨n1, c', xs', e2, c0, cG, _⟩ := h4 _ hc
  cases e2
  have cp : p ≠ c := fun z => by rw [← z, hp] at c0; cases c0
  refine ⟨fun d u ne e => ?_, bx_on m.b fun u e => by rw [upd_ne cp]; exact e, by rw [upd_ne cG.symm]; exact m.c, m.t.trans (Lt.put ec), fun j d ds hj hd ed => ?_, fun d ds r u hd ed hr er => ?_⟩
  · rw [upd_ne (ne_of_none e c0)]
    exact m.g d u ne e
  · have : d ≠ c := fun z => n1 (by rw [← z]; exact List.mem_of_getElem? hd)
    rw [upd_ne this]
    exact m.e j d ds hj hd ed
  · obtain ⟨zs, e5, l5⟩ := m.f d ds r u hd ed hr er
    by_cases z : u = c
    · rw [z]
      exact ⟨_, upd_same, by rw [List.length_append]; show xs.length + 1 ≤ _; omega⟩
    · exact ⟨zs, by rw [upd_ne z]; exact e5, by omega⟩
theorem MI.mono {L' : Nat} (m : MI H0 H1 Hs p G N acc i L H) (h : L ≤ L') : MI H0 H1 Hs p G N acc i L' H := ⟨m.g, m.b, m.c, m.t, m.e, fun b rs r c hb eb hr er => by
  obtain ⟨xs, e, l⟩ := m.f b rs r c hb eb hr er
  exact ⟨xs, e, by omega⟩⟩
theorem MI.sheet {b : Addr} {rs : List V} {y : V} (g : GAt H0 H1 G acc) (hp : H0 p = some o) (m : MI H0 H1 Hs p G N acc i L H) (hb : acc[i]? = some (.ref b)) (eb : H b = some (.lst rs)) : MI H0 H1 Hs p G N acc (i + 1) L (upd H b (.lst (rs ++ [y]))) := by
  have hm := List.mem_of_getElem? hb
  obtain ⟨b', rs', e1, h1, h2, h3, h4⟩ := g.s _ hm
  cases e1
  have bp : p ≠ b := fun z => by rw [← z, hp] at h1; cases h1
  refine ⟨fun d u ne e => ?_, bx_on m.b fun u e => by rw [upd_ne bp]; exact e, by rw [upd_ne h2.symm]; exact m.c, m.t.trans (Lt.put eb), fun j d ds hj hd ed => ?_, fun d ds r u hd ed hr er => ?_⟩
  · rw [upd_ne (ne_of_none e h1)]
    exact m.g d u ne e
  · have : d ≠ b := fun z => by
      rw [z] at hd
      have := nodup_inj g.nd hd hb
      omega
    rw [upd_ne this]
    exact m.e j d ds (by omega) hd ed
  · obtain ⟨d', ds', e5, _, _, e6, h7⟩ := g.s _ hd
    cases e5
    rw [ed] at e6
    cases e6
    have n1 := (h7 r hr).1
    obtain ⟨zs, e5, l5⟩ := m.f d ds r u hd ed hr er
    have : u ≠ b := fun z => n1 (by rw [er, z]; exact hm)
    exact ⟨zs, by rw [upd_ne this]; exact e5, l5⟩
end
end Rw

set_option Elab.async false
set_option linter.all false
set_option maxRecDepth 100000
set_option maxHeartbeats 4000000
/-! TkFA: a row with one arrow and one place more. -/
namespace Rw
open PySem PySem.Spec PyProof.Rows L2
theorem lenT (x : Str) : x.cps.toList.length = x.length := Array.length_toList
theorem catT_list (x y : Str) : (x ++ y).cps.toList = x.cps.toList ++ y.cps.toList := by
  show (x.cps ++ y.cps).toList = _
  rw [Array.toList_append]
theorem catT_len (x y : Str) : (x ++ y).length = x.length + y.length := by
  rw [← lenT, catT_list, List.length_append, lenT, lenT]
/-- the sign of an arrow that leads on -/
def arrS (r : Bool) : Str := if r = true then ">" else "<"
theorem arrS_list (r : Bool) : (arrS r).cps.toList = [if r = true then 62 else 60] := by cases r <;> rfl
theorem arrS_len (r : Bool) : (arrS r).length = 1 := by cases r <;> rfl
theorem more_len (x : Str) (r : Bool) : (x ++ arrS r).length = x.length + 1 := by rw [catT_len, arrS_len]
theorem more_old {x : Str} {r : Bool} {i : Nat} (h : i < x.length) : isR (x ++ arrS r) i = isR x i := by
  unfold isR
  rw [catT_list, List.getElem?_append_left (by rw [lenT]; exact h)]
theorem more_new (x : Str) (r : Bool) : isR (x ++ arrS r) x.length = r := by
  unfold isR
  rw [catT_list, List.getElem?_append_right (by rw [lenT]; exact Nat.le_refl _), lenT, Nat.sub_self, arrS_list]
  cases r <;> rfl
theorem more_st {x : Str} {r : Bool} {i : Nat} (h : i < x.length) : stA (x ++ arrS r) i = stA x i ∧ goA (x ++ arrS r) i = goA x i := by
  unfold stA goA
  rw [more_old h]
  exact ⟨rfl, rfl⟩
theorem more_pat {x : Str} {r : Bool} (p : Pat x 6) (h : x.length < 6) : Pat (x ++ arrS r) 6 := by
  refine ⟨by rw [more_len]; omega, ?_⟩
  rw [catT_list, List.all_append, p.a, arrS_list]
  cases r <;> rfl
/-- the last size, and the measures that one more arrow asks for -/
def lastS (ss : List Nat) : Nat := ss[ss.length - 1]?.getD 0
def highS (r : Bool) (ss : List Nat) (n : Nat) : Nat := if r = true then lastS ss else n
def wideS (r : Bool) (ss : List Nat) (n : Nat) : Nat := if r = true then n else lastS ss
def moreSz (ss : List Nat) (n : Nat) : PyData := .tuple (ss.map natD ++ [natD n])
def moreMp (ms : List (List (List Int))) (d : PyData) : PyData := .list (ms.map sheetD ++ [d])
theorem sz_old {ss : List Nat} {n j : Nat} (h : j < ss.length) : szL (moreSz ss n) j = ((ss[j]?.getD 0 : Nat) : Int) := by
  unfold szL atD
  show intN ((ss.map natD ++ [natD n])[j]?.getD .none) = _
  rw [List.getElem?_append_left (by rw [List.length_map]; exact h), List.getElem?_map]
  cases ss[j]? <;> rfl
theorem sz_new {ss : List Nat} {n : Nat} : szL (moreSz ss n) ss.length = (n : Int) := by
  unfold szL atD
  show intN ((ss.map natD ++ [natD n])[ss.length]?.getD .none) = _
  rw [List.getElem?_append_right (by rw [List.length_map]; exact Nat.le_refl _), List.length_map, Nat.sub_self] <;> rfl
theorem more_good {x : Str} {q : Int} {ss : List Nat} {ms : List (List (List Int))} {r : Bool} {n : Nat} {d : PyData} (g : Good x q ss ms) (h : x.length < 6) (hn : n ≤ 6) :
    isPatD (.str (x ++ arrS r)) = true ∧ isPr (.int q) = true ∧ sizesOk (x ++ arrS r).length (moreSz ss n) = true ∧ mapsOk (x ++ arrS r).length (moreMp ms d) = true ∧
    badAt (x ++ arrS r) (moreSz ss n) (moreMp ms d) = (if isMatD (highS r ss n : Nat) (wideS r ss n : Nat) d = true then none else some x.length) ∧ atD (moreMp ms d) x.length = d := by
  have pm := more_pat (r := r) g.p h
  have l1 : ss.length = x.length + 1 := g.d.sl
  have l2 : ms.length = x.length := g.d.ml
  have e6 : atD (moreMp ms d) x.length = d := by
    unfold atD
    show ((ms.map sheetD ++ [d])[x.length]?).getD .none = d
    rw [List.getElem?_append_right (by rw [List.length_map, l2]; exact Nat.le_refl _), List.length_map, l2, Nat.sub_self] <;> rfl
  refine ⟨?_, decide_eq_true g.q, ?_, ?_, ?_, e6⟩
  · show (decide ((x ++ arrS r).length ≤ 6) && (x ++ arrS r).cps.toList.all isArr) = true
    rw [decide_eq_true pm.l, pm.a] <;> rfl
  · unfold sizesOk
    rw [Bool.and_eq_true, Bool.and_eq_true]
    refine ⟨rfl, decide_eq_true (by show (ss.map natD ++ [natD n]).length = _; rw [List.length_append, List.length_map, l1, more_len] <;> rfl), List.all_eq_true.mpr fun e he => ?_⟩
    obtain ⟨s, hs, rfl⟩ : ∃ s, s ≤ 6 ∧ e = natD s := by
      rcases List.mem_append.mp he with z | z
      · obtain ⟨s, hs, rfl⟩ := List.mem_map.mp z
        exact ⟨s, g.d.sb s hs, rfl⟩
      · exact ⟨n, hn, List.mem_singleton.mp z⟩
    show (decide ((0 : Int) ≤ (s : Nat)) && decide (((s : Nat) : Int) ≤ 6)) = true
    rw [Bool.and_eq_true]
    exact ⟨decide_eq_true (by omega), decide_eq_true (by omega)⟩
  · unfold mapsOk
    rw [Bool.and_eq_true]
    exact ⟨rfl, decide_eq_true (by show (ms.map sheetD ++ [d]).length = _; rw [List.length_append, List.length_map, l2, more_len] <;> rfl)⟩
  · have old : ∀ j, j < x.length → matOk (x ++ arrS r) (moreSz ss n) (moreMp ms d) j = true := fun j hj => by
      obtain ⟨s1, s2⟩ := more_st (r := r) hj
      have hj2 : j < ms.length := by rw [l2]; exact hj
      have h1 : ms[j]? = some ms[j] := List.getElem?_eq_getElem hj2
      have ed : atD (moreMp ms d) j = sheetD ms[j] := by
        unfold atD
        show ((ms.map sheetD ++ [d])[j]?).getD .none = _
        rw [List.getElem?_append_left (by rw [List.length_map]; exact hj2), List.getElem?_map, h1] <;> rfl
      have a1 := stA_le x j
      have a2 := goA_le x j
      unfold matOk
      rw [s1, s2, sz_old (by omega), sz_old (by omega), ed]
      exact mat_is (g.d.mo j _ h1)
    have new : matOk (x ++ arrS r) (moreSz ss n) (moreMp ms d) x.length = isMatD (highS r ss n : Nat) (wideS r ss n : Nat) d := by
      have el : lastS ss = ss[x.length]?.getD 0 := by unfold lastS; rw [l1, Nat.add_sub_cancel]
      unfold matOk stA goA highS wideS
      rw [e6, more_new]
      cases r with
      | true =>
        rw [if_pos rfl, if_pos rfl, if_pos rfl, if_pos rfl, sz_old (j := x.length) (by omega), el, show x.length + 1 = ss.length by omega, sz_new]
      | false =>
        rw [if_neg (by decide), if_neg (by decide), if_neg (by decide), if_neg (by decide), sz_old (j := x.length) (by omega), el, show x.length + 1 = ss.length by omega, sz_new]
    cases e : isMatD (highS r ss n : Nat) (wideS r ss n : Nat) d with
    | true =>
      rw [if_pos rfl]
      refine bad_none fun j hj => ?_
      rw [more_len] at hj
      by_cases hj2 : j < x.length
      · exact old j hj2
      · rw [show j = x.length by omega, new, e]
    | false =>
      rw [if_neg (by decide)]
      exact bad_some (by rw [more_len]; omega) (by rw [new, e]) old
end Rw

set_option Elab.async false
set_option linter.all false
set_option maxRecDepth 100000
set_option maxHeartbeats 4000000
/-! TkDA: vectors mixed, matrices joined and exchanged: the promises. -/
namespace Rw
open PySem PySem.Spec PyProof.Rows L2
def spWid : Sp := fun vs H Q _ => ∃ v d w, vs = [v, .int w] ∧ Any H v d ∧ Fit d ∧ ∀ H', Same H H' → Q (.bl (isMatD (itemsD d).length w d)) H'
def intD : PyData → Int
  | .int n => n | _ => 0
def cellD (e : PyData) (c : Nat) : Int := intD ((itemsD e)[c]?.getD .none)
def prodsL (dv dm : PyData) (c : Nat) : List Int := ((itemsD dv).zip (itemsD dm)).map fun q => intD q.1 * cellD q.2 c
/-- the sum of rows, each times its factor -/
def mixL (p : Int) (dv dm : PyData) (w : Nat) : List Int := (List.range w).map fun c => (prodsL dv dm c).sum.fmod p
def colL (p : Int) (dm : PyData) (c : Nat) : List Int := (itemsD dm).map fun e => (cellD e c).fmod p
def spMixed : Sp := fun vs H Q _ => ∃ (p : Int) (va vm : V) (dv dm : PyData) (w : Nat), vs = [.int p, va, vm, .int (w : Int)] ∧ p ≠ 0 ∧ Any H va dv ∧ Any H vm dm ∧ Fit1 dv ∧ Fit dm ∧ isVecD (itemsD dm).length dv = true ∧ isMatD (itemsD dm).length w dm = true ∧ w ≤ 1000 ∧
  ∀ t H', H t = none → Same H H' → H' t = some (.tup ((mixL p dv dm w).map V.int)) → Q (.ref t) H'
def spLed (CP CV CM : Addr) : Sp := fun vs H Q E => ∃ (pv va vm : V) (dp dv dm : PyData) (w : Nat), vs = [pv, va, vm, .int (w : Int)] ∧ Any H pv dp ∧ Any H va dv ∧ Any H vm dm ∧ Fit dv ∧ Fit dm ∧ w ≤ 1000 ∧
  (isPr dp = false → Thrown CP pv H E) ∧ (isPr dp = true → isVecD (itemsD dv).length dv = false → Thrown CV va H E) ∧
  (isPr dp = true → isVecD (itemsD dv).length dv = true → isMatD (itemsD dv).length w dm = false → Thrown CM vm H E) ∧
  (∀ p, dp = .int p → p ∈ primesL → isVecD (itemsD dv).length dv = true → isMatD (itemsD dv).length w dm = true → ∀ t H', H t = none → Same H H' → H' t = some (.tup ((mixL p dv dm w).map V.int)) → Q (.ref t) H')
def spJoined (CP CM : Addr) : Sp := fun vs H Q E => ∃ (pv va vm : V) (dp dv dm : PyData) (w : Nat), vs = [pv, va, vm, .int (w : Int)] ∧ Any H pv dp ∧ Any H va dv ∧ Any H vm dm ∧ Fit dv ∧ Fit dm ∧ w ≤ 1000 ∧
  (isPr dp = false → Thrown CP pv H E) ∧ (isPr dp = true → isMatD (itemsD dm).length w dm = false → Thrown CM vm H E) ∧
  (isPr dp = true → isMatD (itemsD dm).length w dm = true → isMatD (itemsD dv).length (itemsD dm).length dv = false → Thrown CM va H E) ∧
  (∀ p, dp = .int p → p ∈ primesL → isMatD (itemsD dm).length w dm = true → isMatD (itemsD dv).length (itemsD dm).length dv = true → ∀ l acc H', H l = none → Same H H' → H' l = some (.lst acc) → AnyL (del H' l) acc ((itemsD dv).map fun e => tupI (mixL p e dm w)) → Q (.ref l) H')
def spExch (CP CM : Addr) : Sp := fun vs H Q E => ∃ (pv vm : V) (dp dm : PyData) (w : Nat), vs = [pv, vm, .int (w : Int)] ∧ Any H pv dp ∧ Any H vm dm ∧ Fit dm ∧ w ≤ 1000 ∧
  (isPr dp = false → Thrown CP pv H E) ∧ (isPr dp = true → isMatD (itemsD dm).length w dm = false → Thrown CM vm H E) ∧
  (∀ p, dp = .int p → p ∈ primesL → isMatD (itemsD dm).length w dm = true → ∀ l acc H', H l = none → Same H H' → H' l = some (.lst acc) → AnyL (del H' l) acc ((List.range w).map fun c => tupI (colL p dm c)) → Q (.ref l) H')
theorem pr_int {d : PyData} (e : isPr d = true) : ∃ p, d = .int p ∧ p ∈ primesL := by
  cases d with
  | int n => exact ⟨n, rfl, of_decide_eq_true e⟩
  | _ => cases e
theorem mulW_ok {a b : Int} (h1 : a.natAbs.log2 < 400) (h2 : b.natAbs.log2 < 400) : CMulW a b := by
  show a.natAbs.log2 + b.natAbs.log2 < 1000000
  omega
/-- the sums of the first rows, each times its factor -/
def totL (dv dm : PyData) (w i : Nat) : List Int := (List.range w).map fun c => ((prodsL dv dm c).take i).sum
theorem totL_len (dv dm : PyData) (w i : Nat) : (totL dv dm w i).length = w := by
  unfold totL
  rw [List.length_map, List.length_range]
theorem totL_at {dv dm : PyData} {w i c : Nat} (h : c < w) : (totL dv dm w i)[c]? = some ((prodsL dv dm c).take i).sum := by
  unfold totL
  rw [List.getElem?_map, List.getElem?_range h] <;> rfl
theorem tot_succ {dv dm : PyData} {i c : Nat} {x : Int} (h : (prodsL dv dm c)[i]? = some x) : ((prodsL dv dm c).take (i + 1)).sum = ((prodsL dv dm c).take i).sum + x := by
  rw [List.take_add_one, h]
  simp
theorem totL_zero (dv dm : PyData) (w : Nat) : (totL dv dm w 0).map V.int = (List.replicate w [V.int 0]).flatten := by
  have h : ∀ w, (List.replicate w [V.int 0]).flatten = List.replicate w (V.int 0) := fun w => by simp
  rw [h]
  unfold totL
  rw [List.map_map]
  apply List.ext_getElem
  · simp
  · intro j h1 h2
    simp
end Rw

set_option Elab.async false
set_option linter.all false
set_option maxRecDepth 100000
set_option maxHeartbeats 4000000
/-! TkFB: the promises about one map more. -/
namespace Rw
open PySem PySem.Spec PyProof.Rows L2
def isArD : PyData → Bool
  | .str z => decide (z = ">") || decide (z = "<")
  | _ => false
theorem arD_of {d : PyData} (h : isArD d = true) : ∃ r, d = .str (arrS r) := by
  cases d with
  | str z =>
    have h2 : (decide (z = ">") || decide (z = "<")) = true := h
    rw [Bool.or_eq_true, decide_eq_true_iff, decide_eq_true_iff] at h2
    rcases h2 with e | e
    · exact ⟨true, by rw [e] <;> rfl⟩
    · exact ⟨false, by rw [e] <;> rfl⟩
  | _ => cases h
theorem arD_is (r : Bool) : isArD (.str (arrS r)) = true := by cases r <;> decide
theorem arr_tab2 {v1 v2 : Value} (z : Str) : (lookS [(">", v1), ("<", v2)] z).isSome = isArD (.str z) := by
  unfold lookS
  show _ = (decide (z = ">") || decide (z = "<"))
  by_cases h1 : z = ">"
  · subst h1
    simp
  · by_cases h2 : z = "<"
    · subst h2
      simp
    · have h3 : ¬ ((">" : String) : Str) = z := fun e => h1 e.symm
      have h4 : ¬ (("<" : String) : Str) = z := fun e => h2 e.symm
      simp [h1, h2, h3, h4]
def spCSize (CS : Addr) : Sp := fun vs H Q E => ∃ v d, vs = [v] ∧ Any H v d ∧ (isSzD d = true → Q .non H) ∧ (isSzD d = false → Thrown CS v H E)
def spCArrow (CW CG : Addr) : Sp := fun vs H Q E => ∃ x v d, vs = [.str x, v] ∧ x.length ≤ 6 ∧ Any H v d ∧ (isArD d = false → Thrown CW v H E) ∧ (isArD d = true → x.length = 6 → Thrown CG (.int 7) H E) ∧ (isArD d = true → x.length < 6 → Q .non H)
def spGrow (C CW CG CS CM : Addr) : Sp := fun vs H Q E => ∃ a va vn vm x p ss ms da dn dm, vs = [.ref a, va, vn, vm] ∧ RowOf C H a x p ss ms ∧ Good x p ss ms ∧ Any H va da ∧ Any H vn dn ∧ Any H vm dm ∧ Fit dm ∧
  (isArD da = false → Thrown CW va H E) ∧ (isArD da = true → x.length = 6 → Thrown CG (.int 7) H E) ∧ (isArD da = true → x.length < 6 → isSzD dn = false → Thrown CS vn H E) ∧
  (∀ r (n : Nat) v H1, da = .str (arrS r) → x.length < 6 → dn = natD n → n ≤ 6 → isMatD (highS r ss n : Nat) (wideS r ss n : Nat) dm = false → Same H H1 → Any H1 v dm → Thrown CM v H1 E) ∧
  ∀ r (n : Nat) o H', da = .str (arrS r) → x.length < 6 → dn = natD n → n ≤ 6 → isMatD (highS r ss n : Nat) (wideS r ss n : Nat) dm = true → H o = none → Same H H' →
    RowAt C H' o (x ++ arrS r) p ((ss ++ [n]).map natD) (ms.map (fun m => m.map tupI) ++ [rowsM p dm]) → Q (.ref o) H'
theorem sz_of {d : PyData} (h : isSzD d = true) : ∃ n : Nat, d = natD n ∧ n ≤ 6 := by
  cases d with
  | int i =>
    have h2 : (decide ((0 : Int) ≤ i) && decide (i ≤ 6)) = true := h
    rw [Bool.and_eq_true] at h2
    have a1 := of_decide_eq_true h2.1
    have a2 := of_decide_eq_true h2.2
    exact ⟨i.toNat, by show PyData.int i = .int (i.toNat : Nat); rw [Int.toNat_of_nonneg a1], by omega⟩
  | _ => cases h
end Rw

set_option Elab.async false
set_option linter.all false
set_option maxRecDepth 100000
set_option maxHeartbeats 4000000
/-! TkFC: xs[::s] with s 1 or -1; drawn vectors and rows with great numbers. -/
namespace Rw
open PySem PySem.Spec PyProof.Rows L2
theorem pick_one (items : Array Value) : slicePick items none none (some 1) = items := by
  have e : sliceBounds none none (none : Option Int) items.size = (((0 : Nat) : Int), ((items.size : Nat) : Int), 1) := by
    unfold sliceBounds
    simp
  show slicePick items none none none = items
  rw [PySem.W.kmk_pick_nat items e]
  have h : items.toList.length = items.size := Array.length_toList
  rw [List.drop_zero, Nat.sub_zero, ← h, List.take_length]
def tStepL (K : PySem.W.Frag) (te ts : TE) : TE := fun σ H Q => te σ H fun x H1 => tPart ts σ H1 fun z H2 => ∃ (a : Addr) (xs : List V) (r : Bool), x = .ref a ∧ SqL K H2 a xs ∧ z = some (if r = true then -1 else 1) ∧ ∀ p, H2 p = none → Q (.ref p) (upd H2 p (.lst (if r = true then xs.reverse else xs)))
theorem pe_stepL {X : Cx} {e st : PySem.Expr} {te ts : TE} {p3 pos : Pos} (he : PE X e te) (hs : PE X st ts)
    (hq : ∀ (a b : Addr), subscripted (.Slice none none (some st) p3) false (.ref a) (.ref b) = operate [.ref a, .ref b] (getItem (.ref a) (.ref b)) := by intros; with_unfolding_all rfl) : PE X (.Subscript e (.Slice none none (some st) p3) pos) (tStepL X.K te ts) := by
  refine ⟨fun pins s σ H Q I h => ?_⟩
  refine Subscript_ (thn (he.run pins s σ H _ I h) fun v s1 ⟨x, H1, I1, r1, q1⟩ => ?_)
  have hst : PO X (some st) (tPart ts) := po_some hs
  refine wpAny_Slice (thn (po_none.run pins s1 σ H1 (fun o H2 => o = none ∧ H2 = H1) I1 ⟨rfl, rfl⟩) fun vl s2 ⟨l, H2, I2, pl, el, e2⟩ => ?_)
  subst el e2
  refine thn (po_none.run pins s2 σ H2 (fun o H3 => o = none ∧ H3 = H2) I2 ⟨rfl, rfl⟩) fun vu s3 ⟨u, H3, I3, pu, eu, e3⟩ => ?_
  subst eu e3
  refine thn (hst.run pins s3 σ H3 _ I3 q1) fun vs s4 ⟨o, H4, I4, ps, a, xs, r, ex, hx, eo, q⟩ => ?_
  subst ex eo
  cases r1
  have I5 : Inv X pins σ H4 { s4 with heap := s4.heap.push { cls := .type "slice", data := .fields #[vl, vu, vs] } } := I4.kept (t' := s4.toks) fun b ob q => Heap.get?_push_of_some _ q
  obtain ⟨its, rr, ht, hz⟩ := I5.list hx
  have hlen := rr.length
  show wpAny (model X.prog X.w) X.A (subscriptTail e (.Slice none none (some st) p3) (.ref a) (.ref s4.heap.objs.size)) (EP X pins σ Q) X.xe { s4 with heap := s4.heap.push { cls := .type "slice", data := .fields #[vl, vu, vs] } }
  refine tail_any (ops := [.ref a, .ref s4.heap.objs.size]) ht.isList.typeIs (PySem.slot_list_getitem.lookup) ?_ (hq _ _)
  refine wpAny_getItem_list_slice ht.isList (Heap.IsSliceOf.new _ vl vu vs) pl pu ps (by cases r <;> decide) ?_ (by rw [List.size_toArray]; omega)
  cases r with
  | true =>
    rw [if_pos rfl, PySem.W.krv_pick]
    refine ⟨.ref _, _, I5.laid (t' := s4.toks) (o := .lst xs.reverse) (fun b ob q => Heap.get?_push_of_some _ q) (Nat.le_refl _) ?_, rfl, q _ (I5.hok.fresh (Nat.le_refl _))⟩
    exact ⟨by rw [List.length_reverse]; exact hz, _, 0, rr.reverse, Heap.get?_push_size _ rfl⟩
  | false =>
    rw [if_neg (by decide), pick_one]
    refine ⟨.ref _, _, I5.laid (t' := s4.toks) (o := .lst xs) (fun b ob q => Heap.get?_push_of_some _ q) (Nat.le_refl _) ?_, rfl, q _ (I5.hok.fresh (Nat.le_refl _))⟩
    exact ⟨hz, _, 0, rr, Heap.get?_push_size _ rfl⟩
end Rw

set_option Elab.async false
set_option linter.all false
set_option maxRecDepth 100000
set_option maxHeartbeats 4000000
/-! TkFD: drawn vectors and webs, with great numbers; the row of a web. -/
namespace Rw
open PySem PySem.Spec PyProof.Rows L2
def Big (e : Int) : Prop := e.natAbs < 10 ^ 29
structure BigM (k w : Nat) (m : List (List Int)) : Prop where
  h : m.length = k
  w : ∀ r, r ∈ m → r.length = w ∧ ∀ e, e ∈ r → Big e
structure Web (x : Str) (q : Int) (high : Nat) (ss : List Nat) (ms : List (List (List Int))) : Prop where
  sl : ss.length = x.length + 1
  sb : ∀ s, s ∈ ss → s ≤ high
  ml : ms.length = x.length
  mo : ∀ i m, ms[i]? = some m → BigM (ss[stA x i]?.getD 0) (ss[goA x i]?.getD 0) m
def spDigit : Sp := fun vs H Q _ => ∃ (p : Addr) (q : Int) (n : Nat), vs = [.ref p, .int q] ∧ q ∈ primesL ∧ Bx H p n ∧ n ≤ 900000 ∧ ∀ e H', Big e → Grow p H H' → Bx H' p (n + 3) → Q (.int e) H'
def spVecs : Sp := fun vs H Q _ => ∃ (p : Addr) (q : Int) (w k n : Nat), vs = [.ref p, .int q, .int (w : Nat), .int (k : Nat)] ∧ q ∈ primesL ∧ w ≤ 6 ∧ k ≤ 6 ∧ Bx H p n ∧ n ≤ 850000 ∧
  ∀ l acc m H', H l = none → Grow p H H' → Bx H' p (n + 300) → H' l = some (.lst acc) → AnyL H' acc (m.map tupI) → BigM k w m → Q (.ref l) H'
def spWeb : Sp := fun vs H Q _ => ∃ (p : Addr) (most high n : Nat), vs = [.ref p, .int (most : Nat), .int (high : Nat)] ∧ most ≤ 6 ∧ high ≤ 6 ∧ Bx H p n ∧ n ≤ 800000 ∧
  ∀ l x q ss ms H', Web x q high ss ms → Pat x most → q ∈ primesL → Grow p H H' → Bx H' p (n + 3000) → Any (del H' p) (.ref l) (draftD x q ss ms) → Q (.ref l) H'
def spMade (C : Addr) : Sp := fun vs H Q _ => ∃ v x q high ss ms, vs = [v] ∧ Any H v (draftD x q ss ms) ∧ Web x q high ss ms ∧ Pat x 6 ∧ q ∈ primesL ∧ high ≤ 6 ∧ ∀ a H', H a = none → Same H H' → RowOf C H' a x q ss (ms.map (redM q)) → Q (.ref a) H'
def spShape : Sp := fun vs H Q _ => ∃ (r : Bool) (a b : Nat), vs = [.str (arrS r), .int (a : Nat), .int (b : Nat)] ∧ ∀ t H', Same H H' → H' t = some (.tup [.int ((if r = true then a else b : Nat) : Int), .int ((if r = true then b else a : Nat) : Int)]) → Q (.ref t) H'
theorem tups_lt {H H' : Hp} {acc : List V} {m : List (List Int)} (a : AnyL H acc (m.map tupI)) (k : Lt H H') : AnyL H' acc (m.map tupI) := anyL_lt k _ _ a (noLs_of fun d hd => by
  obtain ⟨r, _, rfl⟩ := List.mem_map.mp hd
  exact noL_tupI r)
theorem grow_lt {p : Addr} {H H' : Hp} {n : Nat} (b : Bx H p n) (g : Grow p H H') : Lt H H' := fun c o e nl => by
  obtain ⟨xs, hp⟩ := bx_at b
  exact g c o (fun z => by rw [z, hp] at e; exact nl xs (Option.some.inj e).symm) e
theorem tup_row {H : Hp} {acc : List V} {m : List (List Int)} {j : Nat} (a : AnyL H acc (m.map tupI)) (h : j < m.length) : ∃ t r, acc[j]? = some (.ref t) ∧ r ∈ m ∧ H t = some (.tup (r.map V.int)) := by
  have hl := anyL_len a
  rw [List.length_map] at hl
  have h2 : acc[j]? = some acc[j] := List.getElem?_eq_getElem (by omega)
  obtain ⟨d, hd, ad⟩ := anyL_at a h2
  rw [List.getElem?_map, List.getElem?_eq_getElem h] at hd
  cases Option.some.inj hd
  generalize acc[j] = v at ad h2
  cases ad with
  | tup e al => exact ⟨_, _, h2, List.getElem_mem h, by rw [e, anyL_ints al]⟩
theorem big_sm {e : Int} (h : Big e) : smallB (.int e) = true := decide_eq_true (Nat.lt_trans h (by decide))
theorem bigM_sheet {k w : Nat} {m : List (List Int)} (b : BigM k w m) (hk : k ≤ 6) (hw : w ≤ 6) (f : List Int → PyData) (hf : ∀ r, f r = .tuple (r.map .int) ∨ f r = .list (r.map .int)) : SheetT (.list (m.map f)) := by
  refine sheet_list (by rw [List.length_map, b.h]; exact hk) fun d hd => ?_
  obtain ⟨r, hr, rfl⟩ := List.mem_map.mp hd
  obtain ⟨h1, h2⟩ := b.w r hr
  have cell : ∀ d, d ∈ r.map PyData.int → Cell d := fun d hd => by
    obtain ⟨e, he, rfl⟩ := List.mem_map.mp hd
    exact cell_int (Nat.lt_trans (h2 e he) (by decide))
  have lr : (r.map PyData.int).length ≤ 6 := by rw [List.length_map, h1]; exact hw
  rcases hf r with z | z
  · rw [z]
    exact ⟨tm_tup lr fun d hd => (cell d hd).tm, fit1_of (ds := r.map PyData.int) rfl (by omega) fun d hd => (cell d hd).sm, rfl⟩
  · rw [z]
    exact row_list lr cell
theorem isMat_f {k w : Nat} {m : List (List Int)} (h : m.length = k) (hw : ∀ r, r ∈ m → r.length = w) (f : List Int → PyData) (hf : ∀ r, f r = .tuple (r.map .int) ∨ f r = .list (r.map .int)) : isMatD (k : Nat) (w : Nat) (.list (m.map f)) = true := by
  unfold isMatD
  rw [Bool.and_eq_true, Bool.and_eq_true]
  refine ⟨rfl, decide_eq_true (by show (((m.map f).length : Nat) : Int) = _; rw [List.length_map, h]), List.all_eq_true.mpr fun d hd => ?_⟩
  obtain ⟨r, hr, rfl⟩ := List.mem_map.mp hd
  have key : isSeqD (f r) = true ∧ itemsD (f r) = r.map .int := by
    rcases hf r with z | z <;> rw [z] <;> exact ⟨rfl, rfl⟩
  unfold isVecD
  rw [Bool.and_eq_true, Bool.and_eq_true, key.1, key.2]
  refine ⟨rfl, decide_eq_true (by rw [List.length_map, hw r hr]), List.all_eq_true.mpr fun e he => ?_⟩
  obtain ⟨n, _, rfl⟩ := List.mem_map.mp he
  rfl
theorem rows_redF (q : Int) (m : List (List Int)) (f : List Int → PyData) (hf : ∀ r, f r = .tuple (r.map .int) ∨ f r = .list (r.map .int)) : rowsM q (.list (m.map f)) = (redM q m).map tupI := by
  unfold rowsM redM redR tupI
  show (m.map f).map _ = _
  rw [List.map_map, List.map_map]
  refine List.map_congr_left fun r _ => ?_
  have key : itemsD (f r) = r.map .int := by rcases hf r with z | z <;> rw [z] <;> rfl
  show PyData.tuple ((itemsD (f r)).map (modD q)) = .tuple ((r.map fun e => e.fmod q).map .int)
  rw [key, List.map_map, List.map_map] <;> rfl
theorem tupI_or (r : List Int) : tupI r = .tuple (r.map .int) ∨ tupI r = .list (r.map .int) := .inl rfl
theorem red_mat {q : Int} {k w : Nat} {m : List (List Int)} (hq : q ∈ primesL) (b : BigM k w m) : MatOk q k w (redM q m) := by
  have pp := prime_pos hq
  refine ⟨by unfold redM; rw [List.length_map, b.h], fun r hr => ?_⟩
  unfold redM at hr
  obtain ⟨r0, h0, rfl⟩ := List.mem_map.mp hr
  unfold redR
  refine ⟨by rw [List.length_map]; exact (b.w r0 h0).1, fun e he => ?_⟩
  obtain ⟨e0, _, rfl⟩ := List.mem_map.mp he
  rw [fmod_pos (by omega)]
  exact ⟨Int.emod_nonneg _ (by omega), Int.emod_lt_of_pos _ (by omega)⟩
theorem web_red {x : Str} {q : Int} {high : Nat} {ss : List Nat} {ms : List (List (List Int))} (w : Web x q high ss ms) (p : Pat x 6) (hq : q ∈ primesL) (h6 : high ≤ 6) : Good x q ss (ms.map (redM q)) := by
  refine ⟨⟨w.sl, fun s hs => Nat.le_trans (w.sb s hs) h6, by rw [List.length_map]; exact w.ml, fun i m hm => ?_⟩, p, hq⟩
  rw [List.getElem?_map] at hm
  cases e : ms[i]? with
  | none => rw [e] at hm; cases hm
  | some m0 =>
    rw [e] at hm
    cases Option.some.inj hm
    exact red_mat hq (w.mo i m0 e)
theorem web_le {x : Str} {q : Int} {high : Nat} {ss : List Nat} {ms : List (List (List Int))} (w : Web x q high ss ms) (j : Nat) : ss[j]?.getD 0 ≤ high := get_le w.sb j
theorem web_good {x : Str} {q : Int} {high : Nat} {ss : List Nat} {ms : List (List (List Int))} (d : Web x q high ss ms) (px : Pat x 6) (hq : q ∈ primesL) (m6 : high ≤ 6) : rowGood x q (.list (ss.map natD)) (.list (ms.map sheetD)) = true := by
  unfold rowGood
  have e1 : isPatD (.str x) = true := by
    show (decide (x.length ≤ 6) && x.cps.toList.all isArr) = true
    rw [decide_eq_true px.l, px.a] <;> rfl
  have e2 : isPr (.int q) = true := decide_eq_true hq
  have e3 : mapsOk x.length (.list (ms.map sheetD)) = true := by
    unfold mapsOk
    rw [Bool.and_eq_true]
    exact ⟨rfl, decide_eq_true (by show (ms.map sheetD).length = _; rw [List.length_map, d.ml])⟩
  have e4 : badAt x (.list (ss.map natD)) (.list (ms.map sheetD)) = none := bad_none fun j hj => by
    have hj2 : j < ms.length := by rw [d.ml]; exact hj
    have h1 : ms[j]? = some ms[j] := List.getElem?_eq_getElem hj2
    unfold matOk
    rw [draft_at h1, nats_sz, nats_sz]
    have b := d.mo j _ h1
    exact isMat_f b.h (fun r hr => (b.w r hr).1) tupI tupI_or
  rw [e1, e2, nats_ok d.sl (fun s hs => Nat.le_trans (d.sb s hs) m6), e3, e4] <;> rfl
theorem web_rows {q : Int} {ms : List (List (List Int))} : (itemsD (.list (ms.map sheetD))).map (rowsM q) = (ms.map (redM q)).map fun m => m.map tupI := by
  show (ms.map sheetD).map (rowsM q) = _
  rw [List.map_map, List.map_map]
  exact List.map_congr_left fun m _ => rows_redF q m tupI tupI_or
theorem web_sheet {x : Str} {q : Int} {high : Nat} {ss : List Nat} {ms : List (List (List Int))} (d : Web x q high ss ms) (m6 : high ≤ 6) : ∀ e, e ∈ ms.map sheetD → SheetT e := by
  intro e he
  obtain ⟨m, hm, rfl⟩ := List.mem_map.mp he
  obtain ⟨i, hi⟩ := List.getElem?_of_mem hm
  exact bigM_sheet (d.mo i m hi) (Nat.le_trans (web_le d _) m6) (Nat.le_trans (web_le d _) m6) tupI tupI_or
theorem web_fitM {x : Str} {q : Int} {high : Nat} {ss : List Nat} {ms : List (List (List Int))} (d : Web x q high ss ms) (px : Pat x 6) (m6 : high ≤ 6) : FitM (.list (ms.map sheetD)) :=
  ⟨by show (ms.map sheetD).length ≤ _; rw [List.length_map, d.ml]; have := px.l; omega, fun e he => (web_sheet d m6 e he).f⟩
theorem digit_big {q a : Int} {c : Int} (hq : q ∈ primesL) (a0 : 0 ≤ a) (a1 : a < q) (h : c.natAbs ≤ 10 ^ 27) : Big (a + q * c) := by
  have pp := prime_pos hq
  unfold Big
  have h1 : (q * c).natAbs = q.natAbs * c.natAbs := Int.natAbs_mul q c
  have h2 : (a + q * c).natAbs ≤ a.natAbs + (q * c).natAbs := Int.natAbs_add_le a (q * c)
  have h3 : q.natAbs * c.natAbs ≤ 13 * 10 ^ 27 := Nat.mul_le_mul (by omega) h
  have h4 : (10 : Nat) ^ 29 = 100 * 10 ^ 27 := by decide
  omega
theorem arrT_at {x : Str} {m i : Nat} (p : Pat x m) (h : i < x.length) : ∃ c, x.cps.toList[i]? = some c ∧ isArr c = true := by
  have h2 : i < x.cps.toList.length := by rw [lenT]; exact h
  exact ⟨_, List.getElem?_eq_getElem h2, List.all_eq_true.mp p.a _ (List.getElem_mem h2)⟩
theorem signT_eq {x : Str} {i c : Nat} (h : x.cps.toList[i]? = some c) (a : isArr c = true) : decide (V.str ⟨#[c]⟩ = V.str "<") = !isR x i := by
  have e : isR x i = (c == 62) := by
    unfold isR
    rw [h] <;> rfl
  have h2 : c = 62 ∨ c = 60 := by
    have : (c == 62 || c == 60) = true := a
    simpa using this
  rw [e]
  rcases h2 with z | z <;> subst z <;> decide
end Rw

set_option Elab.async false
set_option linter.all false
set_option maxRecDepth 100000
set_option maxHeartbeats 4000000
/-! TkFE: what is due where one map more is refused; the odd things. -/
namespace Rw
open PySem PySem.Spec PyProof.Rows L2
def isGt : PyData → Bool
  | .str z => decide (z = ">")
  | _ => false
def growDue (x : Str) (ss : List Nat) (da dn dm : PyData) : PyData :=
  if isArD da = true then (if x.length = 6 then wD "large" (.int 7) else if isSzD dn = true then (if isMatD (highS (isGt da) ss (intN dn).toNat : Nat) (wideS (isGt da) ss (intN dn).toNat : Nat) dm = true then .list [.str "told"] else wD "matrix" dm) else wD "size" dn) else wD "arrow" da
theorem isGt_arrS (r : Bool) : isGt (.str (arrS r)) = r := by cases r <;> decide
def spGrowC (C : Addr) : Sp := fun vs H Q _ => ∃ a va vn vm x p ss ms da dn dm, vs = [.ref a, va, vn, vm] ∧ RowOf C H a x p ss ms ∧ Good x p ss ms ∧ Any H va da ∧ Any H vn dn ∧ Any H vm dm ∧ Fit dm ∧ ∀ l H', H l = none → Same H H' → Any H' (.ref l) (growDue x ss da dn dm) → Q (.ref l) H'
def spRefusedG (C : Addr) : Sp := fun vs H Q _ => ∃ v a x p ss ms, ∃ (r : Bool) (n : Nat), vs = [v, .ref a, .str (arrS r), .int (n : Nat)] ∧ RowOf C H a x p ss ms ∧ Good x p ss ms ∧ n ≤ 6 ∧ ∀ H', Same H H' → Q (.bl true) H'
theorem atI_neg1 {α : Type} {xs : List α} {v : α} (h : xs[xs.length - 1]? = some v) : atI xs (-1) = some v := by
  have hne : xs ≠ [] := fun z => by rw [z] at h; cases h
  have e : xs = xs.dropLast ++ [v] := by
    have h2 := List.dropLast_concat_getLast hne
    rw [List.getLast_eq_getElem] at h2
    have hl : xs.length - 1 < xs.length := Nat.sub_lt (List.length_pos_iff.mpr hne) (by decide)
    rw [List.getElem?_eq_getElem hl] at h
    rw [← Option.some.inj h]
    exact h2.symm
  rw [e]
  exact atI_last _ _
theorem flat_one {α : Type} (v : α) : ∀ k : Nat, (List.replicate k [v]).flatten = List.replicate k v
  | 0 => rfl
  | k + 1 => by
    rw [List.replicate_succ, List.flatten_cons, flat_one v k, List.replicate_succ] <;> rfl
/-! ### small things -/
def fitB (d : PyData) : Bool := decide ((itemsD d).length ≤ 1000) && (itemsD d).all fun e => smallB e && (decide ((itemsD e).length ≤ 1000) && (itemsD e).all smallB)
theorem fit_ofB {d : PyData} (h : fitB d = true) : Fit d := by
  unfold fitB at h
  rw [Bool.and_eq_true, decide_eq_true_iff, List.all_eq_true] at h
  obtain ⟨h1, h2⟩ := h
  have h3 : ∀ e ∈ itemsD d, smallB e = true ∧ (itemsD e).length ≤ 1000 ∧ ∀ x ∈ itemsD e, smallB x = true := fun e he => by
    have := h2 e he
    rw [Bool.and_eq_true, Bool.and_eq_true, decide_eq_true_iff, List.all_eq_true] at this
    exact ⟨this.1, this.2.1, this.2.2⟩
  exact ⟨fit1_of rfl h1 fun x hx => (h3 x hx).1, fun e he => fit1_of rfl (h3 e he).2.1 (h3 e he).2.2⟩
def tqB (n : Nat) (d : PyData) : Bool := d.showable && (decide (d.depth ≤ 3 + n) && decide (d.shown.length ≤ 80 * 13 ^ n))
theorem tq_ofB {n : Nat} {d : PyData} (h : tqB n d = true) : Tq n d := by
  unfold tqB at h
  rw [Bool.and_eq_true, Bool.and_eq_true, decide_eq_true_iff, decide_eq_true_iff] at h
  exact ⟨h.1, h.2.1, h.2.2⟩
def oddArrs : List PyData := [.none, .int 3, .str "", .str "><", .str ">>", .str "x", .list [.str ">"], .bool true, .dict [], .str " >"]
theorem oddArrs_ok : ∀ d ∈ oddArrs, isArD d = false ∧ Tq 1 d ∧ Fit d := by
  have c : ∀ d ∈ oddArrs, isArD d = false ∧ tqB 1 d = true ∧ fitB d = true := by decide +kernel
  intro d hd
  obtain ⟨h1, h2, h3⟩ := c d hd
  exact ⟨h1, tq_ofB h2, fit_ofB h3⟩
def oddSzs : List PyData := [.none, .int (-1), .int 7, .bool true, .str "2", .list [.int 2], .int (10 ^ Int.toNat 29)]
theorem oddSzs_ok : ∀ d ∈ oddSzs, isSzD d = false ∧ Tq 1 d ∧ Fit d := by
  have c : ∀ d ∈ oddSzs, isSzD d = false ∧ tqB 1 d = true ∧ fitB d = true := by decide +kernel
  intro d hd
  obtain ⟨h1, h2, h3⟩ := c d hd
  exact ⟨h1, tq_ofB h2, fit_ofB h3⟩
def zeroR (w : Nat) : List Int := List.replicate w 0
def zeroM (h w : Nat) : List (List Int) := List.replicate h (zeroR w)
def oddM1 (h w : Nat) : List PyData := [.none, .int 3, .str "0", .dict [], .bool true, .list ((zeroM h w).map tupI ++ [tupI (zeroR w)]), .list (List.replicate (h + 1) (tupI (zeroR (w + 1))))]
def oddM2 (h w : Nat) : List PyData := [.list ((zeroM (h - 1) w).map tupI), .list (List.replicate h .none), .list (List.replicate h (.tuple (List.replicate (max 1 w) (.bool true)))), .list ((zeroM (h - 1) w).map tupI ++ [.tuple ((zeroR w).map .int ++ [.str "0"])])]
theorem oddM1_ok {h w : Nat} (hh : h ≤ 6) (hw : w ≤ 6) : ∀ d ∈ oddM1 h w, isMatD h w d = false ∧ Tq 2 d ∧ Fit d := by
  have c : ∀ h ∈ List.range 7, ∀ w ∈ List.range 7, ∀ d ∈ oddM1 h w, isMatD h w d = false ∧ tqB 2 d = true ∧ fitB d = true := by decide +kernel
  intro d hd
  obtain ⟨h1, h2, h3⟩ := c h (List.mem_range.mpr (by omega)) w (List.mem_range.mpr (by omega)) d hd
  exact ⟨h1, tq_ofB h2, fit_ofB h3⟩
theorem oddM2_ok {h w : Nat} (h0 : 0 < h) (hh : h ≤ 6) (hw : w ≤ 6) : ∀ d ∈ oddM2 h w, isMatD h w d = false ∧ Tq 2 d ∧ Fit d := by
  have c : ∀ h ∈ List.range 7, 0 < h → ∀ w ∈ List.range 7, ∀ d ∈ oddM2 h w, isMatD h w d = false ∧ tqB 2 d = true ∧ fitB d = true := by decide +kernel
  intro d hd
  obtain ⟨h1, h2, h3⟩ := c h (List.mem_range.mpr (by omega)) h0 w (List.mem_range.mpr (by omega)) d hd
  exact ⟨h1, tq_ofB h2, fit_ofB h3⟩
theorem anyL_rep {H : Hp} {v : V} {d : PyData} (a : Any H v d) : ∀ k : Nat, AnyL H (List.replicate k v) (List.replicate k d)
  | 0 => .nil
  | k + 1 => .cons a (anyL_rep a k)
theorem any_zero {H : Hp} {t : Addr} {w : Nat} (h : H t = some (.tup (List.replicate w (.int 0)))) : Any H (.ref t) (tupI (zeroR w)) := .tup h (by
  unfold zeroR
  rw [List.map_replicate]
  exact anyL_rep (.int 0) w)
end Rw

set_option Elab.async false
set_option linter.all false
set_option maxRecDepth 100000
set_option maxHeartbeats 4000000
/-! TkFF: a matrix handed in as lists and tuples; the web with one map more. -/
namespace Rw
open PySem PySem.Spec PyProof.Rows L2
/-- rows of numbers, each a list or a tuple -/
inductive Like : List PyData → List (List Int) → Prop
  | nil : Like [] []
  | cons {d : PyData} {r : List Int} {ds : List PyData} {m : List (List Int)} : d = tupI r ∨ d = lstI r → Like ds m → Like (d :: ds) (r :: m)
theorem Like.snoc {ds : List PyData} {m : List (List Int)} {d : PyData} {r : List Int} (a : Like ds m) (h : d = tupI r ∨ d = lstI r) : Like (ds ++ [d]) (m ++ [r]) := by
  induction a with
  | nil => exact .cons h .nil
  | cons k _ ih => exact .cons k ih
theorem Like.len {ds : List PyData} {m : List (List Int)} (a : Like ds m) : ds.length = m.length := by
  induction a with
  | nil => rfl
  | cons k _ ih => rw [List.length_cons, List.length_cons, ih]
theorem Like.mem {ds : List PyData} {m : List (List Int)} (a : Like ds m) : ∀ d, d ∈ ds → ∃ r, r ∈ m ∧ (d = tupI r ∨ d = lstI r) := by
  induction a with
  | nil => intro d hd; cases hd
  | cons k _ ih =>
    intro d hd
    rcases List.mem_cons.mp hd with z | z
    · rw [z]; exact ⟨_, List.mem_cons_self, k⟩
    · obtain ⟨r, hr, h⟩ := ih d z
      exact ⟨r, List.mem_cons_of_mem _ hr, h⟩
theorem like_tups : ∀ m : List (List Int), Like (m.map tupI) m
  | [] => .nil
  | r :: m => .cons (.inl rfl) (like_tups m)
theorem like_items {d : PyData} {r : List Int} (h : d = tupI r ∨ d = lstI r) : isSeqD d = true ∧ itemsD d = r.map .int := by
  rcases h with z | z <;> rw [z] <;> exact ⟨rfl, rfl⟩
theorem like_row {k w : Nat} {m : List (List Int)} {d : PyData} {r : List Int} (b : BigM k w m) (hw : w ≤ 6) (hr : r ∈ m) (h : d = tupI r ∨ d = lstI r) : RowT d := by
  obtain ⟨h1, h2⟩ := b.w r hr
  have cell : ∀ d, d ∈ r.map PyData.int → Cell d := fun d hd => by
    obtain ⟨e, he, rfl⟩ := List.mem_map.mp hd
    exact cell_int (Nat.lt_trans (h2 e he) (by decide))
  have lr : (r.map PyData.int).length ≤ 6 := by rw [List.length_map, h1]; exact hw
  rcases h with z | z
  · rw [z]
    exact ⟨tm_tup lr fun d hd => (cell d hd).tm, fit1_of (ds := r.map PyData.int) rfl (by omega) fun x hx => (cell x hx).sm, rfl⟩
  · rw [z]
    exact row_list lr cell
theorem like_sheet {k w : Nat} {m : List (List Int)} {ds : List PyData} (a : Like ds m) (b : BigM k w m) (hk : k ≤ 6) (hw : w ≤ 6) : SheetT (.list ds) ∧ SheetT (.tuple ds) := by
  have l : ds.length ≤ 6 := by rw [a.len, b.h]; exact hk
  have h : ∀ d, d ∈ ds → RowT d := fun d hd => by
    obtain ⟨r, hr, z⟩ := a.mem d hd
    exact like_row b hw hr z
  exact ⟨sheet_list l h, sheet_tup l h⟩
theorem like_isMat {k w : Nat} {m : List (List Int)} {ds : List PyData} {D : PyData} (a : Like ds m) (b : BigM k w m) (s : isSeqD D = true) (i : itemsD D = ds) : isMatD (k : Nat) (w : Nat) D = true := by
  unfold isMatD
  rw [i, Bool.and_eq_true, Bool.and_eq_true]
  refine ⟨s, decide_eq_true (by rw [a.len, b.h]), List.all_eq_true.mpr fun d hd => ?_⟩
  obtain ⟨r, hr, z⟩ := a.mem d hd
  obtain ⟨h1, h2⟩ := like_items z
  unfold isVecD
  rw [Bool.and_eq_true, Bool.and_eq_true, h1, h2]
  refine ⟨rfl, decide_eq_true (by rw [List.length_map, (b.w r hr).1]), List.all_eq_true.mpr fun e he => ?_⟩
  obtain ⟨n, _, rfl⟩ := List.mem_map.mp he
  rfl
theorem like_rowsL {q : Int} {m : List (List Int)} {ds : List PyData} (a : Like ds m) : ds.map (fun r => PyData.tuple ((itemsD r).map (modD q))) = (redM q m).map tupI := by
  induction a with
  | nil => rfl
  | @cons d r ds m k _ ih =>
    obtain ⟨_, h2⟩ := like_items k
    show PyData.tuple ((itemsD d).map (modD q)) :: ds.map (fun r => PyData.tuple ((itemsD r).map (modD q))) = tupI (redR q r) :: (redM q m).map tupI
    rw [ih, h2, List.map_map]
    unfold tupI redR
    rw [List.map_map] <;> rfl
theorem like_rows {q : Int} {m : List (List Int)} {ds : List PyData} {D : PyData} (a : Like ds m) (i : itemsD D = ds) : rowsM q D = (redM q m).map tupI := by
  unfold rowsM
  rw [i]
  exact like_rowsL a
/-- the web with one map more -/
theorem more_web {x : Str} {q : Int} {ss : List Nat} {ms : List (List (List Int))} {r : Bool} {n : Nat} {m : List (List Int)} (w : Web x q 3 ss ms) (n6 : n ≤ 6) (b : BigM (highS r ss n) (wideS r ss n) m) : Web (x ++ arrS r) q 6 (ss ++ [n]) (ms ++ [m]) := by
  have l1 := w.sl
  have l2 := w.ml
  refine ⟨by rw [List.length_append, more_len, l1] <;> rfl, fun s hs => ?_, by rw [List.length_append, more_len, l2] <;> rfl, fun i m' hi => ?_⟩
  · rcases List.mem_append.mp hs with z | z
    · exact Nat.le_trans (w.sb s z) (by decide)
    · rw [List.mem_singleton.mp z]; exact n6
  · have old : ∀ j, j ≤ x.length → (ss ++ [n])[j]?.getD 0 = ss[j]?.getD 0 := fun j hj => by rw [List.getElem?_append_left (by omega)]
    have new : (ss ++ [n])[x.length + 1]?.getD 0 = n := by
      rw [List.getElem?_append_right (by omega), l1, Nat.sub_self] <;> rfl
    by_cases h : i < x.length
    · obtain ⟨s1, s2⟩ := more_st (r := r) h
      rw [s1, s2, old _ (by have := stA_le x i; omega), old _ (by have := goA_le x i; omega)]
      rw [List.getElem?_append_left (by omega)] at hi
      exact w.mo i m' hi
    · have hlt := (List.getElem?_eq_some_iff.mp hi).1
      rw [List.length_append, List.length_cons, List.length_nil, l2] at hlt
      have ei : i = x.length := by omega
      subst ei
      rw [List.getElem?_append_right (by omega), l2, Nat.sub_self] at hi
      cases Option.some.inj hi
      have el : lastS ss = ss[x.length]?.getD 0 := by unfold lastS; rw [l1, Nat.add_sub_cancel]
      have e1 : (ss ++ [n])[stA (x ++ arrS r) x.length]?.getD 0 = highS r ss n := by
        unfold stA highS
        rw [more_new]
        cases r with
        | true => rw [if_pos rfl, if_pos rfl, old _ (Nat.le_refl _), el]
        | false => rw [if_neg (by decide), if_neg (by decide), new]
      have e2 : (ss ++ [n])[goA (x ++ arrS r) x.length]?.getD 0 = wideS r ss n := by
        unfold goA wideS
        rw [more_new]
        cases r with
        | true => rw [if_pos rfl, if_pos rfl, new]
        | false => rw [if_neg (by decide), if_neg (by decide), old _ (Nat.le_refl _), el]
      rw [e1, e2]
      exact b
theorem last_le {ss : List Nat} {k : Nat} (h : ∀ s, s ∈ ss → s ≤ k) : lastS ss ≤ k := get_le h _
theorem high_le {ss : List Nat} {n : Nat} {r : Bool} (h : ∀ s, s ∈ ss → s ≤ 3) (hn : n ≤ 6) : highS r ss n ≤ 6 := by
  have := last_le h
  unfold highS
  split <;> omega
theorem wide_le {ss : List Nat} {n : Nat} {r : Bool} (h : ∀ s, s ∈ ss → s ≤ 3) (hn : n ≤ 6) : wideS r ss n ≤ 6 := by
  have := last_le h
  unfold wideS
  split <;> omega
theorem same_row (x : Str) (q : Int) (ss : List Nat) (ms : List (List (List Int))) : sameRow x q ss ms x q ss ms = true := by
  unfold sameRow
  rw [decide_eq_true rfl, decide_eq_true rfl, decide_eq_true rfl, decide_eq_true rfl] <;> rfl
/-- the whole of a text, cut -/
theorem cut_all (x : Str) : cutS x (some ((0 : Nat) : Int)) (some ((x.length : Nat) : Int)) = x := by
  unfold cutS
  rw [HT.sIx_nat, HT.sIx_nat, Nat.min_self, Nat.zero_min, Nat.sub_zero, List.drop_zero, List.take_of_length_le (by rw [lenT]; exact Nat.le_refl _)]
theorem cut_more (x y : Str) : cutS (x ++ y) (some ((0 : Nat) : Int)) (some ((x.length : Nat) : Int)) = x := by
  unfold cutS
  have e1 : min x.length (x ++ y).length = x.length := by rw [catT_len]; omega
  rw [HT.sIx_nat, HT.sIx_nat, e1, Nat.zero_min, Nat.sub_zero, List.drop_zero, catT_list, ← lenT x, List.take_left']
  rfl
theorem arrS_inj {a b : Bool} (h : arrS a = arrS b) : a = b := by
  cases a <;> cases b <;> first | rfl | (exfalso; revert h; decide)
theorem szD_nat {n : Nat} (h : n ≤ 6) : isSzD (natD n) = true := by
  show (decide ((0 : Int) ≤ (n : Nat)) && decide (((n : Nat) : Int) ≤ 6)) = true
  rw [Bool.and_eq_true]
  exact ⟨decide_eq_true (by omega), decide_eq_true (by omega)⟩
theorem two_rows {C a b : Addr} {H : Hp} {x : Str} {q : Int} {ss : List Nat} {ms : List (List (List Int))} {Q : VK} (ra : RowOf C H a x q ss ms) (rb : RowOf C H b x q ss ms) (k : Q (.bl true) H) : rEqO C (spEqR C) (.ref a) (.ref b) H Q := by
  obtain ⟨d1, _, _, e1, _, _⟩ := id ra
  obtain ⟨d2, _, _, e2, _, _⟩ := id rb
  refine ⟨a, d1, _, rfl, e1, .inl ⟨b, d2, _, rfl, e2⟩, a, .ref b, x, q, ss, ms, rfl, ra, .inl ⟨b, x, q, ss, ms, rfl, rb, _, rfl, ?_⟩⟩
  rw [same_row]
  exact k
theorem grown_go {C CW CG CS CM R : Addr} {H : Hp} {x : Str} {q : Int} {ss : List Nat} {ms : List (List (List Int))} {rr : Bool} {n : Nat} {v : V} {D : PyData} {m : List (List Int)} {Q : VK} {E : XK} (ra : RowOf C H R x q ss (ms.map (redM q))) (g : Good x q ss (ms.map (redM q))) (l6 : x.length < 6) (n6 : n ≤ 6) (aD : Any H v D) (fit : Fit D)
    (mat : isMatD (highS rr ss n : Nat) (wideS rr ss n : Nat) D = true) (rows : rowsM q D = (redM q m).map tupI)
    (k : ∀ o H', H o = none → Same H H' → RowOf C H' o (x ++ arrS rr) q (ss ++ [n]) ((ms ++ [m]).map (redM q)) → Q (.ref o) H') : spGrow C CW CG CS CM [.ref R, .str (arrS rr), .int (n : Nat), v] H Q E := by
  have inj : ∀ {r2 : Bool} {n2 : Nat}, PyData.str (arrS rr) = .str (arrS r2) → natD n = natD n2 → r2 = rr ∧ n2 = n := fun e1 e2 => by
    refine ⟨(arrS_inj (PyData.str.inj e1)).symm, ?_⟩
    have := PyData.int.inj e2
    omega
  refine ⟨R, .str (arrS rr), .int (n : Nat), v, x, q, ss, ms.map (redM q), .str (arrS rr), natD n, D, rfl, ra, g, .str _, .int _, aD, fit, fun z => ?_, fun _ z => ?_, fun _ _ z => ?_, fun r2 n2 v2 H1 e1 _ e2 _ z _ _ => ?_, fun r2 n2 o H' e1 _ e2 _ _ ho k1 ro => ?_⟩
  · rw [arD_is] at z; cases z
  · omega
  · rw [szD_nat n6] at z; cases z
  · obtain ⟨rfl, rfl⟩ := inj e1 e2
    rw [mat] at z; cases z
  · obtain ⟨rfl, rfl⟩ := inj e1 e2
    refine k o H' ho k1 ?_
    rw [rows] at ro
    have e : (ms.map (redM q)).map (fun m => m.map tupI) ++ [(redM q m).map tupI] = ((ms ++ [m]).map (redM q)).map fun m => m.map tupI := by
      rw [List.map_append, List.map_append] <;> rfl
    rw [e] at ro
    exact ro
theorem inB_yes {i lo hi : Int} (h1 : lo ≤ i) (h2 : i ≤ hi) : inB (.int i) (.int lo) (.int hi) = true := by
  show (decide (lo ≤ i) && decide (i ≤ hi)) = true
  rw [Bool.and_eq_true]
  exact ⟨decide_eq_true h1, decide_eq_true h2⟩
end Rw

set_option Elab.async false
set_option linter.all false
set_option maxRecDepth 100000
set_option maxHeartbeats 4000000
/-! TkGA: streams: a row with the rows ahead of it and behind it. -/
namespace Rw
open PySem PySem.Spec PyProof.Rows L2
structure Dr where
  x : Str
  q : Int
  ss : List Nat
  ms : List (List (List Int))
def Dr.D (d : Dr) : PyData := draftD d.x d.q d.ss d.ms
abbrev RowD (C : Addr) (H : Hp) (a : Addr) (d : Dr) : Prop := RowOf C H a d.x d.q d.ss d.ms
abbrev GoodD (d : Dr) : Prop := Good d.x d.q d.ss d.ms
inductive RowsL (C : Addr) (H : Hp) : List V → List Dr → Prop
  | nil : RowsL C H [] []
  | cons {a : Addr} {d : Dr} {vs : List V} {ds : List Dr} : RowD C H a d → RowsL C H vs ds → RowsL C H (.ref a :: vs) (d :: ds)
theorem RowsL.len {C : Addr} {H : Hp} {vs : List V} {ds : List Dr} (h : RowsL C H vs ds) : vs.length = ds.length := by
  induction h with
  | nil => rfl
  | cons _ _ ih => rw [List.length_cons, List.length_cons, ih]
theorem RowsL.move {C : Addr} {H H' : Hp} {vs : List V} {ds : List Dr} (k : ∀ a d, RowD C H a d → RowD C H' a d) (h : RowsL C H vs ds) : RowsL C H' vs ds := by
  induction h with
  | nil => exact .nil
  | cons r _ ih => exact .cons (k _ _ r) ih
theorem RowsL.app {C : Addr} {H : Hp} {vs us : List V} {ds es : List Dr} (h : RowsL C H vs ds) (g : RowsL C H us es) : RowsL C H (vs ++ us) (ds ++ es) := by
  induction h with
  | nil => exact g
  | cons r _ ih => exact .cons r ih
theorem RowsL.one {C a : Addr} {H : Hp} {d : Dr} (r : RowD C H a d) : RowsL C H [.ref a] [d] := .cons r .nil
theorem RowsL.split {C : Addr} {H : Hp} {d : Dr} : ∀ {ds : List Dr} {vs : List V}, RowsL C H vs (ds ++ [d]) → ∃ us a, vs = us ++ [.ref a] ∧ RowsL C H us ds ∧ RowD C H a d
  | [], _, h => by
    cases h with
    | cons r t =>
      cases t
      exact ⟨[], _, rfl, .nil, r⟩
  | e :: ds, _, h => by
    cases h with
    | cons r t =>
      obtain ⟨us, a, rfl, h1, h2⟩ := RowsL.split (ds := ds) t
      exact ⟨_ :: us, a, rfl, .cons r h1, h2⟩
/-- the rows ahead (the oldest first), the present one, the rows behind (the one due next first) -/
structure St where
  past : List Dr
  here : Dr
  later : List Dr
def St.D (s : St) : PyData := .list [.list (s.past.map Dr.D), s.here.D, .list (s.later.map Dr.D)]
structure GoodS (n : Nat) (s : St) : Prop where
  p : ∀ d, d ∈ s.past → GoodD d
  h : GoodD s.here
  l : ∀ d, d ∈ s.later → GoodD d
  n : s.past.length + s.later.length ≤ n
def Str0 (D : Addr) (H : Hp) (a dx R tp tu : Addr) : Prop := H a = some (.ins D dx [("_row", .ref R), ("_past", .ref tp), ("_undone", .ref tu)])
structure StrIn (D C : Addr) (H : Hp) (a dx R tp tu : Addr) (ps us : List V) (s : St) : Prop where
  o : Str0 D H a dx R tp tu
  r : RowD C H R s.here
  ep : H tp = some (.tup ps)
  p : RowsL C H ps s.past
  eu : H tu = some (.tup us)
  u : RowsL C H us s.later.reverse
def StrAt (D C : Addr) (H : Hp) (a : Addr) (s : St) : Prop := ∃ dx R tp tu ps us, StrIn D C H a dx R tp tu ps us s
theorem StrAt.keep {D C a : Addr} {H H' : Hp} {s : St} (h : StrAt D C H a s) (k : Same H H') : StrAt D C H' a s := by
  obtain ⟨dx, R, tp, tu, ps, us, i⟩ := h
  exact ⟨dx, R, tp, tu, ps, us, k _ _ i.o, i.r.keep k, k _ _ i.ep, i.p.move fun _ _ r => RowAt.keep r k, k _ _ i.eu, i.u.move fun _ _ r => RowAt.keep r k⟩
theorem StrAt.lt {D C a : Addr} {H H' : Hp} {s : St} (h : StrAt D C H a s) (k : Lt H H') : StrAt D C H' a s := by
  obtain ⟨dx, R, tp, tu, ps, us, i⟩ := h
  exact ⟨dx, R, tp, tu, ps, us, k _ _ i.o (fun _ z => nomatch z), row_lt i.r k, k _ _ i.ep (fun _ z => nomatch z), i.p.move fun _ _ r => row_lt r k, k _ _ i.eu (fun _ z => nomatch z), i.u.move fun _ _ r => row_lt r k⟩
/-- a row is kept where a stream changes -/
theorem row_go {D C b dx : Addr} {fs : List (Str × V)} {H H' : Hp} (ne : C ≠ D) (e : H b = some (.ins D dx fs)) (g : Grow b H H') {a : Addr} {d : Dr} (r : RowD C H a d) : RowD C H' a d := by
  obtain ⟨dy, ts, tm, h1, h2, h3⟩ := r
  have ab : a ≠ b := fun z => by
    rw [z, e] at h1
    injection Option.some.inj h1 with h4
    exact ne h4.symm
  exact ⟨dy, ts, tm, g _ _ ab h1, h2.keeps (keeps_ins e g), h3.keeps (keeps_ins e g)⟩
theorem StrIn.lasts {D C a b dx R tp tu : Addr} {ps us : List V} {H H' : Hp} {s : St} {dy : Addr} {fs : List (Str × V)} (i : StrIn D C H a dx R tp tu ps us s) (ne : C ≠ D) (e : H b = some (.ins D dy fs)) (g : Grow b H H') : RowD C H' R s.here ∧ H' tp = some (.tup ps) ∧ RowsL C H' ps s.past ∧ H' tu = some (.tup us) ∧ RowsL C H' us s.later.reverse :=
  ⟨row_go ne e g i.r, (keeps_ins e g).t _ _ i.ep, i.p.move fun _ _ r => row_go ne e g r, (keeps_ins e g).t _ _ i.eu, i.u.move fun _ _ r => row_go ne e g r⟩
theorem StrAt.go {D C a b : Addr} {H H' : Hp} {s t : St} (h : StrAt D C H a s) (h2 : StrAt D C H b t) (ab : a ≠ b) (ne : C ≠ D) (g : Grow b H H') : StrAt D C H' a s := by
  obtain ⟨dx, R, tp, tu, ps, us, i⟩ := h
  obtain ⟨dy, _, _, _, _, _, j⟩ := h2
  obtain ⟨h1, h2, h3, h4, h5⟩ := i.lasts ne j.o g
  exact ⟨dx, R, tp, tu, ps, us, g _ _ ab i.o, h1, h2, h3, h4, h5⟩
theorem StrAt.keeps {D C a : Addr} {H H' : Hp} {s : St} (h : StrAt D C H a s) (g : Grow a H H') : Keeps H H' := by
  obtain ⟨dx, R, tp, tu, ps, us, i⟩ := h
  exact keeps_ins i.o g
theorem StrAt.ins {D C a : Addr} {H : Hp} {s : St} (h : StrAt D C H a s) : ∃ dx fs, H a = some (.ins D dx fs) := by
  obtain ⟨dx, R, tp, tu, ps, us, i⟩ := h
  exact ⟨_, _, i.o⟩
/-! ### what becomes of a row -/
def newDr (q : Int) (n : Nat) : Dr := ⟨"", q, [n], []⟩
def cutDr (d : Dr) (c : Nat) : Dr := ⟨cutS d.x (some (c : Nat)) (some (d.x.length : Nat)), d.q, d.ss.drop c, d.ms.drop c⟩
def growDr (d : Dr) (r : Bool) (n : Nat) (m : List (List Int)) : Dr := ⟨d.x ++ arrS r, d.q, d.ss ++ [n], d.ms ++ [m]⟩
theorem new_good {q : Int} {n : Nat} (hq : q ∈ primesL) (hn : n ≤ 6) : GoodD (newDr q n) :=
  ⟨⟨rfl, fun s hs => by rw [List.mem_singleton.mp hs]; exact hn, rfl, fun i m h => by simp [newDr] at h⟩, ⟨by show 0 ≤ 6; omega, rfl⟩, hq⟩
theorem cut_parts {d : Dr} {c : Nat} (g : GoodD d) (h : c ≤ d.x.length) : (d.ss.drop c).take (d.x.length + 1 - c) = d.ss.drop c ∧ (d.ms.drop c).take (d.x.length - c) = d.ms.drop c := by
  have h1 := g.d.sl
  have h2 := g.d.ml
  exact ⟨List.take_of_length_le (by rw [List.length_drop]; omega), List.take_of_length_le (by rw [List.length_drop]; omega)⟩
theorem cut_good {d : Dr} {c : Nat} (g : GoodD d) (h : c ≤ d.x.length) : GoodD (cutDr d c) := by
  obtain ⟨e1, e2⟩ := cut_parts g h
  have := part_draft g.d h (Nat.le_refl _)
  rw [e1, e2] at this
  exact ⟨this, cut_pat g.p h (Nat.le_refl _), g.q⟩
theorem cutS_end (x : Str) (c : Nat) : cutS x (some ((c : Nat) : Int)) none = cutS x (some ((c : Nat) : Int)) (some ((x.length : Nat) : Int)) := by
  unfold cutS
  have : HT.sIx x.length x.length (some ((x.length : Nat) : Int)) = x.length := by rw [HT.sIx_nat, Nat.min_self]
  rw [this] <;> rfl
theorem grow_good {d : Dr} {r : Bool} {n : Nat} {m : List (List Int)} (g : GoodD d) (l6 : d.x.length < 6) (n6 : n ≤ 6) (b : MatOk d.q (highS r d.ss n) (wideS r d.ss n) m) : GoodD (growDr d r n m) := by
  obtain ⟨x, q, ss, ms⟩ := d
  have w := g.d
  have l1 : ss.length = x.length + 1 := w.sl
  have l2 : ms.length = x.length := w.ml
  refine ⟨⟨by show (ss ++ [n]).length = (x ++ arrS r).length + 1; rw [List.length_append, more_len, l1] <;> rfl, fun s hs => ?_, by show (ms ++ [m]).length = (x ++ arrS r).length; rw [List.length_append, more_len, l2] <;> rfl, fun i m' hi => ?_⟩, more_pat g.p l6, g.q⟩
  · rcases List.mem_append.mp hs with z | z
    · exact w.sb s z
    · rw [List.mem_singleton.mp z]; exact n6
  · show MatOk q ((ss ++ [n])[stA (x ++ arrS r) i]?.getD 0) ((ss ++ [n])[goA (x ++ arrS r) i]?.getD 0) m'
    have hi : (ms ++ [m])[i]? = some m' := hi
    have old : ∀ j, j ≤ x.length → (ss ++ [n])[j]?.getD 0 = ss[j]?.getD 0 := fun j hj => by rw [List.getElem?_append_left (by omega)]
    have new : (ss ++ [n])[x.length + 1]?.getD 0 = n := by
      rw [List.getElem?_append_right (by omega), l1, Nat.sub_self] <;> rfl
    by_cases h : i < x.length
    · obtain ⟨s1, s2⟩ := more_st (r := r) h
      rw [s1, s2, old _ (st_le2 h), old _ (go_le h)]
      rw [List.getElem?_append_left (by omega)] at hi
      exact w.mo i m' hi
    · have hlt := (List.getElem?_eq_some_iff.mp hi).1
      rw [List.length_append, List.length_cons, List.length_nil, l2] at hlt
      have ei : i = x.length := by omega
      subst ei
      rw [List.getElem?_append_right (by omega), l2, Nat.sub_self] at hi
      cases Option.some.inj hi
      have el : lastS ss = ss[x.length]?.getD 0 := by unfold lastS; rw [l1, Nat.add_sub_cancel]
      have e1 : (ss ++ [n])[stA (x ++ arrS r) x.length]?.getD 0 = highS r ss n := by
        unfold stA highS
        rw [more_new]
        cases r with
        | true => rw [if_pos rfl, if_pos rfl, old _ (Nat.le_refl _), el]
        | false => rw [if_neg (by decide), if_neg (by decide), new]
      have e2 : (ss ++ [n])[goA (x ++ arrS r) x.length]?.getD 0 = wideS r ss n := by
        unfold goA wideS
        rw [more_new]
        cases r with
        | true => rw [if_pos rfl, if_pos rfl, new]
        | false => rw [if_neg (by decide), if_neg (by decide), old _ (Nat.le_refl _), el]
      rw [e1, e2]
      exact b
/-! ### what is promised -/
def spIniS (D C CP CS : Addr) : Sp := fun vs H Q _ => ∃ a dx q n, vs = [.ref a, .int q, .int (n : Nat)] ∧ H a = some (.ins D dx []) ∧ q ∈ primesL ∧ n ≤ 6 ∧ ∀ H', Grow a H H' → StrAt D C H' a ⟨[], newDr q n, []⟩ → Q .non H'
def spDo (D C : Addr) : Sp := fun vs H Q _ => ∃ a R s d, vs = [.ref a, .ref R] ∧ StrAt D C H a s ∧ s.past.length ≤ 100 ∧ RowD C H R d ∧ ∀ H', Grow a H H' → StrAt D C H' a ⟨s.past ++ [s.here], d, []⟩ → Q .non H'
def spGrowM (D C CW CG CS CM : Addr) : Sp := fun vs H Q E => ∃ a va vn vm s da dn dm m, vs = [.ref a, va, vn, vm] ∧ StrAt D C H a s ∧ GoodD s.here ∧ s.past.length ≤ 100 ∧ Any H va da ∧ Any H vn dn ∧ Any H vm dm ∧ Fit dm ∧
  (isArD da = false → Thrown CW va H E) ∧ (isArD da = true → s.here.x.length = 6 → Thrown CG (.int 7) H E) ∧ (isArD da = true → s.here.x.length < 6 → isSzD dn = false → Thrown CS vn H E) ∧
  (∀ r (n : Nat) v H1, da = .str (arrS r) → s.here.x.length < 6 → dn = natD n → n ≤ 6 → isMatD (highS r s.here.ss n : Nat) (wideS r s.here.ss n : Nat) dm = false → Same H H1 → Any H1 v dm → Thrown CM v H1 E) ∧
  ∀ r (n : Nat), da = .str (arrS r) → s.here.x.length < 6 → dn = natD n → n ≤ 6 → isMatD (highS r s.here.ss n : Nat) (wideS r s.here.ss n : Nat) dm = true → rowsM s.here.q dm = m.map tupI ∧ ∀ H', Grow a H H' → StrAt D C H' a ⟨s.past ++ [s.here], growDr s.here r n m, []⟩ → Q .non H'
def spCutM (D C CB : Addr) : Sp := fun vs H Q E => ∃ a v s d, vs = [.ref a, v] ∧ StrAt D C H a s ∧ GoodD s.here ∧ s.past.length ≤ 100 ∧ Any H v d ∧ (inB d (.int 1) (.int (s.here.x.length : Nat)) = false → Thrown CB v H E) ∧
  ∀ c : Nat, d = natD c → 1 ≤ c → c ≤ s.here.x.length → ∀ H', Grow a H H' → StrAt D C H' a ⟨s.past ++ [s.here], cutDr s.here c, []⟩ → Q .non H'
def spUndo (D C CU : Addr) : Sp := fun vs H Q E => ∃ a s, vs = [.ref a] ∧ StrAt D C H a s ∧ s.past.length ≤ 100 ∧ s.later.length ≤ 100 ∧ (s.past = [] → ThrownN CU H E) ∧
  ∀ ps d, s.past = ps ++ [d] → ∀ H', Grow a H H' → StrAt D C H' a ⟨ps, d, s.here :: s.later⟩ → Q .non H'
def spRedo (D C CV : Addr) : Sp := fun vs H Q E => ∃ a s, vs = [.ref a] ∧ StrAt D C H a s ∧ s.past.length ≤ 100 ∧ s.later.length ≤ 100 ∧ (s.later = [] → ThrownN CV H E) ∧
  ∀ d ls, s.later = d :: ls → ∀ H', Grow a H H' → StrAt D C H' a ⟨s.past ++ [s.here], d, ls⟩ → Q .non H'
def spRowS (D C : Addr) : Sp := fun vs H Q _ => ∃ a s, vs = [.ref a] ∧ StrAt D C H a s ∧ ∀ R, RowD C H R s.here → Q (.ref R) H
def spLenS (D C : Addr) : Sp := fun vs H Q _ => ∃ a s, vs = [.ref a] ∧ StrAt D C H a s ∧ s.here.ss.length ≤ 1000 ∧ Q (.int (s.here.ss.length : Nat)) H
def spUndoable (D C : Addr) : Sp := fun vs H Q _ => ∃ a s, vs = [.ref a] ∧ StrAt D C H a s ∧ s.past.length ≤ 100 ∧ Q (.int (s.past.length : Nat)) H
def spRedoable (D C : Addr) : Sp := fun vs H Q _ => ∃ a s, vs = [.ref a] ∧ StrAt D C H a s ∧ s.later.length ≤ 100 ∧ Q (.int (s.later.length : Nat)) H
/-- all but the last of a tuple -/
theorem cut_last {K : PySem.W.Frag} {H : Hp} {a : Addr} {xs : List V} {v : V} {Q : VK} (h : H a = some (.tup (xs ++ [v]))) (q : ∀ p H', Same H H' → H' p = some (.tup xs) → Q (.ref p) H') : rSlA K (.ref a) none (some (-1)) H Q := by
  have l : (xs ++ [v]).length = xs.length + 1 := by rw [List.length_append] <;> rfl
  have e2 : HT.sIx (xs ++ [v]).length (xs ++ [v]).length (some (-1)) = xs.length := by
    rw [l]
    unfold HT.sIx
    simp
    omega
  refine ⟨a, _, rfl, SqT.of h, fun e => ?_, fun _ p hp => q p _ (same_new hp) ?_⟩
  · rw [e2, l] at e
    omega
  · rw [upd_same]
    unfold cutV
    rw [e2]
    have e1 : HT.sIx (xs ++ [v]).length 0 none = 0 := rfl
    rw [e1, List.drop_zero, Nat.sub_zero, List.take_left']
    rfl
end Rw

set_option Elab.async false
set_option linter.all false
set_option maxRecDepth 100000
set_option maxHeartbeats 4000000
/-! TkGB: a method without arguments in a try's body; repr of data of any kind. -/
namespace Rw
open PySem PySem.Spec PyProof.Rows L2
section
variable {X : Cx} {CX : CXT} {C f : Addr} {m : Str} {k : Nat} {fd : FuncData} {ps : List Str} {ds : List Value} {dvs : List V} {sp : Sp} {o : Expr} {ta : TE} {apos pos : Pos}
theorem pe_methS0 {W : WX} {pl : Sem Bool} (he : PE X o ta) (c : Cls X.K C) (hm : Meth X.K C m f) (F : FnOk X.prog X.w X.K X.mg X.base CX k f fd ps sp) (hr : Room k X.A) (hb : Binds X.K fd ps ds) (hd : Vals dvs ds) (hx : ∀ σ, PassesAt CX X σ (fun cls d H' => W cls d σ H'))
    (ht : eval (.Call (.Attribute o m apos) [] [] pos) X.env = (do
      let ov ← eval o X.env
      standAt apos.atName
      let (f, first) ← holding [ov] (getMethod ov m pl)
      callWith pos f first (backTo pos (starEach [] X.env)) (backToKw pos (keywordEach [] X.env))) := by rfl) :
    PE X (.Call (.Attribute o m apos) [] [] pos) (tMethS C m sp dvs W ta tNil) := by
  refine ⟨fun pins s σ H Q I h => ?_⟩
  refine PySem.W.methodCall_KW (pl := pl) (thn (he.run pins s σ H _ I h) fun u s1 ⟨x, H1, I1, rx, a, dx, fs, ex, ea, l, q⟩ => ?_) ht
  subst ex
  obtain rfl : u = Value.ref a := rx
  refine getmeth_ok I1 ea c hm l ?_
  exact PySem.W.callWith_K0 (first := [.ref a]) I1.kIn hm.kp (run_ownS (us := [.ref a]) (vs := [.ref a]) F hr hb hd (hx σ) I1 (.cons rfl .nil) q)
end
section
variable {X : Cx}
def rReprA : List V → Hp → VK → Prop := fun xs H Q => ∃ (v : V) (d : PyData), xs = [v] ∧ Any H v d ∧ d.showable = true ∧ d.depth ≤ 60 ∧ d.shown.length ≤ sizeLine ∧ Q (.str d.shown) H
theorem call_reprA (gu : X.A.guards = some []) (hu : X.A.units + 64 < cLine) : CallR X (.builtin "repr") rReprA := by
  intro pins s σ H xs us Q I r h
  obtain ⟨v, d, rfl, an, sh, dp, sz, q⟩ := h
  cases v with
  | ref a => exact call_repr gu hu pins s σ H _ us Q I r ⟨a, d, rfl, an, sh, dp, sz, q⟩
  | _ =>
    obtain ⟨u, rfl, ru⟩ := vals1 r
    cases an <;> first
      | (cases (show u = Value.none from ru); exact PySem.P.repr_of_none ⟨V.str "None", H, I.tok _, ⟨_, rfl⟩, by simpa only [PyData.shown] using q⟩)
      | (cases (show u = Value.bool _ from ru); exact PySem.P.repr_of_bool ⟨V.str _, H, I.tok _, ⟨_, rfl⟩, by simpa only [PyData.shown] using q⟩)
      | (obtain ⟨t, rfl⟩ := (show ∃ t, u = Value.int _ t from ru); exact PySem.P.repr_of_int (by simpa [PyData.showable] using sh) ⟨V.str _, H, I.tok _, ⟨_, rfl⟩, by simpa only [PyData.shown] using q⟩)
      | (obtain ⟨t, rfl⟩ := (show ∃ t, u = Value.str _ t from ru); exact PySem.P.repr_of_str ⟨V.str _, H, I.tok _, ⟨_, rfl⟩, by simpa only [PyData.shown] using q⟩ (by simpa only [PyData.shown] using sz))
end
end Rw

set_option Elab.async false
set_option linter.all false
set_option maxRecDepth 100000
set_option maxHeartbeats 800000
/-! TkGC: data away from what changes; the deeds of streams and what is due. -/
namespace Rw
open PySem PySem.Spec PyProof.Rows L2
/-! ### a heap without some objects -/
def msk (M : List Addr) (H : Hp) : Hp := fun b => if b ∈ M then none else H b
theorem msk_out {M : List Addr} {H : Hp} {b : Addr} (h : b ∉ M) : msk M H b = H b := if_neg h
theorem msk_at {M : List Addr} {H : Hp} {b : Addr} {o : HO} (e : msk M H b = some o) : b ∉ M ∧ H b = some o := by
  unfold msk at e
  by_cases z : b ∈ M
  · rw [if_pos z] at e; cases e
  · rw [if_neg z] at e; exact ⟨z, e⟩
theorem msk_sub {M : List Addr} {H : Hp} : Same (msk M H) H := fun b o e => (msk_at e).2
theorem msk_grow {M : List Addr} {H H' : Hp} {p : Addr} (hp : p ∈ M) (g : Grow p H H') : Same (msk M H) (msk M H') := fun b o e => by
  obtain ⟨z, e⟩ := msk_at e
  rw [msk_out z]
  exact g b o (fun y => z (by rw [y]; exact hp)) e
theorem msk_same {M : List Addr} {H H' : Hp} (k : Same H H') : Same (msk M H) (msk M H') := fun b o e => by
  obtain ⟨z, e⟩ := msk_at e
  rw [msk_out z]
  exact k b o e
theorem msk_nil {H : Hp} : Same H (msk [] H) := fun b o e => by rw [msk_out (by simp)]; exact e
theorem msk_put {M : List Addr} {H : Hp} {p : Addr} {o : HO} (hp : p ∈ M) : msk M (upd H p o) = msk M H := by
  funext b
  unfold msk
  by_cases z : b ∈ M
  · rw [if_pos z, if_pos z]
  · rw [if_neg z, if_neg z, upd_ne (fun y => z (by rw [y]; exact hp))]
def MOk (M : List Addr) (H : Hp) : Prop := ∀ b, b ∈ M → ∃ o, H b = some o ∧ ∀ xs, o ≠ .tup xs
theorem MOk.new {M : List Addr} {H : Hp} {l : Addr} (m : MOk M H) (h : H l = none) : l ∉ M := fun z => by
  obtain ⟨o, e, _⟩ := m l z
  rw [h] at e
  cases e
theorem MOk.keep {M : List Addr} {H H' : Hp} (m : MOk M H) (k : Same H H') : MOk M H' := fun b hb => by
  obtain ⟨o, e, n⟩ := m b hb
  exact ⟨o, k _ _ e, n⟩
theorem MOk.grow {M : List Addr} {H H' : Hp} {p : Addr} {o : HO} (m : MOk M H) (g : Grow p H H') (hp : H' p = some o) (n : ∀ xs, o ≠ .tup xs) : MOk M H' := fun b hb => by
  by_cases z : b = p
  · rw [z]; exact ⟨o, hp, n⟩
  · obtain ⟨u, e, nu⟩ := m b hb
    exact ⟨u, g _ _ z e, nu⟩
theorem MOk.box {M : List Addr} {H H' : Hp} {p : Addr} {n : Nat} (m : MOk M H) (g : Grow p H H') (b : Bx H' p n) : MOk M H' := by
  obtain ⟨xs, e⟩ := bx_at b
  exact m.grow g e fun _ z => by cases z
theorem mok_nil {H : Hp} : MOk [] H := fun b hb => by cases hb
mutual
theorem any_msk {M : List Addr} {H : Hp} (m : MOk M H) : ∀ (d : PyData) (v : V), Any H v d → noL d = true → Any (msk M H) v d
  | .none, _, a, _ => by cases a; exact .non
  | .bool b, _, a, _ => by cases a; exact .bl b
  | .int i, _, a, _ => by cases a; exact .int i
  | .str x, _, a, _ => by cases a; exact .str x
  | .list ds, _, _, z => by cases z
  | .dict ds, _, _, z => by cases z
  | .tuple ds, _, a, z => by
    cases a with
    | tup e b =>
      rename_i q ys
      have nm : q ∉ M := fun y => by
        obtain ⟨o, eo, n⟩ := m q y
        rw [e] at eo
        exact n ys (Option.some.inj eo).symm
      exact .tup (by rw [msk_out nm]; exact e) (anyL_msk m ds _ b z)
theorem anyL_msk {M : List Addr} {H : Hp} (m : MOk M H) : ∀ (ds : List PyData) (vs : List V), AnyL H vs ds → noLs ds = true → AnyL (msk M H) vs ds
  | [], _, a, _ => by cases a; exact .nil
  | d :: ds, _, a, z => by
    have z2 : (noL d && noLs ds) = true := z
    rw [Bool.and_eq_true] at z2
    cases a with
    | cons a b => exact .cons (any_msk m d _ a z2.1) (anyL_msk m ds _ b z2.2)
end
theorem msk_new {M : List Addr} {H : Hp} {l : Addr} {o : HO} (m : MOk M H) (h : H l = none) : Same (msk M H) (msk M (upd H l o)) ∧ msk M (upd H l o) l = some o :=
  ⟨msk_same (same_new h), by rw [msk_out (m.new h)]; exact upd_same⟩
theorem list_src {K : PySem.W.Frag} {G H : Hp} {v : V} {d : PyData} (an : Any G v d) (k : Same G H) (e : isSeqD d = true) : ∃ p ys, v = .ref p ∧ (SqL K H p ys ∨ SqT K H p ys) ∧ AnyL G ys (itemsD d) := by
  cases an with
  | lst ea al => exact ⟨_, _, rfl, .inl (SqL.of (k _ _ ea)), al⟩
  | tup ea al => exact ⟨_, _, rfl, .inr (SqT.of (k _ _ ea)), al⟩
  | _ => cases e
theorem any_list1 {H : Hp} {v : V} {d0 : PyData} (h : Any H v (.list [d0])) : ∃ a v0, v = .ref a ∧ H a = some (.lst [v0]) ∧ Any H v0 d0 := by
  cases h with
  | lst e al =>
    cases al with
    | cons a0 al =>
      cases al
      exact ⟨_, _, rfl, e, a0⟩
theorem any_list2 {H : Hp} {v : V} {d0 d1 : PyData} (h : Any H v (.list [d0, d1])) : ∃ a v0 v1, v = .ref a ∧ H a = some (.lst [v0, v1]) ∧ Any H v0 d0 ∧ Any H v1 d1 := by
  cases h with
  | lst e al =>
    cases al with
    | cons a0 al =>
      cases al with
      | cons a1 al =>
        cases al
        exact ⟨_, _, _, rfl, e, a0, a1⟩
theorem any_list3 {H : Hp} {v : V} {d0 d1 d2 : PyData} (h : Any H v (.list [d0, d1, d2])) : ∃ a v0 v1 v2, v = .ref a ∧ H a = some (.lst [v0, v1, v2]) ∧ Any H v0 d0 ∧ Any H v1 d1 ∧ Any H v2 d2 := by
  cases h with
  | lst e al =>
    cases al with
    | cons a0 al =>
      cases al with
      | cons a1 al =>
        cases al with
        | cons a2 al =>
          cases al
          exact ⟨_, _, _, _, rfl, e, a0, a1, a2⟩
theorem cutV_drop {xs : List V} {c : Nat} (h : c ≤ xs.length) : cutV xs (some ((c : Nat) : Int)) none = xs.drop c := by
  unfold cutV
  rw [HT.sIx_nat, HT.sIx_none, Nat.min_eq_left h]
  exact List.take_of_length_le (by rw [List.length_drop]; omega)
theorem cutV_last {xs : List V} {v : V} : cutV (xs ++ [v]) none (some (-1)) = xs := by
  have l : (xs ++ [v]).length = xs.length + 1 := by rw [List.length_append] <;> rfl
  have e2 : HT.sIx (xs ++ [v]).length (xs ++ [v]).length (some (-1)) = xs.length := by
    rw [l]
    unfold HT.sIx
    simp
    omega
  unfold cutV
  rw [e2, HT.sIx_none, List.drop_zero, Nat.sub_zero, List.take_left']
  rfl
/-! ### deeds -/
/-- a matrix with its rows as lists -/
def asL : PyData → PyData
  | .list ds => .list (ds.map fun d => .list (itemsD d))
  | d => d
def seqsB : PyData → Bool
  | .list ds => ds.all isSeqD
  | .none => true
  | .str _ => true
  | _ => false
def wN : PyData := .list [.str "none"]
def dnD : PyData := .list [.str "done", .none]
inductive Res
  | no (d : PyData)
  | ok (t : St)
def Res.due : Res → PyData
  | .no d => d
  | .ok t => t.D
def Res.told : Res → PyData
  | .no d => d
  | .ok _ => dnD
def Res.st (s : St) : Res → St
  | .no _ => s
  | .ok t => t
/-- what is refused, and how -/
def Refuse (d : Dr) (da dn dm due : PyData) : Prop := (isArD da = false ∧ due = wD "arrow" da) ∨ (isArD da = true ∧ d.x.length = 6 ∧ due = wD "large" (.int 7)) ∨ (isArD da = true ∧ d.x.length < 6 ∧ isSzD dn = false ∧ due = wD "size" dn) ∨
  ∃ r n, da = .str (arrS r) ∧ d.x.length < 6 ∧ dn = natD n ∧ n ≤ 6 ∧ isMatD (highS r d.ss n : Nat) (wideS r d.ss n : Nat) dm = false ∧ due = wD "matrix" dm
structure Hand (dm : PyData) : Prop where
  s : seqsB dm = true
  n : (itemsD dm).length ≤ 1000
  i : ∀ e, e ∈ itemsD dm → (itemsD e).length ≤ 1000
  f : Fit (asL dm)
  q : Tq 3 (asL dm)
inductive Due (s : St) : PyData → Res → Prop
  | grow {r : Bool} {n : Nat} {w m : List (List Int)} : s.here.x.length < 6 → n ≤ 6 → MatOk s.here.q (highS r s.here.ss n) (wideS r s.here.ss n) m → redM s.here.q w = m → Hand (sheetL w) → Due s (.list [.str "grow", .str (arrS r), natD n, sheetL w]) (.ok ⟨s.past ++ [s.here], growDr s.here r n m, []⟩)
  | growNo {da dn dm due : PyData} : Hand dm → Refuse s.here da dn (asL dm) due → Due s (.list [.str "grow", da, dn, dm]) (.no due)
  | cutNo {d : PyData} : inB d (.int 1) (.int (s.here.x.length : Nat)) = false → Due s (.list [.str "cut", d]) (.no (wD "figure" d))
  | cut {c : Nat} : 1 ≤ c → c ≤ s.here.x.length → Due s (.list [.str "cut", natD c]) (.ok ⟨s.past ++ [s.here], cutDr s.here c, []⟩)
  | undoNo : s.past = [] → Due s (.list [.str "undo"]) (.no wN)
  | undo {ps : List Dr} {d : Dr} : s.past = ps ++ [d] → Due s (.list [.str "undo"]) (.ok ⟨ps, d, s.here :: s.later⟩)
  | redoNo : s.later = [] → Due s (.list [.str "redo"]) (.no wN)
  | redo {d : Dr} {ls : List Dr} : s.later = d :: ls → Due s (.list [.str "redo"]) (.ok ⟨s.past ++ [s.here], d, ls⟩)
theorem GoodS.more {n m : Nat} {s : St} (g : GoodS n s) (h : n ≤ m) : GoodS m s := ⟨g.p, g.h, g.l, Nat.le_trans g.n h⟩
theorem due_good {n : Nat} {s : St} {d : PyData} {r : Res} (g : GoodS n s) (h : Due s d r) : GoodS (n + 1) (r.st s) := by
  have gn := g.n
  have pre : ∀ e, e ∈ s.past ++ [s.here] → GoodD e := fun e he => by
    rcases List.mem_append.mp he with z | z
    · exact g.p e z
    · rw [List.mem_singleton.mp z]; exact g.h
  have ln : (s.past ++ [s.here]).length = s.past.length + 1 := by rw [List.length_append] <;> rfl
  cases h with
  | grow l6 n6 mo rd hd =>
    exact ⟨pre, grow_good g.h l6 n6 mo, fun e he => (nomatch he), by show (s.past ++ [s.here]).length + 0 ≤ n + 1; rw [ln]; omega⟩
  | cut c1 c2 => exact ⟨pre, cut_good g.h c2, fun e he => (nomatch he), by show (s.past ++ [s.here]).length + 0 ≤ n + 1; rw [ln]; omega⟩
  | undo e =>
    rename_i ps d
    have hl : s.past.length = ps.length + 1 := by rw [e, List.length_append] <;> rfl
    refine ⟨fun x hx => g.p x (by rw [e]; exact List.mem_append_left _ hx), g.p _ (by rw [e]; exact List.mem_append_right _ List.mem_cons_self), fun x hx => ?_, by show ps.length + (s.later.length + 1) ≤ n + 1; omega⟩
    rcases List.mem_cons.mp hx with z | z
    · rw [z]; exact g.h
    · exact g.l x z
  | redo e =>
    rename_i d ls
    have hl : s.later.length = ls.length + 1 := by rw [e] <;> rfl
    exact ⟨pre, g.l _ (by rw [e]; exact List.mem_cons_self), fun x hx => g.l x (by rw [e]; exact List.mem_cons_of_mem _ hx), by show (s.past ++ [s.here]).length + ls.length ≤ n + 1; rw [ln]; omega⟩
  | _ => exact g.more (by omega)
/-! ### what the law's own defs promise -/
def spShownD (C : Addr) : Sp := fun vs H Q _ => ∃ a d, vs = [.ref a] ∧ RowD C H a d ∧ GoodD d ∧ ∀ l H', Same H H' → Any H' (.ref l) d.D → Q (.ref l) H'
def spCutL : Sp := fun vs H Q _ => ∃ M v d c, vs = [v, .int (c : Nat)] ∧ MOk M H ∧ Any (msk M H) v d.D ∧ GoodD d ∧ c ≤ d.x.length ∧ ∀ l H', Same H H' → Any (msk M H') (.ref l) (cutDr d c).D → Q (.ref l) H'
def spAsL : Sp := fun vs H Q _ => ∃ M v d, vs = [v] ∧ MOk M H ∧ Any (msk M H) v d ∧ seqsB d = true ∧ (itemsD d).length ≤ 1000 ∧ (∀ e, e ∈ itemsD d → (itemsD e).length ≤ 1000) ∧ ∀ u H', Same H H' → Any (msk M H') u (asL d) →
  (∀ ds, d = .list ds → ∃ l acc, u = .ref l ∧ H l = none ∧ H' l = some (.lst acc) ∧ acc.length ≤ 1000 ∧ ∀ v, v ∈ acc → ∃ b xs, v = .ref b ∧ H b = none ∧ b ≠ l ∧ H' b = some (.lst xs) ∧ xs.length ≤ 1000) → Q u H'
def spLonger : Sp := fun vs H Q _ => ∃ M p v d n, vs = [.ref p, v] ∧ p ∈ M ∧ MOk M H ∧ Bx H p n ∧ n ≤ 500000 ∧ Any (msk M H) v d.D ∧ GoodD d ∧
  ∀ l H' r k m, k ≤ 3 → MatOk d.q (highS r d.ss k) (wideS r d.ss k) m → Grow p H H' → MOk M H' → Bx H' p (n + 100) → Any (msk M H') (.ref l) (.list [.str (arrS r), natD k, sheetD m, (growDr d r k m).D]) → Q (.ref l) H'
def spDeed : Sp := fun vs H Q _ => ∃ M p v s n N, vs = [.ref p, v] ∧ p ∈ M ∧ MOk M H ∧ Bx H p n ∧ n ≤ 400000 ∧ Any (msk M H) v s.D ∧ GoodS N s ∧ N ≤ 100 ∧
  ∀ l H' d r, Due s d r → Tq 4 r.told → Grow p H H' → MOk M H' → Bx H' p (n + 1000) → Any (msk M H') (.ref l) (.list [d, r.due]) → Q (.ref l) H'
def spWrong : Sp := fun vs H Q _ => ∃ M p v s n N, vs = [.ref p, v] ∧ p ∈ M ∧ MOk M H ∧ Bx H p n ∧ n ≤ 450000 ∧ Any (msk M H) v s.here.D ∧ GoodS N s ∧ N ≤ 100 ∧
  ∀ l H' d r, Due s d r → Tq 4 r.told → Grow p H H' → MOk M H' → Bx H' p (n + 900) → Any (msk M H') (.ref l) (.list [d, r.due]) → Q (.ref l) H'
def spDone (D C : Addr) : Sp := fun vs H Q _ => ∃ a v s d r N, vs = [.ref a, v] ∧ StrAt D C H a s ∧ GoodS N s ∧ N ≤ 100 ∧ Any H v d ∧ Due s d r ∧
  ∀ u H', Grow a H H' → StrAt D C H' a (r.st s) → Any H' (.ref u) r.told → Q (.ref u) H'
def spStands (D C : Addr) : Sp := fun vs H Q _ => ∃ a v s N, vs = [.ref a, v] ∧ StrAt D C H a s ∧ GoodS N s ∧ N ≤ 100 ∧ Any H v s.D ∧ ∀ H', Same H H' → Q (.bl true) H'
end Rw

set_option Elab.async false
set_option linter.all false
set_option maxRecDepth 100000
set_option maxHeartbeats 800000
/-! TkGD: what is handed to streams. -/
namespace Rw
open PySem PySem.Spec PyProof.Rows L2
theorem lay {M : List Addr} {H : Hp} {l : Addr} {vs : List V} {ds : List PyData} (m : MOk M H) (hl : H l = none) (al : AnyL (msk M H) vs ds) : Any (msk M (upd H l (.lst vs))) (.ref l) (.list ds) ∧ Same H (upd H l (.lst vs)) ∧ MOk M (upd H l (.lst vs)) := by
  obtain ⟨k, e⟩ := msk_new (o := .lst vs) m hl
  exact ⟨.lst e (anyL_keep k al), same_new hl, m.keep (same_new hl)⟩
theorem layT {M : List Addr} {H : Hp} {l : Addr} {vs : List V} {ds : List PyData} (m : MOk M H) (hl : H l = none) (al : AnyL (msk M H) vs ds) : Any (msk M (upd H l (.tup vs))) (.ref l) (.tuple ds) ∧ Same H (upd H l (.tup vs)) ∧ MOk M (upd H l (.tup vs)) := by
  obtain ⟨k, e⟩ := msk_new (o := .tup vs) m hl
  exact ⟨.tup e (anyL_keep k al), same_new hl, m.keep (same_new hl)⟩
theorem asL_sheet (m : List (List Int)) : asL (sheetD m) = sheetL m := by
  show PyData.list ((m.map tupI).map fun d => .list (itemsD d)) = .list (m.map lstI)
  rw [List.map_map] <;> rfl
theorem asL_far (m : List (List Int)) : asL (sheetL m) = sheetL m := by
  show PyData.list ((m.map lstI).map fun d => .list (itemsD d)) = .list (m.map lstI)
  rw [List.map_map] <;> rfl
theorem like_lsts : ∀ m : List (List Int), Like (m.map lstI) m
  | [] => .nil
  | r :: m => .cons (.inr rfl) (like_lsts m)
theorem big_of {q : Int} {h w : Nat} {m : List (List Int)} (hq : q ∈ primesL) (b : MatOk q h w m) : BigM h w m := ⟨b.h, fun r hr => ⟨(b.w r hr).1, fun e he => by
  have h1 := (b.w r hr).2 e he
  have h2 := prime_pos hq
  show e.natAbs < 10 ^ 29
  have : e.natAbs < 13 := by omega
  exact Nat.lt_trans this (by decide)⟩⟩
theorem hand_of {h w : Nat} {m : List (List Int)} (b : BigM h w m) (h6 : h ≤ 6) (w6 : w ≤ 6) {D : PyData} {ds : List PyData} (e : D = .list ds) (l : Like ds m) (ea : asL D = sheetL m) : Hand D := by
  obtain ⟨s, _⟩ := like_sheet (like_lsts m) b h6 w6
  subst e
  refine ⟨List.all_eq_true.mpr fun d hd => ?_, by show ds.length ≤ 1000; rw [l.len, b.h]; omega, fun d hd => ?_, by rw [ea]; exact s.f, by rw [ea]; exact s.tm.q.up (by decide)⟩
  · obtain ⟨r, _, z⟩ := l.mem d hd
    exact (like_items z).1
  · obtain ⟨r, hr, z⟩ := l.mem d hd
    rw [(like_items z).2, List.length_map, (b.w r hr).1]
    omega
theorem hand_sheet {h w : Nat} {m : List (List Int)} (b : BigM h w m) (h6 : h ≤ 6) (w6 : w ≤ 6) : Hand (sheetD m) := hand_of b h6 w6 rfl (like_tups m) (asL_sheet m)
theorem hand_far {h w : Nat} {m : List (List Int)} (b : BigM h w m) (h6 : h ≤ 6) (w6 : w ≤ 6) : Hand (sheetL m) := hand_of b h6 w6 rfl (like_lsts m) (asL_far m)
def oddCut (k : Nat) : List PyData := [.bool true, .none, .str "1", .int 0, natD k, .tuple [.int 1]]
theorem oddCut_ok {n : Nat} (h : n ≤ 6) : ∀ d ∈ oddCut (n + 1), inB d (.int 1) (.int (n : Nat)) = false ∧ Tq 1 d := by
  have c : ∀ n ∈ List.range 7, ∀ d ∈ oddCut (n + 1), inB d (.int 1) (.int (n : Nat)) = false ∧ tqB 1 d = true := by decide +kernel
  intro d hd
  obtain ⟨h1, h2⟩ := c n (List.mem_range.mpr (by omega)) d hd
  exact ⟨h1, tq_ofB h2⟩
def oddArr : List PyData := [.str "<<", .str "", .none, .int 1, .str "=", .list [.str ">"]]
theorem oddArr_ok : ∀ d ∈ oddArr, isArD d = false ∧ Tq 1 d := by
  have c : ∀ d ∈ oddArr, isArD d = false ∧ tqB 1 d = true := by decide +kernel
  intro d hd
  obtain ⟨h1, h2⟩ := c d hd
  exact ⟨h1, tq_ofB h2⟩
def oddSz : List PyData := [.int 7, .int (-1), .bool true, .none, .str "1", .tuple [.int 2]]
theorem oddSz_ok : ∀ d ∈ oddSz, isSzD d = false ∧ Tq 1 d := by
  have c : ∀ d ∈ oddSz, isSzD d = false ∧ tqB 1 d = true := by decide +kernel
  intro d hd
  obtain ⟨h1, h2⟩ := c d hd
  exact ⟨h1, tq_ofB h2⟩
def z7 : List Int := [0, 0, 0, 0, 0, 0, 0]
def oddMat (m : List (List Int)) : List PyData := [.list (m.map tupI ++ [tupI z7]), .none, .list [.list [.none]], .str "x"]
theorem hand_no {d : PyData} (h : seqsB d = true ∧ decide ((itemsD d).length ≤ 1000) = true ∧ ((itemsD d).all fun e => decide ((itemsD e).length ≤ 1000)) = true ∧ fitB (asL d) = true ∧ tqB 3 (asL d) = true) : Hand d :=
  ⟨h.1, of_decide_eq_true h.2.1, fun e he => of_decide_eq_true (List.all_eq_true.mp h.2.2.1 e he), fit_ofB h.2.2.2.1, tq_ofB h.2.2.2.2⟩
theorem oddMat_ok {h w : Nat} {m : List (List Int)} (b : BigM h w m) (h6 : h ≤ 6) (w6 : w ≤ 6) : ∀ d ∈ oddMat m, Hand d ∧ isMatD (h : Nat) (w : Nat) (asL d) = false := by
  intro d hd
  rcases List.mem_cons.mp hd with z | hd
  · subst z
    have ea : asL (.list (m.map tupI ++ [tupI z7])) = .list (m.map lstI ++ [lstI z7]) := by
      show PyData.list ((m.map tupI ++ [tupI z7]).map fun d => .list (itemsD d)) = _
      rw [List.map_append, List.map_map] <;> rfl
    have fz : Fit (.list [lstI z7]) := fit_ofB (by decide +kernel)
    have rz : Fit1 (lstI z7) := fz.sub _ List.mem_cons_self
    have sz : smallB (lstI z7) = true := by decide +kernel
    have tz : Tq 2 (lstI z7) := tq_ofB (by decide +kernel)
    have rows : ∀ e, e ∈ m.map lstI → RowT e := fun e he => by
      obtain ⟨r, hr, rfl⟩ := List.mem_map.mp he
      exact like_row b w6 hr (.inr rfl)
    have lm : (m.map lstI).length = h := by rw [List.length_map, b.h]
    have lm2 : (m.map lstI ++ [lstI z7]).length = h + 1 := by rw [List.length_append, lm] <;> rfl
    refine ⟨⟨List.all_eq_true.mpr fun e he => ?_, by show (m.map tupI ++ [tupI z7]).length ≤ 1000; rw [List.length_append, List.length_map, b.h]; show h + 1 ≤ 1000; omega, fun e he => ?_, ?_, ?_⟩, ?_⟩
    · rcases List.mem_append.mp he with z | z
      · obtain ⟨r, _, rfl⟩ := List.mem_map.mp z
        rfl
      · rw [List.mem_singleton.mp z] <;> rfl
    · rcases List.mem_append.mp he with z | z
      · obtain ⟨r, hr, rfl⟩ := List.mem_map.mp z
        show (r.map PyData.int).length ≤ 1000
        rw [List.length_map, (b.w r hr).1]
        omega
      · rw [List.mem_singleton.mp z]
        decide
    · rw [ea]
      refine ⟨fit1_of (ds := m.map lstI ++ [lstI z7]) rfl (by rw [lm2]; omega) fun e he => ?_, fun e he => ?_⟩
      · rcases List.mem_append.mp he with z | z
        · exact (rows e z).sm
        · rw [List.mem_singleton.mp z]; exact sz
      · rcases List.mem_append.mp (show e ∈ m.map lstI ++ [lstI z7] from he) with z | z
        · exact (rows e z).f1
        · rw [List.mem_singleton.mp z]; exact rz
    · rw [ea]
      refine tq_list (by rw [lm2]; omega) fun e he => ?_
      rcases List.mem_append.mp he with z | z
      · exact (rows e z).tm.q.up (by decide)
      · rw [List.mem_singleton.mp z]; exact tz
    · rw [ea]
      unfold isMatD
      have : decide (((itemsD (.list (m.map lstI ++ [lstI z7]))).length : Int) = (h : Nat)) = false := decide_eq_false (by
        show ¬ (((m.map lstI ++ [lstI z7]).length : Nat) : Int) = (h : Nat)
        rw [lm2]
        omega)
      rw [this, Bool.false_and, Bool.and_false]
  rcases List.mem_cons.mp hd with z | hd
  · subst z
    exact ⟨hand_no (by decide +kernel), rfl⟩
  rcases List.mem_cons.mp hd with z | hd
  · subst z
    refine ⟨hand_no (by decide +kernel), ?_⟩
    have c : ∀ h ∈ List.range 7, ∀ w ∈ List.range 7, isMatD (h : Nat) (w : Nat) (asL (.list [.list [.none]])) = false := by decide +kernel
    exact c h (List.mem_range.mpr (by omega)) w (List.mem_range.mpr (by omega))
  · rw [List.mem_singleton.mp hd]
    exact ⟨hand_no (by decide +kernel), rfl⟩
theorem tq_fig : Tq 0 (.str "figure") := tq_str (by decide +kernel) (by decide +kernel)
theorem tq_arrW : Tq 0 (.str "arrow") := tq_str (by decide +kernel) (by decide +kernel)
theorem tq_largeW : Tq 0 (.str "large") := tq_str (by decide +kernel) (by decide +kernel)
theorem tq_sizeW : Tq 0 (.str "size") := tq_str (by decide +kernel) (by decide +kernel)
theorem tq_matW : Tq 0 (.str "matrix") := tq_str (by decide +kernel) (by decide +kernel)
theorem tq_wX {n : Nat} {x : Str} {d : PyData} (hx : Tq 0 (.str x)) (h : Tq n d) : Tq (n + 1) (wD x d) := tq_list (by show 2 ≤ 12; decide) (by
  intro e he
  rcases List.mem_cons.mp he with z | z
  · rw [z]; exact hx.up (Nat.zero_le _)
  · rw [List.mem_singleton.mp z]; exact h)
theorem tq_dn : Tq 4 dnD := tq_ofB (by decide +kernel)
theorem tq_wN : Tq 4 wN := tq_ofB (by decide +kernel)
theorem tq_fine {d : PyData} (h : Tq 4 d) : d.showable = true ∧ d.depth ≤ 60 ∧ d.shown.length ≤ sizeLine :=
  ⟨h.sh, by have := h.dp; omega, Nat.le_trans h.ln (by decide +kernel)⟩
end Rw

set_option Elab.async false
set_option linter.all false
set_option maxRecDepth 100000
set_option maxHeartbeats 800000
/-! TkGE: what a deed leads to. -/
namespace Rw
open PySem PySem.Spec PyProof.Rows L2
structure Grows (s : St) (da dn dm : PyData) (res : Res) (m : List (List Int)) : Prop where
  oa : isArD da = false → res = .no (wD "arrow" da)
  ol : isArD da = true → s.here.x.length = 6 → res = .no (wD "large" (.int 7))
  os : isArD da = true → s.here.x.length < 6 → isSzD dn = false → res = .no (wD "size" dn)
  om : ∀ (r : Bool) (n : Nat), da = .str (arrS r) → s.here.x.length < 6 → dn = natD n → n ≤ 6 → isMatD (highS r s.here.ss n : Nat) (wideS r s.here.ss n : Nat) dm = false → res = .no (wD "matrix" dm)
  ok : ∀ (r : Bool) (n : Nat), da = .str (arrS r) → s.here.x.length < 6 → dn = natD n → n ≤ 6 → isMatD (highS r s.here.ss n : Nat) (wideS r s.here.ss n : Nat) dm = true → rowsM s.here.q dm = m.map tupI ∧ res = .ok ⟨s.past ++ [s.here], growDr s.here r n m, []⟩
theorem nat_inj {n k : Nat} (h : natD n = natD k) : n = k := by
  have := PyData.int.inj h
  omega
theorem grows_ok {s : St} {r : Bool} {n : Nat} {w m : List (List Int)} (g : GoodS 100 s) (l6 : s.here.x.length < 6) (n6 : n ≤ 6) (mo : MatOk s.here.q (highS r s.here.ss n) (wideS r s.here.ss n) m) (rd : redM s.here.q w = m) :
    Grows s (.str (arrS r)) (natD n) (asL (sheetL w)) (.ok ⟨s.past ++ [s.here], growDr s.here r n m, []⟩) m := by
  rw [asL_far]
  have mt : isMatD (highS r s.here.ss n : Nat) (wideS r s.here.ss n : Nat) (sheetL w) = true := sheetL_is (q := s.here.q) (by rw [rd]; exact mo)
  refine ⟨fun z => ?_, fun _ z => ?_, fun _ _ z => ?_, fun r2 n2 e1 _ e2 _ z => ?_, fun r2 n2 e1 _ e2 _ _ => ?_⟩
  · rw [arD_is] at z; cases z
  · omega
  · rw [szD_nat n6] at z; cases z
  · cases arrS_inj (PyData.str.inj e1)
    cases nat_inj e2
    rw [mt] at z; cases z
  · cases arrS_inj (PyData.str.inj e1)
    cases nat_inj e2
    exact ⟨by rw [rows_red, rd], rfl⟩
theorem grows_no {s : St} {da dn dm due : PyData} (h : Refuse s.here da dn dm due) : Grows s da dn dm (.no due) [] := by
  rcases h with ⟨h1, rfl⟩ | ⟨h1, h2, rfl⟩ | ⟨h1, h2, h3, rfl⟩ | ⟨r, n, rfl, h2, rfl, h4, h5, rfl⟩
  · refine ⟨fun _ => rfl, fun z => ?_, fun z => ?_, fun r n e => ?_, fun r n e => ?_⟩
    · rw [h1] at z; cases z
    · rw [h1] at z; cases z
    · rw [e, arD_is] at h1; cases h1
    · rw [e, arD_is] at h1; cases h1
  · refine ⟨fun z => ?_, fun _ _ => rfl, fun _ z => ?_, fun r n _ z => ?_, fun r n _ z => ?_⟩
    · rw [h1] at z; cases z
    · omega
    · omega
    · omega
  · refine ⟨fun z => ?_, fun _ z => ?_, fun _ _ _ => rfl, fun r n _ _ e n6 => ?_, fun r n _ _ e n6 => ?_⟩
    · rw [h1] at z; cases z
    · omega
    · rw [e, szD_nat n6] at h3; cases h3
    · rw [e, szD_nat n6] at h3; cases h3
  · refine ⟨fun z => ?_, fun _ z => ?_, fun _ _ z => ?_, fun r2 n2 e1 _ e2 _ _ => rfl, fun r2 n2 e1 _ e2 _ z => ?_⟩
    · rw [arD_is] at z; cases z
    · omega
    · rw [szD_nat h4] at z; cases z
    · cases arrS_inj (PyData.str.inj e1)
      cases nat_inj e2
      rw [h5] at z; cases z
theorem due_split {s : St} {d : PyData} {res : Res} (g : GoodS 100 s) (h : Due s d res) :
    (∃ da dn dm m, d = .list [.str "grow", da, dn, dm] ∧ Hand dm ∧ Grows s da dn (asL dm) res m) ∨
    (∃ dc, d = .list [.str "cut", dc] ∧ (inB dc (.int 1) (.int (s.here.x.length : Nat)) = false → res = .no (wD "figure" dc)) ∧ ∀ c : Nat, dc = natD c → 1 ≤ c → c ≤ s.here.x.length → res = .ok ⟨s.past ++ [s.here], cutDr s.here c, []⟩) ∨
    (d = .list [.str "undo"] ∧ (s.past = [] → res = .no wN) ∧ ∀ ps e, s.past = ps ++ [e] → res = .ok ⟨ps, e, s.here :: s.later⟩) ∨
    (d = .list [.str "redo"] ∧ (s.later = [] → res = .no wN) ∧ ∀ e ls, s.later = e :: ls → res = .ok ⟨s.past ++ [s.here], e, ls⟩) := by
  cases h with
  | grow l6 n6 mo rd hd => exact .inl ⟨_, _, _, _, rfl, hd, grows_ok g l6 n6 mo rd⟩
  | growNo hd rf => exact .inl ⟨_, _, _, _, rfl, hd, grows_no rf⟩
  | cutNo e => exact .inr (.inl ⟨_, rfl, fun _ => rfl, fun c ec c1 c2 => by
      rw [ec, show inB (natD c) (.int 1) (.int (s.here.x.length : Nat)) = true from inB_yes (by omega) (by omega)] at e
      cases e⟩)
  | cut c1 c2 =>
    rename_i c0
    have iy : inB (natD c0) (.int 1) (.int (s.here.x.length : Nat)) = true := inB_yes (by omega) (by omega)
    exact .inr (.inl ⟨_, rfl, fun e => (by rw [iy] at e; cases e), fun c ec _ _ => (by rw [nat_inj ec])⟩)
  | undoNo e => exact .inr (.inr (.inl ⟨rfl, fun _ => rfl, fun ps x y => by rw [e] at y; cases ps <;> cases y⟩))
  | undo e => exact .inr (.inr (.inl ⟨rfl, fun y => by rw [y] at e; exact absurd e.symm (by simp), fun ps x y => by
      rw [e] at y
      obtain ⟨rfl, z⟩ := List.append_inj' y rfl
      cases z
      rfl⟩))
  | redoNo e => exact .inr (.inr (.inr ⟨rfl, fun _ => rfl, fun x ls y => by rw [e] at y; cases y⟩))
  | redo e => exact .inr (.inr (.inr ⟨rfl, fun y => (by rw [y] at e; cases e), fun x ls y => by
      rw [e] at y
      cases y
      rfl⟩))
theorem stD_eqv {s : St} (g : GoodD s.here) : PyData.eqv s.here.D s.here.D = true := by
  unfold Dr.D
  rw [eqv_draft, same_row]
end Rw

set_option Elab.async false
set_option linter.all false
set_option maxRecDepth 100000
set_option maxHeartbeats 800000
/-! TkGF: lists read, walked and lengthened in a try's body and in its clauses (the fragment given by hand). -/
namespace Rw
open PySem PySem.Spec PyProof.Rows L2
section
variable {X : Cx}
theorem ixL (K : PySem.W.Frag) (e : X.K = K := by rfl) : IxR X (rIxL K) := by
  subst e
  exact ix_list
theorem piL (K : PySem.W.Frag) {tg l : Expr} {tl : TE} (hl : PE X l tl) (e : X.K = K := by rfl) : PI X tg l (iList K tl) := by
  subst e
  exact pi_list hl
theorem pe_app (K : PySem.W.Frag) {o e : Expr} {es : List Expr} {to : TE} {t : TA} {apos cpos : Pos} (ho : PE X o to) (ha : PA X (e :: es) t) (eK : X.K = K := by rfl)
    (hbase : attributeBase o "append" X.env (eval o X.env) = eval o X.env := by rfl)
    (hfew : ((backTo cpos (starEach (e :: es) X.env)).all (fun x => !x.1) && (backToKw cpos (keywordEach [] X.env)).all (fun x => x.1.isSome)
      && decide ((e :: es).length + ([] : List Keyword).length + (if ([] : List Keyword).isEmpty then 0 else 1) < 30)) = true := by rfl)
    (hline : (apos.endLine == cpos.line) = true := by rfl) (hs : starEach (e :: es) X.env = (false, eval e X.env) :: starEach es X.env := by rfl) (hplain : (backTo cpos (starEach es X.env)).any (·.1) = false := by rfl) :
    PE X (.Call (.Attribute o "append" apos) (e :: es) [] cpos) (tBM K "list" rAppend to t) := by
  subst eK
  exact pe_bm PySem.F.plainAttrs_list PySem.F.slot_list_append PySem.F.type_list_append mt_append ho ha hbase hfew hline hs hplain
end
end Rw

set_option Elab.async false
set_option linter.all false
set_option maxRecDepth 100000
set_option maxHeartbeats 800000
/-! TkHA: the items of a dict whose keys are tuples, walked while the dict is locked. -/
namespace Rw
open PySem PySem.Spec PyProof.Rows L2
/-- one entry of a locked dict with tuple keys, as it lies -/
theorem ent_T {X : Cx} {pins : List (Addr × Obj)} {σ : L2.St} {H : Hp} {s : Shared} {d : Addr} {o : Obj} {kvs : List (List L2.Key × V)} (I : Inv X pins σ H s) (h : H d = some (.frz o (.dT kvs))) :
    (d == sysModules) = false ∧ ∃ (es : Array DictEntry) (ep : Nat), DT.Raw s.heap d es ep ∧ o.data = .dict es ep ∧ o.ExactDict ∧ es.size = kvs.length ∧ kvs.length ≤ sizeLine ∧
      ∀ (i : Nat) (k : List L2.Key) (v : V), kvs[i]? = some (k, v) → ∃ (en : DictEntry) (q : Addr), es[i]? = some en ∧ en.key = .ref q ∧ RelV v en.val ∧ H q = some (.tup (k.map kV)) := by
  obtain ⟨g0, z0, m0, xs, rel, o2, es, ep, g1, ex, dat, ents, _⟩ := I.hok d _ h
  have same : o2 = o := Option.some.inj (g1.symm.trans g0)
  subst same
  have n1 : es.size = xs.length := size_of_entries ents
  have n2 : kvs.length = xs.length := Paired.length rel
  refine ⟨m0, es, ep, ⟨o2, g0, ex, dat⟩, dat, ex, n1.trans n2.symm, z0, fun i k v e => ?_⟩
  obtain ⟨b, hb, e1, e2, e3⟩ := paired_get rel e
  have w0 := entry_at ents i
  rw [hb] at w0
  exact ⟨_, b.2.1, w0, rfl, e3, e2⟩
/-- the pairs, each a new tuple of the key's own tuple and the value -/
def Itp (d : Addr) (o : Obj) (kvs : List (List L2.Key × V)) : It where
  go := fun i H => H d = some (.frz o (.dT kvs)) ∧ i < kvs.length
  yld := fun i H x H' => ∃ T k v q, kvs[i]? = some (k, v) ∧ H q = some (.tup (k.map kV)) ∧ x = .ref T ∧ H T = none ∧ H' = upd H T (.tup [.ref q, v])
  stop := fun i H => H d = some (.frz o (.dT kvs)) ∧ kvs.length ≤ i
theorem turn_p {P : Program} {w : World} {K : PySem.W.Frag} {d : Addr} {o : Obj} {es : Array DictEntry} {ep : Nat} {kvs : List (List L2.Key × V)} {elts : List Expr} {kk : Nat} {tpos : Pos} (it : Addr) (hod : o.data = .dict es ep) :
    Turn P w K (.Tuple elts kk tpos) (Itp d o kvs) [it] it (fun i h => ∃ ok ov, IsItemIter h it d i kvs.length ep ok ov) := by
  have mem : it ∈ [it] := List.mem_singleton.mpr rfl
  refine { mem := mem, obj := ?_, keep := ?_, item := ?_, done := ?_, self := ?_ }
  · rintro i h ⟨ok, ov, e⟩ b hb
    cases List.mem_singleton.mp hb
    exact ⟨_, e, fun v z => nomatch z⟩
  · rintro i h h' ⟨ok, ov, e⟩ k
    exact ⟨ok, ov, k it mem _ e⟩
  · rintro X rfl rfl rfl hc i pins s σ H E I fp ⟨ok, ov, e⟩ ⟨hd, hi⟩
    obtain ⟨nm, es1, ep1, raw, dat, ex, len, _, ents⟩ := ent_T I hd
    cases hod.symm.trans dat
    have hi2 : i < es.size := by rw [len]; exact hi
    obtain ⟨⟨k, v⟩, hkv⟩ : ∃ p, kvs[i]? = some p := ⟨_, List.getElem?_eq_getElem hi⟩
    obtain ⟨en, q, g1, g2, g3, g4⟩ := ents i k v hkv
    have g5 : es[i] = en := by
      rw [Array.getElem?_eq_getElem hi2] at g1
      exact Option.some.inj g1
    rw [← len] at e
    have low : it < s.heap.objs.size := Heap.lt_size e
    refine DT.nextI e raw hi2 fun h1 out tup sz old => ?_
    refine ⟨_, rfl, wpAny_letOwnedTupleGo_items (s := { s with heap := h1 }) out fun h2 back sb => ?_⟩
    have tup2 : h2.get? s.heap.objs.size = some { cls := .type "tuple", data := .seq #[es[i].key, es[i].val] } := (sb.2 _ (Nat.ne_of_gt low)).trans tup
    rw [g5] at tup2 back
    have made : ObjOk X.prog X.w (upd H s.heap.objs.size (.tup [.ref q, v])) h2 s.heap.objs.size (.tup [.ref q, v]) :=
      ⟨by show 2 ≤ sizeLine; decide, [en.key, en.val], .cons g2 (.cons g3 .nil), ⟨_, tup2, rfl, _, rfl⟩⟩
    have J := I.turnedNew (t' := s.toks) (ch := [it]) (h' := h2) (fun b ob hb z => (sb.2 b (fun y => hb (by rw [y]; exact mem))).trans (old b ob (fun y => hb (by rw [y]; exact mem)) z)) fp (Nat.le_refl _) made
    refine ⟨.ref s.heap.objs.size, _, J, rfl, ⟨_, k, v, q, hkv, g4, rfl, I.hok.fresh (Nat.le_refl _), rfl⟩, ⟨en.key, en.val, ?_⟩, fun b hb => ?_⟩
    · rw [← len]
      exact back
    · rw [List.mem_singleton.mp hb, upd_ne (Nat.ne_of_lt low)]
      exact (fp it mem).1
  · rintro X rfl rfl rfl hc i pins s σ H E I fp ⟨ok, ov, e⟩ ⟨hd, hi⟩
    obtain ⟨nm, es1, ep1, raw, dat, ex, len, _, ents⟩ := ent_T I hd
    cases hod.symm.trans dat
    obtain ⟨f0, f1, f2, f3, f4, f5⟩ := fp it mem
    rw [← len] at e hi
    exact DT.endI (I.ok.hd hc) e raw hi fun h1 eb => ⟨rfl, I.turned (t' := s.toks) (fun b ob hb z => eb b ob hb z) f0 f1 f3 f4 f5⟩
  · rintro A i s Q E ⟨ok, ov, e⟩ hq
    exact PySem.W.kcp_self e hq
/-- d.items() of a locked dict with tuple keys -/
def iItp (td : TE) : TI := fun σ H R => td σ H fun x H1 => ∃ d o kvs, x = .ref d ∧ H1 d = some (.frz o (.dT kvs)) ∧ R (Itp d o kvs) H1
theorem pi_itp {X : Cx} {e : Expr} {td : TE} {apos cpos : Pos} {elts : List Expr} {kk : Nat} {tpos : Pos} (he : PE X e td) (hb : attributeBase e "items" X.env (eval e X.env) = eval e X.env := by rfl) (hl : (apos.endLine == cpos.line) = true := by rfl) :
    PI X (.Tuple elts kk tpos) (.Call (.Attribute e "items" apos) [] [] cpos) (iItp td) := by
  constructor
  intro pins s σ H R I h
  refine wpAny_Call_method (T := "dict") (id := "dict.items") hb rfl hl F.plainAttrs_dict F.slot_dict_items F.type_dict_items (thn (he.run pins s σ H _ I h) ?_)
  rintro u s1 ⟨x, H1, J, rx, d, o, kvs, rfl, hd, q⟩
  cases rx
  obtain ⟨nm, es, ep, raw, dat, ex, len, _, ents⟩ := ent_T J hd
  refine ⟨raw.typeIs, ?_, ?_⟩
  · intro a e
    cases e
    obtain ⟨oo, g, ed, _⟩ := raw
    exact ⟨oo, g, ed.2.1⟩
  have J2 : Inv X pins σ H1 { s1 with heap := s1.heap.push { cls := .type "dict_items", data := .fields #[.ref d] } } := J.kept (t' := s1.toks) fun b ob z => Heap.get?_push_of_some _ z
  show wpAny _ _ (callWith cpos (.builtin "dict.items") [.ref d] [] []) _ X.xe s1
  refine method_meetsIn F.slot_dict_items F.entry_dict_items rfl (PySem.evalArgs_none ⟨rfl, raw.typeIs, F.args_dict_items_1 _, _, DT.meetsItems (es := es) (ep := ep) nm, ⟨raw, ?_⟩⟩)
  refine DT.iterI (d := d) ⟨_, Heap.get?_push_size _ rfl, rfl, rfl⟩ (raw.push _) (pi_one (tk := s1.toks) J2 _ (turn_p _ dat) ⟨.none, .none, ?_⟩ q)
  rw [← len]
  exact Heap.get?_push_size _ rfl
theorem walk_itp {d : Addr} {o : Obj} {kvs : List (List L2.Key × V)} : Walk (Itp d o kvs) kvs.length (fun H => H d = some (.frz o (.dT kvs))) (fun i H x H' => ∃ T k v q, kvs[i]? = some (k, v) ∧ H q = some (.tup (k.map kV)) ∧ x = .ref T ∧ H T = none ∧ H' = upd H T (.tup [.ref q, v])) :=
  ⟨fun i H hi q => ⟨q, hi⟩, fun H q => ⟨q, Nat.le_refl _⟩, fun i H x H' hi q y => y⟩
end Rw

set_option Elab.async false
set_option linter.all false
set_option maxRecDepth 100000
set_option maxHeartbeats 1500000
/-! TkHB: a dict with tuple keys made by a comprehension. -/
namespace Rw
open PySem PySem.Spec PyProof.Rows L2
section
variable {X : Cx}
/-- a tuple of ints and texts put as a key -/
theorem put_T {pins : List (Addr × Obj)} {σ : L2.St} {H : Hp} {s : Shared} {E : Value → Shared → Prop} {D q : Addr} {kvs : List (List L2.Key × V)} {k : List L2.Key} {v : V} {r : Value} {Q : Unit → Shared → Prop} (hu : X.A.units < cLine) (I : Inv X pins σ H s)
    (e : H D = some (.dT kvs)) (eq : H q = some (.tup (k.map kV))) (l : kvs.length < sizeLine) (rv : RelV v r) (h : ∀ s', Inv X pins σ (upd H D (.dT (putK kvs k v))) s' → Q () s') : wpAny (model X.prog X.w) X.A (dictSet D (.ref q) r) Q E s := by
  obtain ⟨_, nm, xs, rel, raw⟩ := dt_of I.hok e
  have few : xs.length ≤ sizeLine := by
    have := Paired.length rel
    omega
  have most : (putK kvs k v).length ≤ sizeLine := Nat.le_trans (length_putK kvs k v) l
  refine wpAny_dictSet_heap (hsz := few) hu (key_of I.hok eq) raw fun h1 raw1 sb => h _ ?_
  obtain ⟨ob, es, ep, g1, g2, g3, g4, _, g5⟩ := raw1
  refine d_write I (by rw [e]; exact True.intro) sb ⟨ob, g1⟩ ⟨most, nm, _, (rel.put k eq rv).keeps fun c ys ec => ?_, ob, es, ep, g1, g2, g3, g4, g5⟩
  have ne : c ≠ D := fun z => by rw [z, e] at ec; cases ec
  rw [upd_ne ne]
  exact ec
/-- what {k: v for target in iter if ..} asks, its keys tuples: D the new dict -/
def tDcT (wi : TI) (g : TG) (tt : TT) (tk tv : TE) (vs : List Nat) : TE := fun σ H Q => wi σ H fun J H1 => ∀ D, H1 D = none →
  ∃ W : Nat → Nat → Hp → Prop, (∃ m, W 0 m (upd H1 D (.dT []))) ∧ ∀ i m G, W i m G → (J.stop i G ∧ Q (.ref D) G) ∨ (J.go i G ∧ ∃ Nx : Hp → Prop, (∀ G', Nx G' → ∃ m', m' < m ∧ W (i + 1) m' G') ∧
    ∀ x G', J.yld i G x G' → g x (wipe σ vs) G' fun σ2 G2 => wipe σ2 vs = wipe σ vs ∧ tt σ2 G2 fun b G3 =>
      if b = true then tk σ2 G3 fun y G4 => tv σ2 G4 fun z G5 => ∃ kvs k q, y = .ref q ∧ G5 q = some (.tup (k.map kV)) ∧ G5 D = some (.dT kvs) ∧ kvs.length < sizeLine ∧ Nx (upd G5 D (.dT (putK kvs k z))) else Nx G3)
theorem pe_dcT {kx vx tg iter : Expr} {ifs : List Expr} {scope : Scope} {own : List (Str × Nat)} {pos : Pos} {wi : TI} {g : TG} {tt : TT} {tk tv : TE} (hu : X.A.units < cLine) (hc : X.calm = true) (hN : X.N.Nodup) (hi : PI X tg iter wi) (ok : BlkOk X.N X.env.scope scope own)
    (hg : ∀ (s : Shared) (H : Hp) (C : Addr) (cl : List (Str × Addr)) (fp : List Addr), PG (X.blk s H scope (compEnvC scope cl C X.env) fp) tg g)
    (ht : ∀ (s : Shared) (H : Hp) (C : Addr) (cl : List (Str × Addr)) (fp : List Addr), PTs (X.blk s H scope (compEnvC scope cl C X.env) fp) ifs tt) (hk : ∀ (s : Shared) (H : Hp) (C : Addr) (cl : List (Str × Addr)) (fp : List Addr), PE (X.blk s H scope (compEnvC scope cl C X.env) fp) kx tk)
    (he : ∀ (s : Shared) (H : Hp) (C : Addr) (cl : List (Str × Addr)) (fp : List Addr), PE (X.blk s H scope (compEnvC scope cl C X.env) fp) vx tv)
    (hs : ∀ x, foldedSetIterable iter X.env x = pure x := by intro _; rfl) : PE X (.DictComp kx vx [⟨tg, iter, ifs, 0⟩] scope pos) (tDcT wi g tt tk tv (own.map (·.2))) := by
  constructor
  intro pins s σ H Q I h
  rw [arm_eval_DictComp]
  have cells : ∀ y ∈ scope.names, y.2 = .free → ∃ c, X.env.cells.lookup y.1 = some c := fun y hy e => (ok.free y hy e).elim (fun k => I.ok.has _ (.inl k)) fun k => I.ok.has _ (.inr k)
  refine wpAny_comprehension_free (use := none) rfl hs (closure_ok cells) ok.kind (fun y hy e => by rw [ok.uniq y hy, e]) (thn (hi.run pins s σ H _ I h) fun src s1 w1 => thn w1 fun itr s2 w2 => ?_)
  obtain ⟨it, fp, tn, J, G, rfl, I2, T, st2, f2, q⟩ := w2
  refine wpAny_newObj_type ?_
  refine newEnv_comp ?_
  obtain ⟨D, eD⟩ : ∃ D, s2.heap.objs.size = D := ⟨_, rfl⟩
  have freeD : G D = none := I2.hok.fresh (Nat.le_of_eq eD)
  obtain ⟨W, ⟨m0, first⟩, turn⟩ := q D freeD
  rw [eD]
  -- the dict is laid
  have I3 : Inv X pins σ (upd G D (.dT [])) { s2 with heap := s2.heap.push { cls := .type "dict", data := .dict #[] } } := by
    refine I2.laid (t' := s2.toks) (fun b o e => Heap.get?_push_of_some _ e) (Nat.le_of_eq eD) ?_
    have := dt_empty (P := X.prog) (w := X.w) (H := upd G D (.dT [])) s2.heap I2.big
    rw [eD] at this
    exact this
  obtain ⟨s3, e3⟩ : ∃ s3 : Shared, s3 = { s2 with heap := s2.heap.push { cls := .type "dict", data := .dict #[] } } := ⟨_, rfl⟩
  have hp3 : s3.heap = s2.heap.push { cls := .type "dict", data := .dict #[] } := by rw [e3]
  rw [← e3] at I3 ⊢
  have low : ∀ b ∈ fp, b < s2.heap.objs.size := fun b hb => (T.obj _ _ st2 b hb).elim fun o e => Heap.lt_size e.1
  have ne0 : ∀ b ∈ fp, b ≠ D := fun b hb z => Nat.lt_irrefl D (by have := low b hb; rw [eD, z] at this; exact this)
  have f3 : ∀ b ∈ fp, FpOk X pins (upd G D (.dT [])) b ∧ b < s3.heap.objs.size := fun b hb =>
    ⟨⟨by rw [upd_ne (ne0 b hb)]; exact (f2 b hb).1, (f2 b hb).2⟩, by rw [hp3, Heap.size_push]; exact Nat.lt_succ_of_lt (low b hb)⟩
  have st3 : tn 0 s3.heap := T.keep _ _ _ st2 fun b _ o e => by rw [hp3]; exact Heap.get?_push_of_some _ e
  have B4 := block_start I3 ok hN f3
  have qg := hg s3 (upd G D (.dT [])) s3.heap.objs.size (cellsFrom (s3.heap.objs.size + 1) scope.names (cloFrom X.env.cells scope.names [])) fp
  have qt := ht s3 (upd G D (.dT [])) s3.heap.objs.size (cellsFrom (s3.heap.objs.size + 1) scope.names (cloFrom X.env.cells scope.names [])) fp
  have qk := hk s3 (upd G D (.dT [])) s3.heap.objs.size (cellsFrom (s3.heap.objs.size + 1) scope.names (cloFrom X.env.cells scope.names [])) fp
  have qe := he s3 (upd G D (.dT [])) s3.heap.objs.size (cellsFrom (s3.heap.objs.size + 1) scope.names (cloFrom X.env.cells scope.names [])) fp
  have off : ∀ b ∈ fp, (upd G D (.dT [])) b = none := fun b hb => (f3 b hb).1.1
  obtain ⟨ce, ece⟩ : ∃ ce, ce = compEnvC scope (cellsFrom (s3.heap.objs.size + 1) scope.names (cloFrom X.env.cells scope.names [])) s3.heap.objs.size X.env := ⟨_, rfl⟩
  have loc : ce.locals = s3.heap.objs.size := by rw [ece] <;> rfl
  show codeAny (model X.prog X.w) X.A (.compStart (.DictComp kx vx [⟨tg, iter, ifs, 0⟩] scope pos) 0 (.ref it) (.ref D) (compEnvC scope (cellsFrom (s3.heap.objs.size + 1) scope.names (cloFrom X.env.cells scope.names [])) s3.heap.objs.size X.env)) (compPost (model X.prog X.w) X.A X.xe none (EP X pins σ Q) (.ref D) s3.heap.objs.size) { s3 with heap := pushCells (s3.heap.push { cls := .type "dict", data := .dict #[] }) scope.names }
  rw [← ece] at B4 qg qt qk qe ⊢
  obtain ⟨G3, eG3⟩ : ∃ G3, G3 = upd G D (.dT []) := ⟨_, rfl⟩
  rw [← eG3] at I3 B4 qg qt qk qe first off f3
  obtain ⟨s4, e4⟩ : ∃ s4 : Shared, s4 = { s3 with heap := pushCells (s3.heap.push { cls := .type "dict", data := .dict #[] }) scope.names } := ⟨_, rfl⟩
  rw [← e4] at B4 ⊢
  have st4 : tn 0 s4.heap := T.keep _ _ _ st3 fun b _ o e => by rw [e4]; exact pushCells_keeps _ _ _ _ (Heap.get?_push_of_some _ e)
  have own4 : ∀ {τ : L2.St} {G' : Hp} {s' : Shared}, Inv (X.blk s3 G3 scope ce fp) [] τ G' s' → (∀ b ∈ fp, G' b = none) → ∀ b ∈ fp, FpOk (X.blk s3 G3 scope ce fp) [] G' b := fun {τ G' s'} L hn b hb =>
    ⟨hn b hb, (L.ok.exf b hb).1, L.ok.exfs b hb, .inl hb, (L.ok.exf b hb).2, fun p hp => absurd (show p ∈ ([] : List (Addr × Obj)) ++ [] from hp) (by simp)⟩
  have loop : codeAny (model X.prog X.w) X.A (.compLoop (.DictComp kx vx [⟨tg, iter, ifs, 0⟩] scope pos) 0 (.ref it) (.ref D) ce) (compPost (model X.prog X.w) X.A X.xe none (EP X pins σ Q) (.ref D) s3.heap.objs.size) s4 := by
    refine compLoop_anyD (fun n s' => ∃ i G', Inv (X.blk s3 G3 scope ce fp) [] (wipe σ (own.map (·.2))) G' s' ∧ tn i s'.heap ∧ (∀ b ∈ fp, G' b = none) ∧ W i n G') ?_ m0 ⟨0, G3, B4, st4, off, first⟩
    rintro n s5 ⟨i, G5, I5, st5, n5, w5⟩
    rcases turn i n G5 w5 with ⟨over, res⟩ | ⟨more, Nx, hNx, step⟩
    · refine thnF (T.done (X.blk s3 G3 scope ce fp) rfl rfl rfl hc i [] s5 _ G5 (fun _ _ => False) I5 (own4 I5 n5) st5 over) ?_
      rintro r s6 ⟨rfl, I6⟩
      have back : Inv X pins σ G5 s6 := I3.call' (ch := fp) I6.os I6.base I6.hok I6.bare fun b hb =>
        let z := (f3 b hb).1.2
        ⟨z.2.2.1, z.1, z.2.2.2.1, z.2.2.2.2⟩
      have nl : G5 s3.heap.objs.size = none := by rw [← loc]; exact I6.free
      obtain ⟨mm, hn, _⟩ := I6.loc
      have hn : s6.heap.Ns ce.locals mm := hn
      rw [loc] at hn
      obtain ⟨f0, f1, f2', f3', f4, f5⟩ := I3.fpOk (Nat.le_refl _) nl
      exact ⟨mm, hn, fun h'' sb => ⟨.ref D, G5, back.turned (t' := s6.toks) (fun b o hb e => (sb.2 b hb).trans e) f0 f1 f3' f4 f5, rfl, res⟩⟩
    · refine thnF (T.item (X.blk s3 G3 scope ce fp) rfl rfl rfl hc i [] s5 _ G5 (fun _ _ => False) I5 (own4 I5 n5) st5 more) ?_
      rintro r s6 ⟨u, rfl, h6⟩
      refine thnF h6 ?_
      rintro _ s7 ⟨x, G7, I7, r7, y7, st7, n7⟩
      have I7p := I7.pinned (own4 I7 n7) (T.obj _ _ st7)
      refine thnF (qg.run _ s7 _ G7 x u _ I7p r7 (step x G7 y7)) ?_
      rintro _ s8 ⟨τ, G8, I8, wip, q8⟩
      refine thnF (qt.run _ s8 τ G8 _ I8 q8) ?_
      rintro b s9 ⟨G9, I9, q9⟩
      have finish : ∀ {s' : Shared} {G' : Hp}, Inv (X.blk s3 G3 scope ce fp) ([] ++ pinsAt fp s7.heap) τ G' s' → Nx G' → ∃ m, m < n ∧ ∃ i G', Inv (X.blk s3 G3 scope ce fp) [] (wipe σ (own.map (·.2))) G' s' ∧ tn i s'.heap ∧ (∀ b ∈ fp, G' b = none) ∧ W i m G' := fun {s' G'} I' nx => by
        obtain ⟨m', hm, w'⟩ := hNx G' nx
        have same : ∀ b ∈ fp, ∀ o, s7.heap.get? b = some o → s'.heap.get? b = some o ∧ G' b = none := fun b hb o e =>
          have z := I'.pin (b, o) (List.mem_append_right _ (List.mem_append_right _ (mem_pinsAt hb e))); ⟨z.1, z.2.1⟩
        have len : (wipe σ (own.map (·.2))).length = τ.length := by rw [← wip, wipe_length]
        refine ⟨m', hm, i + 1, G', (I'.unpinned (pins := [])).weak len (fun j v e => ?_), T.keep _ _ _ st7 fun b hb o e => (same b hb o e).1, fun b hb => ?_, w'⟩
        · rw [← wip] at e
          exact (wipe_some e).1
        · obtain ⟨ob, eb, _⟩ := T.obj _ _ st7 b hb
          exact (same b hb ob eb).2
      cases b with
      | false => exact finish I9 q9
      | true =>
        have q9' : tk τ G9 _ := q9
        refine thnF (qk.run _ s9 τ G9 _ I9 q9') ?_
        rintro z s10 ⟨yk, G10, I10, r10, q10⟩
        refine thnF (qe.run _ s10 τ G10 _ I10 q10) ?_
        rintro z2 s11 ⟨yv, G11, I11, r11, kvs, k, qa, rfl, hq, hD11, hz, nx⟩
        cases r10
        exact put_T (X := X.blk s3 G3 scope ce fp) hu I11 hD11 hq hz r11 fun s12 I12 => finish I12 nx
  refine codeAny_compStart_dict loop ?_
  exact T.self X.A 0 _ _ _ st4 loop
end
end Rw

set_option Elab.async false
set_option linter.all false
set_option maxRecDepth 100000
set_option maxHeartbeats 4000000
/-! TkEB: enumerate of a text. -/
namespace Rw
open PySem PySem.Spec PyProof.Rows L2
/-- the signs of a text, each in a new pair with its number -/
def ItES (x : Str) : It :=
  ⟨fun i _ => i < x.cps.size, fun i H v H' => ∃ T c, v = .ref T ∧ H T = none ∧ H' = upd H T (.tup [.int (i : Nat), .str ⟨#[c]⟩]) ∧ x.cps[i]? = some c, fun i _ => x.cps.size ≤ i⟩
theorem turn_enumS {P : Program} {w : World} {K : PySem.W.Frag} {elts : List Expr} {kk : Nat} {tpos : Pos} (x : Str) (t : Tok) (e it : Addr) :
    Turn P w K (.Tuple elts kk tpos) (ItES x) [e, it] e (fun i h => i ≤ x.cps.size ∧ (∃ old, IsEnum h e it ((i : Nat) : Int) old) ∧ h.IsStrIter it (strIterType x) x t i ∧ e ≠ it) where
  mem := by simp
  obj := fun i h st b hb => by
    obtain ⟨_, ⟨old, he⟩, ⟨o, e1, c, d⟩, _⟩ := st
    have e' : b = e ∨ b = it := by simpa using hb
    rcases e' with z | z
    · rw [z]; exact ⟨_, he, fun v q => nomatch q⟩
    · rw [z]; exact ⟨o, e1, fun v z => by rw [d] at z; cases z⟩
  keep := fun i h h' st k => let ⟨l, ⟨old, he⟩, ⟨o, ho, r⟩, hne⟩ := st; ⟨l, ⟨old, k e (by simp) _ he⟩, ⟨o, k it (by simp) o ho, r⟩, hne⟩
  item := by
    intro X hP hw hK hc i pins s σ H E I hf st hg
    subst hP hw hK
    obtain ⟨_, ⟨old, he⟩, hit, hne⟩ := st
    have hel : e < s.heap.objs.size := Heap.lt_size he
    have hil : it < s.heap.objs.size := by obtain ⟨_, q, _⟩ := hit; exact Heap.lt_size q
    have hd : X.A.in1.handled = none := I.ok.hd hc
    have hef : e ∉ [it] := by simp; exact hne
    refine wpAny_pyNext_enum_itemD (Draws.text hd it x t) he hit hg hne hef fun x1 h' tk e1 ho hs' hT hsz hk => ?_
    obtain ⟨c, u, hcx, rfl⟩ := e1
    refine ⟨_, rfl, wpAny_letOwnedTupleGo_enum (s := { s with heap := h', toks := tk + 1 }) ho fun h'' he' sb => ?_⟩
    have hT2 : h''.get? s.heap.objs.size = some { cls := .type "tuple", data := .seq #[.int i tk, .str ⟨#[c]⟩ u] } := (sb.2 _ (Nat.ne_of_gt hel)).trans hT
    have new : ObjOk X.prog X.w (upd H s.heap.objs.size (.tup [.int (i : Nat), .str ⟨#[c]⟩])) h'' s.heap.objs.size (.tup [.int (i : Nat), .str ⟨#[c]⟩]) :=
      ⟨by show 2 ≤ sizeLine; decide, [.int i tk, .str ⟨#[c]⟩ u], .cons ⟨_, rfl⟩ (.cons ⟨_, rfl⟩ .nil), ⟨_, hT2, rfl, _, rfl⟩⟩
    have I1 : Inv X pins σ (upd H s.heap.objs.size (.tup [.int (i : Nat), .str ⟨#[c]⟩])) { s with heap := h'', toks := tk + 1 } :=
      I.turnedNew (t' := tk + 1) (ch := [e, it]) (fun b ob hb q => (sb.2 b (fun z => hb (by simp [z]))).trans (hk b ob (fun z => hb (by simp [z])) (fun z => hb (by simp [z])) q)) hf (Nat.le_refl _) new
    obtain ⟨oo, eo, co, dd⟩ := hs'
    have he2 : IsEnum h'' e it ((i + 1 : Nat) : Int) (.str ⟨#[c]⟩ u) := by
      have e1 : ((i + 1 : Nat) : Int) = (i : Int) + 1 := by omega
      rw [e1]; exact he'
    refine ⟨.ref s.heap.objs.size, _, I1, rfl, ⟨_, c, rfl, I.hok.fresh (Nat.le_refl _), rfl, hcx⟩, ⟨Nat.succ_le_of_lt hg, ⟨.str ⟨#[c]⟩ u, he2⟩, ⟨oo, (sb.2 it (Ne.symm hne)).trans eo, co, dd⟩, hne⟩, fun b hb => ?_⟩
    · have hb' : b < s.heap.objs.size := by
        have e' : b = e ∨ b = it := by simpa using hb
        rcases e' with z | z
        · rw [z]; exact hel
        · rw [z]; exact hil
      rw [upd_ne (Nat.ne_of_lt hb')]
      exact (hf b hb).1
  done := by
    intro X hP hw hK hc i pins s σ H E I hf st hg
    subst hP hw hK
    obtain ⟨hl, ⟨old, he⟩, hit, hne⟩ := st
    obtain ⟨f0, f1, f2, f3, f4, f5⟩ := hf it (by simp)
    have hd : X.A.in1.handled = none := I.ok.hd hc
    have ei : i = x.cps.size := Nat.le_antisymm hl hg
    subst ei
    refine wpAny_pyNext_enum_endD (Draws.text hd it x t) he hit fun h' eb => ⟨rfl, I.turned (t' := s.toks) (fun b o hb q => eb b o hb q) f0 f1 f3 f4 f5⟩
  self := fun A i s Q E st h => let ⟨_, ⟨_, he⟩, _⟩ := st; wpAny_pyIter_enum he h
def iEnumS (ta : TA) : TI := fun σ H R => ta σ H fun vs H1 => ∃ x, vs = [.str x] ∧ R (ItES x) H1
theorem pi_enumS {X : Cx} {e : Expr} {ta : TA} {p pos tpos : Pos} {elts : List Expr} {kk : Nat} (hg : Gl X "enumerate") (hm : X.mg "enumerate" = none) (ha : PA X [e] ta) (hs : starEach [e] X.env = [(false, eval e X.env)] := by rfl) :
    PI X (.Tuple elts kk tpos) (.Call (.Name "enumerate" p) [e] [] pos) (iEnumS ta) := by
  refine ⟨fun pins s σ H R I h => ?_⟩
  refine Call_ (ld_blt I hg hm boot_enumerate (PyProof.Rows.callWith_type1 (thn (ha.run pos pins s σ H _ I h) fun us s1 ⟨vs, H1, I1, r1, q1⟩ => ?_) hs rfl))
  obtain ⟨x, ex, q⟩ := q1
  subst ex
  obtain ⟨u, rfl, t, rfl⟩ := vals1 r1
  refine call_enum1 (begins_text x t) trivial fun h' he hit hsz hk => wpAny_pyIter_enum he ?_
  have I2 : Inv X pins σ H1 { s1 with heap := h' } := I1.kept (t' := s1.toks) hk
  refine ⟨s1.heap.objs.size + 1, [s1.heap.objs.size + 1, s1.heap.objs.size], _, _, H1, rfl, I2, turn_enumS x t (s1.heap.objs.size + 1) s1.heap.objs.size, ⟨Nat.zero_le _, ⟨.none, he⟩, ⟨_, hit, rfl, rfl⟩, Nat.succ_ne_self _⟩, fun b hb => ?_, q⟩
  have e' : b = s1.heap.objs.size + 1 ∨ b = s1.heap.objs.size := by simpa using hb
  have hle : s1.heap.objs.size ≤ b := by
    rcases e' with z | z
    · rw [z]; exact Nat.le_add_right _ _
    · rw [z]; exact Nat.le_refl _
  exact I1.fpOk hle (I1.hok.fresh hle)
theorem walk_enumS {x : Str} : Walk (ItES x) x.cps.size (fun _ => True) (YPair (fun i => some (.int (i : Nat))) (fun i => (x.cps[i]?).map fun c => .str ⟨#[c]⟩)) := by
  refine ⟨fun i _ hi _ => hi, fun _ _ => Nat.le_refl _, fun i H v H' _ _ y => ?_⟩
  obtain ⟨T, c, h1, h2, h3, h4⟩ := y
  exact ⟨T, .int (i : Nat), .str ⟨#[c]⟩, h1, h2, h3, rfl, by show (x.cps[i]?).map _ = _; rw [h4] <;> rfl⟩
end Rw

set_option Elab.async false
set_option linter.all false
set_option maxRecDepth 100000
set_option maxHeartbeats 4000000
/-! TkEC: replacing signs by signs in a text: a token must be out. -/
namespace Rw
open PySem PySem.Spec PyProof.Rows L2
/-- behind it a token is out -/
def PEK (X : Cx) (e : Expr) (t : TE) : Prop :=
  ∀ (pins : List (Addr × Obj)) (s : Shared) (σ : L2.St) (H : Hp) (Q : VK), Inv X pins σ H s → t σ H Q → wpAny (model X.prog X.w) X.A (eval e X.env) (fun u s1 => 1 ≤ s1.toks ∧ EP X pins σ Q u s1) X.xe s
section
variable {X : Cx} {e : Expr} {te : TE} {rest : List Stmt} {u : TS}
theorem pek_len {p pos : Pos} {ta : TA} (hg : Gl X "len") (hm : X.mg "len" = none) (ha : PA X [e] ta) (he : starEach [e] X.env = [(false, eval e X.env)] := by rfl) (hpl : (backTo pos (starEach [] X.env)).any (·.1) = false := by rfl) :
    PEK X (.Call (.Name "len" p) [e] [] pos) (tCB (fun xs H Q => ∃ z, xs = [.str z] ∧ z.length ≤ sizeLine ∧ Q (.int z.length) H) ta) := by
  intro pins s σ H Q I h
  refine wpAny_Call_Name_kw (ld_blt I hg hm boot_len ?_ (by decide) (by decide))
  refine PyProof.Rows.callWith_builtin1 (thn (ha.run pos pins s σ H _ I h) fun us s1 ⟨vs, H1, I1, r1, z, ez, hz, q1⟩ => ?_) he hpl
  subst ez
  obtain ⟨u, rfl, t, rfl⟩ := vals1 r1
  have hn := line63
  exact len_str (by omega) ⟨Nat.le_add_left _ _, .int z.length, H1, I1.tok _, ⟨_, rfl⟩, q1⟩
theorem pss_setK {i : Nat} {x : Str} {pos' pos : Pos} (hN : X.N.Nodup) (hi : X.N[i]? = some x) (hx : Loc X.env.scope x) (he : PEK X e te) (h2 : PSsT X rest u)
    (hs : swapsWith e (some (.Name x pos')) pos.line X.env = pure false := by rfl) (hf : X.fn x = true ∨ X.env.scope.names.lookup x = some .local := by first | exact .inl rfl | exact .inr rfl | assumption) :
    PSs X (.Assign [.Name x pos'] e pos :: rest) (tSeq (tAsg te (gName i)) u) := by
  refine ⟨fun pins s σ H D I h => ?_⟩
  refine wpAny_execs_cons (wpAny_Assign_Name (wpAny_mono (he pins s σ H _ I h) (fun v s1 q => ?_) fun _ _ z => z) hs)
  obtain ⟨hk, y, H1, I1, r1, q1⟩ := q
  refine wpAny_mono (PySem.wpAny_toks (store_ok (Q := fun _ s2 => Inv X pins (σ.set i (some y)) H1 s2) I1 hN hi hx r1 (fun _ I2 => I2) hf)) (fun _ s2 q => ?_) fun _ _ z => z.2
  exact h2 pins s2 _ H1 D (Nat.le_trans hk q.1) q.2 q1
theorem pst_set {i : Nat} {x : Str} {pos' pos : Pos} (hN : X.N.Nodup) (hi : X.N[i]? = some x) (hx : Loc X.env.scope x) (he : PET X e te)
    (hs : swapsWith e (some (.Name x pos')) pos.line X.env = pure false := by rfl) (hf : X.fn x = true ∨ X.env.scope.names.lookup x = some .local := by first | exact .inl rfl | exact .inr rfl | assumption) :
    PST X (.Assign [.Name x pos'] e pos) (tAsg te (gName i)) := by
  intro pins s σ H D h0 I h
  refine wpAny_Assign_Name (wpAny_mono (he pins s σ H _ h0 I h) (fun v s1 q => ?_) fun _ _ z => z) hs
  obtain ⟨y, H1, I1, r1, q1⟩ := q
  exact store_ok I1 hN hi hx r1 (fun s2 I2 => ⟨_, H1, I2, q1⟩) hf
theorem pet_of (he : PE X e te) : PET X e te := fun pins s σ H Q _ I h => he.run pins s σ H Q I h
def tReplL (y z : Str) (te : TE) : TE := fun σ H Q => te σ H fun v H1 => ∃ x : Str, v = .str x ∧ x.length + (x.length + 1) * z.length ≤ 16777216 ∧ Q (.str (Txt.replace x y z)) H1
theorem pet_repl {y z : Str} {j0 j1 : Nat} {c0 c1 apos pos : Pos} (he : PET X e te) (hyz : (y == z) = false := by decide)
    (hst : starEach [.Constant (.str y) j0 c0, .Constant (.str z) j1 c1] X.env = [(false, eval (.Constant (.str y) j0 c0) X.env), (false, eval (.Constant (.str z) j1 c1) X.env)] := by rfl)
    (hbase : attributeBase e "replace" X.env (eval e X.env) = eval e X.env := by rfl) (hline : (apos.endLine == pos.line) = true := by rfl) :
    PET X (.Call (.Attribute e "replace" apos) [.Constant (.str y) j0 c0, .Constant (.str z) j1 c1] [] pos) (tReplL y z te) := by
  intro pins s σ H Q h0 I h
  refine PySem.Call_method2 hbase hst hline (wpAny_mono (PySem.wpAny_toks (he pins s σ H _ h0 I h)) (fun v s1 q => ?_) fun _ _ z => z.2)
  obtain ⟨hk, w, H1, I1, r1, x, rfl, hb, q1⟩ := q
  obtain ⟨tx, rfl⟩ := r1
  have h1 : 1 ≤ s1.toks := Nat.le_trans h0 hk
  refine ⟨"str", _, F.plainAttrs_str, F.slot_str_replace, F.type_str_replace, typeIs_str _ _ _, (fun _ e => nomatch e), Calls.callWith_builtin rfl (Calls.evalArgs_plain (Calls.spliced_cons ?_))⟩
  refine Calls.Constant_str (Calls.spliced_cons (Calls.Constant_str (Calls.spliced_nil ?_)))
  exact PySem.SC.replace (Nat.pos_iff_ne_zero.mp h1) (Nat.succ_ne_zero _) (Nat.ne_of_lt (Nat.lt_succ_self _)) hyz hb fun t' k => ⟨.str (Txt.replace x y z), H1, I1.tok k, ⟨t', rfl⟩, q1⟩
end
theorem repl_map (c d : Nat) : ∀ l : List Nat, StrLaws.replL [c] [d] l = l.map fun a => if a = c then d else a
  | [] => StrLaws.replL_nil
  | a :: r => by
    have ih := repl_map c d r
    unfold StrLaws.replL at ih ⊢
    rw [StrLaws.replS, List.map_cons]
    by_cases h : a = c
    · subst h
      rw [if_pos (by rfl), if_pos rfl]
      show [d] ++ StrLaws.replS [a] [d] 0 r = _
      rw [ih] <;> rfl
    · rw [if_neg (fun z => h (by simpa using z)), if_neg h, ih]
theorem repl_sign {x y z : Str} {c d : Nat} (hy : y.cps.toList = [c]) (hz : z.cps.toList = [d]) : (Txt.replace x y z).cps.toList = x.cps.toList.map fun a => if a = c then d else a := by
  have hl : 1 ≤ y.length := by
    have : y.cps.toList.length = 1 := by rw [hy] <;> rfl
    rw [Array.length_toList] at this
    exact Nat.le_of_eq this.symm
  rw [StrLaws.replace_list hl, hy, hz, repl_map]
end Rw

set_option Elab.async false
set_option linter.all false
set_option maxRecDepth 100000
set_option maxHeartbeats 4000000
/-! TkED: bars as data; which bar leads into which. -/
namespace Rw
open PySem PySem.Spec PyProof.Rows L2
def isTupD : PyData → Bool
  | .tuple _ => true | _ => false
theorem kit_tup {K : PySem.W.Frag} (d : PyData) : PySem.W.kitOne K (.type (kindS d)) (.type "tuple") = some (isTupD d) := by
  cases d with
  | none => exact kit_ty (show kitB "NoneType" "tuple" = some false by decide +kernel)
  | bool b => exact kit_ty (show kitB "bool" "tuple" = some false by decide +kernel)
  | int i => exact kit_ty (show kitB "int" "tuple" = some false by decide +kernel)
  | str x => exact kit_ty (show kitB "str" "tuple" = some false by decide +kernel)
  | list xs => exact kit_ty (show kitB "list" "tuple" = some false by decide +kernel)
  | tuple xs => exact kit_ty (show kitB "tuple" "tuple" = some true by decide +kernel)
  | dict kvs => exact kit_ty (show kitB "dict" "tuple" = some false by decide +kernel)
/-- a bar of a pattern with k arrows -/
def isBarD (k : Nat) : PyData → Bool
  | .tuple [a, b] => inB a (.int 0) (.int (k : Nat)) && inB b a (.int (k : Nat))
  | _ => false
theorem bar_of {k : Nat} {d : PyData} (h : isBarD k d = true) : ∃ b e : Nat, d = barD (b, e) ∧ b ≤ e ∧ e ≤ k := by
  match d, h with
  | .tuple [a, b], h =>
    have h2 : (inB a (.int 0) (.int (k : Nat)) && inB b a (.int (k : Nat))) = true := h
    rw [Bool.and_eq_true] at h2
    obtain ⟨h3, h4⟩ := h2
    cases a with
    | int i =>
      cases b with
      | int j =>
        have h5 : (decide ((0 : Int) ≤ i) && decide (i ≤ (k : Nat))) = true := h3
        have h6 : (decide (i ≤ j) && decide (j ≤ (k : Nat))) = true := h4
        rw [Bool.and_eq_true] at h5 h6
        have a1 := of_decide_eq_true h5.1
        have a2 := of_decide_eq_true h6.1
        have a3 := of_decide_eq_true h6.2
        refine ⟨i.toNat, j.toNat, ?_, by omega, by omega⟩
        show PyData.tuple [.int i, .int j] = .tuple [.int (i.toNat : Nat), .int (j.toNat : Nat)]
        rw [Int.toNat_of_nonneg a1, Int.toNat_of_nonneg (by omega)]
      | _ => cases h4
    | _ => cases h3
theorem bar_is {k b e : Nat} (h1 : b ≤ e) (h2 : e ≤ k) : isBarD k (barD (b, e)) = true := by
  show (inB (.int (b : Nat)) (.int 0) (.int (k : Nat)) && inB (.int (e : Nat)) (.int (b : Nat)) (.int (k : Nat))) = true
  show ((decide ((0 : Int) ≤ (b : Nat)) && decide (((b : Nat) : Int) ≤ (k : Nat))) && (decide (((b : Nat) : Int) ≤ (e : Nat)) && decide (((e : Nat) : Int) ≤ (k : Nat)))) = true
  rw [Bool.and_eq_true, Bool.and_eq_true, Bool.and_eq_true]
  exact ⟨⟨decide_eq_true (by omega), decide_eq_true (by omega)⟩, ⟨decide_eq_true (by omega), decide_eq_true (by omega)⟩⟩
/-- a pair of ints that lies at p -/
def PairAt (H : Hp) (p : Addr) (b e : Nat) : Prop := H p = some (.tup [.int (b : Nat), .int (e : Nat)])
theorem PairAt.keep {H H' : Hp} {p : Addr} {b e : Nat} (h : PairAt H p b e) (k : Same H H') : PairAt H' p b e := k _ _ h
theorem bar_at {H : Hp} {v : V} {b e : Nat} (h : Any H v (barD (b, e))) : ∃ p, v = .ref p ∧ PairAt H p b e := by
  cases h with
  | tup e1 al =>
    cases al with
    | cons a1 al =>
      cases al with
      | cons a2 al =>
        cases al
        cases a1
        cases a2
        exact ⟨_, rfl, e1⟩
theorem PairAt.any {H : Hp} {p : Addr} {b e : Nat} (h : PairAt H p b e) : Any H (.ref p) (barD (b, e)) := .tup h (.cons (.int _) (.cons (.int _) .nil))
def leadsB (x : Str) (b e c l : Nat) : Bool :=
  if min e l < max b c then false else (b == c || (isR x (max b c - 1) == decide (c < b))) && (e == l || (isR x (min e l) == decide (l < e)))
/-! ### the promises -/
def spBarP : Sp := fun vs H Q _ => ∃ x v d, vs = [.str x, v] ∧ x.length ≤ 1000 ∧ Any H v d ∧ Q (.bl (isBarD x.length d)) H
def spCBar (CB : Addr) : Sp := fun vs H Q E => ∃ x v d, vs = [.str x, v] ∧ x.length ≤ 1000 ∧ Any H v d ∧ (isBarD x.length d = true → Q .non H) ∧ (isBarD x.length d = false → Thrown CB v H E)
def spLeads : Sp := fun vs H Q _ => ∃ (x : Str) (p q : Addr) (b e c l : Nat), vs = [.str x, .ref p, .ref q] ∧ Pat x 6 ∧ PairAt H p b e ∧ PairAt H q c l ∧ b ≤ e ∧ e ≤ x.length ∧ c ≤ l ∧ l ≤ x.length ∧ ∀ H', Same H H' → Q (.bl (leadsB x b e c l)) H'
def spInto (CT CB : Addr) : Sp := fun vs H Q E => ∃ v u z dv du dz, vs = [v, u, z] ∧ Any H v dv ∧ Any H u du ∧ Any H z dz ∧ Short dv ∧
  (isPatD dv = false → Thrown CT v H E) ∧ (∀ x, dv = .str x → isPatD dv = true → isBarD x.length du = false → Thrown CB u H E) ∧
  (∀ x, dv = .str x → isPatD dv = true → isBarD x.length du = true → isBarD x.length dz = false → Thrown CB z H E) ∧
  ∀ x b e c l, dv = .str x → Pat x 6 → du = barD (b, e) → dz = barD (c, l) → b ≤ e → e ≤ x.length → c ≤ l → l ≤ x.length → ∀ H', Same H H' → Q (.bl (leadsB x b e c l)) H'
theorem patD_is {d : PyData} (h : isPatD d = true) : ∃ x, d = .str x ∧ Pat x 6 := by
  cases d with
  | str x =>
    have h2 : (decide (x.length ≤ 6) && x.cps.toList.all isArr) = true := h
    rw [Bool.and_eq_true] at h2
    exact ⟨x, rfl, of_decide_eq_true h2.1, h2.2⟩
  | _ => cases h
/-! ### the sign of an arrow -/
theorem sign_eq {x : Str} {i c : Nat} (h : x.cps.toList[i]? = some c) (a : isArr c = true) : decide (V.str ⟨#[c]⟩ = V.str ">") = isR x i ∧ decide (V.str ⟨#[c]⟩ = V.str "<") = !isR x i := by
  have e : isR x i = (c == 62) := by
    unfold isR
    rw [h] <;> rfl
  have h2 : c = 62 ∨ c = 60 := by
    have : (c == 62 || c == 60) = true := a
    simpa using this
  rw [e]
  rcases h2 with z | z <;> subst z <;> decide
theorem arr_at {x : Str} {m i : Nat} (p : Pat x m) (h : i < x.length) : ∃ c, x.cps.toList[i]? = some c ∧ isArr c = true := by
  have h2 : i < x.cps.toList.length := by rw [Array.length_toList]; exact h
  exact ⟨_, List.getElem?_eq_getElem h2, List.all_eq_true.mp p.a _ (List.getElem_mem h2)⟩
end Rw

set_option Elab.async false
set_option linter.all false
set_option maxRecDepth 100000
set_option maxHeartbeats 4000000
/-! TkDC: x[::-1] of a text. -/
namespace Rw
open PySem PySem.Spec PyProof.Rows L2
theorem strT_len (z : Str) : z.cps.toList.length = z.length := Array.length_toList
def revS (z : Str) : Str := ⟨z.cps.toList.reverse.toArray⟩
theorem rev_list (z : Str) : (revS z).cps.toList = z.cps.toList.reverse := rfl
theorem rev_len (z : Str) : (revS z).length = z.length := by
  rw [← strT_len, rev_list, List.length_reverse, strT_len]
theorem all_pick (z : Str) : (List.range z.length).filterMap (z.cps[·]?) = z.cps.toList := PySem.W.krv_all z.cps
theorem rev_pick (z : Str) : (⟨((Builtin.Str.strSliceIndices none none (-1) z.length).filterMap (z.cps[·]?)).toArray⟩ : Str) = revS z := by
  have e : Builtin.Str.strSliceIndices none none (-1) z.length = (List.range z.length).map fun k => z.length - 1 - k := PySem.W.krv_sliceRange z.length
  rw [e, PySem.W.krv_range, List.filterMap_reverse, all_pick] <;> rfl
def tRevS (te : TE) : TE := fun σ H Q => te σ H fun x H1 => ∃ z, x = .str z ∧ z.length ≤ sizeLine ∧ Q (.str (revS z)) H1
section
variable {X : Cx}
theorem pe_revS {e : Expr} {te : TE} {k : Nat} {p1 p2 p3 pos : Pos} (he : PE X e te) : PE X (.Subscript e (.Slice none none (some (.UnaryOp .USub (.Constant (.int 1) k p1) p2)) p3) pos) (tRevS te) := by
  refine ⟨fun pins s σ H Q I h => ?_⟩
  refine Subscript_ (thn (he.run pins s σ H _ I h) fun v s1 ⟨x, H1, I1, r1, q1⟩ => ?_)
  obtain ⟨z, ex, hz, q⟩ := q1
  subst ex
  obtain ⟨t, rfl⟩ := r1
  have hst : PO X (some (.UnaryOp .USub (.Constant (.int 1) k p1) p2)) (tPart (tUn (rU fun i => .int (-i)) (tC (.int 1)))) := po_some (pe_un un_neg pe_int)
  refine wpAny_Slice (thn (po_none.run pins s1 σ H1 (fun o H2 => o = none ∧ H2 = H1) I1 ⟨rfl, rfl⟩) fun vl s2 ⟨l, H2, I2, pl, el, e2⟩ => ?_)
  subst el e2
  refine thn (po_none.run pins s2 σ H2 (fun o H3 => o = none ∧ H3 = H2) I2 ⟨rfl, rfl⟩) fun vu s3 ⟨u, H3, I3, pu, eu, e3⟩ => ?_
  subst eu e3
  refine thn (hst.run pins s3 σ H3 (fun o H4 => o = some (-1) ∧ H4 = H3) I3 ⟨1, rfl, -1, rfl, rfl, rfl⟩) fun vs s4 ⟨o, H4, I4, ps, eo, e4⟩ => ?_
  subst eo e4
  have I5 : Inv X pins σ H4 { s4 with heap := s4.heap.push { cls := .type "slice", data := .fields #[vl, vu, vs] } } := I4.kept (t' := s4.toks) fun b ob q => Heap.get?_push_of_some _ q
  obtain ⟨l, rfl, el⟩ := IsPart.raw pl
  obtain ⟨u, rfl, eu⟩ := IsPart.raw pu
  obtain ⟨st, rfl, es⟩ := IsPart.raw ps
  show wpAny (model X.prog X.w) X.A (subscriptTail e (.Slice none none (some (.UnaryOp .USub (.Constant (.int 1) k p1) p2)) p3) (.str z t) (.ref s4.heap.objs.size)) (EP X pins σ Q) X.xe { s4 with heap := s4.heap.push { cls := .type "slice", data := .fields #[partValue l, partValue u, partValue st] } }
  refine tail_any (ops := [.str z t, .ref s4.heap.objs.size]) (typeIs_str _ _ _) (F.slot_str_getitem.lookup) ?_ (by with_unfolding_all rfl)
  refine wpAny_getItem_str_slice (l := l) (u := u) (st := st) ⟨_, Heap.get?_push_size _ rfl, rfl, rfl⟩ (by rw [es]; rfl) ?_
  have el2 : (st.map (·.1)).getD 1 = -1 := by rw [es] <;> rfl
  have en : ((1 : Int) == -1) = false := by decide
  have e0 : (slicePicked z l u st) = Builtin.Str.strSliceIndices none none (-1) z.length := by
    unfold slicePicked
    rw [el, eu, el2]
  unfold sliceMade
  rw [e0, el2, if_neg (by simp), rev_pick]
  exact ⟨by rw [rev_len]; exact hz, .str _, H4, I5.tok _, ⟨_, rfl⟩, q⟩
end
end Rw

set_option Elab.async false
set_option linter.all false
set_option maxRecDepth 100000
set_option maxHeartbeats 4000000
/-! TkEE: 1 at all shared places, arrow by arrow; seen from the other end; readings of pairs. -/
namespace Rw
open PySem PySem.Spec PyProof.Rows L2
def heldB (b e c l p : Nat) : Bool := decide (b ≤ p ∧ p ≤ e) && decide (c ≤ p ∧ p ≤ l)
def bothB (b e k : Nat) : Bool := decide (b ≤ k) && decide (k + 1 ≤ e)
def mapAt (x : Str) (b e c l k : Nat) : Bool := (bothB b e k && heldB b e c l (goA x k)) == (heldB b e c l (stA x k) && bothB c l k)
def isMapB (x : Str) (b e c l : Nat) : Bool := (List.range x.length).all (mapAt x b e c l) && (List.range (x.length + 1)).any (heldB b e c l)
theorem held_iff {b e c l p : Nat} : heldB b e c l p = true ↔ (b ≤ p ∧ p ≤ e) ∧ c ≤ p ∧ p ≤ l := by
  unfold heldB
  rw [Bool.and_eq_true, decide_eq_true_iff, decide_eq_true_iff]
theorem both_iff {b e k : Nat} : bothB b e k = true ↔ b ≤ k ∧ k + 1 ≤ e := by
  unfold bothB
  rw [Bool.and_eq_true, decide_eq_true_iff, decide_eq_true_iff]
theorem mapAt_iff {x : Str} {b e c l k : Nat} : mapAt x b e c l k = true ↔ (((b ≤ k ∧ k + 1 ≤ e) ∧ (b ≤ goA x k ∧ goA x k ≤ e) ∧ c ≤ goA x k ∧ goA x k ≤ l) ↔ (((b ≤ stA x k ∧ stA x k ≤ e) ∧ c ≤ stA x k ∧ stA x k ≤ l) ∧ c ≤ k ∧ k + 1 ≤ l)) := by
  unfold mapAt
  rw [beq_iff_eq, Bool.eq_iff_iff, Bool.and_eq_true, Bool.and_eq_true, both_iff, both_iff, held_iff, held_iff]
theorem ends_at (x : Str) (k : Nat) : (isR x k = true ∧ stA x k = k ∧ goA x k = k + 1) ∨ (isR x k = false ∧ stA x k = k + 1 ∧ goA x k = k) := by
  unfold stA goA
  cases h : isR x k with
  | true => exact .inl ⟨rfl, if_pos rfl, if_pos rfl⟩
  | false => exact .inr ⟨rfl, if_neg (by decide), if_neg (by decide)⟩
theorem beq_dec (r : Bool) (P : Prop) [Decidable P] : (r == decide P) = true ↔ (r = true ↔ P) := by
  by_cases h : P
  · rw [decide_eq_true h]
    cases r <;> simp [h]
  · rw [decide_eq_false h]
    cases r <;> simp [h]
theorem leads_iff {x : Str} {b e c l : Nat} : leadsB x b e c l = true ↔ max b c ≤ min e l ∧ (b = c ∨ (isR x (max b c - 1) = true ↔ c < b)) ∧ (e = l ∨ (isR x (min e l) = true ↔ l < e)) := by
  unfold leadsB
  by_cases h : min e l < max b c
  · rw [if_pos h]
    constructor
    · intro z; cases z
    · intro z; omega
  · rw [if_neg h, Bool.and_eq_true, Bool.or_eq_true, Bool.or_eq_true, beq_dec, beq_dec, beq_iff_eq, beq_iff_eq]
    constructor
    · intro z; exact ⟨by omega, z⟩
    · intro z; exact z.2
theorem isMap_leads {x : Str} {b e c l : Nat} (be : b ≤ e) (ex : e ≤ x.length) (cl : c ≤ l) (lx : l ≤ x.length) : isMapB x b e c l = leadsB x b e c l := by
  rw [Bool.eq_iff_iff, leads_iff]
  unfold isMapB
  rw [Bool.and_eq_true, List.all_eq_true, List.any_eq_true]
  constructor
  · rintro ⟨ha, p, hp, hh⟩
    have h1 := held_iff.mp hh
    have lo : max b c ≤ min e l := by omega
    refine ⟨lo, ?_, ?_⟩
    · by_cases hb : b = c
      · exact .inl hb
      · refine .inr ?_
        have h2 := mapAt_iff.mp (ha (max b c - 1) (List.mem_range.mpr (by omega)))
        rcases ends_at x (max b c - 1) with ⟨r, s, g⟩ | ⟨r, s, g⟩
        · rw [s, g] at h2
          exact ⟨fun _ => by omega, fun _ => r⟩
        · rw [s, g] at h2
          rw [r]
          exact ⟨fun z => (nomatch z), fun z => by omega⟩
    · by_cases hb : e = l
      · exact .inl hb
      · refine .inr ?_
        have h2 := mapAt_iff.mp (ha (min e l) (List.mem_range.mpr (by omega)))
        rcases ends_at x (min e l) with ⟨r, s, g⟩ | ⟨r, s, g⟩
        · rw [s, g] at h2
          exact ⟨fun _ => by omega, fun _ => r⟩
        · rw [s, g] at h2
          rw [r]
          exact ⟨fun z => (nomatch z), fun z => by omega⟩
  · rintro ⟨lo, hL, hR⟩
    refine ⟨fun k hk => ?_, max b c, List.mem_range.mpr (by omega), held_iff.mpr (by omega)⟩
    have hk2 := List.mem_range.mp hk
    rw [mapAt_iff]
    by_cases e1 : k + 1 = max b c
    · have e2 : max b c - 1 = k := by omega
      rw [e2] at hL
      rcases ends_at x k with ⟨r, s, g⟩ | ⟨r, s, g⟩
      · rw [s, g]
        have : b = c ∨ c < b := hL.imp id fun z => z.mp r
        omega
      · rw [s, g]
        have : b = c ∨ ¬ c < b := hL.imp id fun z y => by rw [z.mpr y] at r; cases r
        omega
    · by_cases e3 : k = min e l
      · rw [← e3] at hR
        rcases ends_at x k with ⟨r, s, g⟩ | ⟨r, s, g⟩
        · rw [s, g]
          have : e = l ∨ l < e := hR.imp id fun z => z.mp r
          omega
        · rw [s, g]
          have : e = l ∨ ¬ l < e := hR.imp id fun z y => by rw [z.mpr y] at r; cases r
          omega
      · rcases ends_at x k with ⟨r, s, g⟩ | ⟨r, s, g⟩
        · rw [s, g]
          omega
        · rw [s, g]
          omega
/-! ### turned about -/
/-- all arrows the other way -/
structure Flip (x y : Str) : Prop where
  len : y.length = x.length
  at' : ∀ i, i < x.length → isR y i = !isR x i
/-- seen from the other end -/
structure Back (x y : Str) : Prop where
  len : y.length = x.length
  at' : ∀ i, i < x.length → isR y i = isR x (x.length - 1 - i)
theorem leads_flip {x y : Str} {b e c l : Nat} (f : Flip x y) (be : b ≤ e) (ex : e ≤ x.length) (cl : c ≤ l) (lx : l ≤ x.length) : leadsB y c l b e = leadsB x b e c l := by
  rw [Bool.eq_iff_iff, leads_iff, leads_iff, Nat.max_comm c b, Nat.min_comm l e]
  refine and_congr Iff.rfl (and_congr ?_ ?_)
  · by_cases h : b = c
    · exact ⟨fun _ => .inl h, fun _ => .inl h.symm⟩
    · rw [f.at' (max b c - 1) (by omega)]
      cases isR x (max b c - 1) <;> simp <;> omega
  · by_cases h : e = l
    · exact ⟨fun _ => .inl h, fun _ => .inl h.symm⟩
    · rw [f.at' (min e l) (by omega)]
      cases isR x (min e l) <;> simp <;> omega
theorem leads_mirror {x y z : Str} {b e c l : Nat} (f : Flip x y) (g : Back y z) (be : b ≤ e) (ex : e ≤ x.length) (cl : c ≤ l) (lx : l ≤ x.length) : leadsB z (x.length - e) (x.length - b) (x.length - l) (x.length - c) = leadsB x b e c l := by
  have key : ∀ i, i < x.length → (isR z i = true ↔ ¬ isR x (x.length - 1 - i) = true) := fun i hi => by
    rw [g.at' i (by rw [f.len]; exact hi), f.len, f.at' _ (by omega)]
    cases isR x (x.length - 1 - i) <;> decide
  rw [Bool.eq_iff_iff, leads_iff, leads_iff]
  have a1 : max (x.length - e) (x.length - l) ≤ min (x.length - b) (x.length - c) ↔ max b c ≤ min e l := by omega
  rw [a1]
  refine and_congr_right fun lo => ?_
  have A : (x.length - e = x.length - l ∨ (isR z (max (x.length - e) (x.length - l) - 1) = true ↔ x.length - l < x.length - e)) ↔ (e = l ∨ (isR x (min e l) = true ↔ l < e)) := by
    by_cases h : e = l
    · exact ⟨fun _ => .inl h, fun _ => .inl (by omega)⟩
    · rw [key _ (by omega), show x.length - 1 - (max (x.length - e) (x.length - l) - 1) = min e l by omega]
      cases isR x (min e l) <;> simp <;> omega
  have B : (x.length - b = x.length - c ∨ (isR z (min (x.length - b) (x.length - c)) = true ↔ x.length - c < x.length - b)) ↔ (b = c ∨ (isR x (max b c - 1) = true ↔ c < b)) := by
    by_cases h : b = c
    · exact ⟨fun _ => .inl h, fun _ => .inl (by omega)⟩
    · rw [key _ (by omega), show x.length - 1 - min (x.length - b) (x.length - c) = max b c - 1 by omega]
      cases isR x (max b c - 1) <;> simp <;> omega
  rw [A, B]
  exact and_comm
end Rw

set_option Elab.async false
set_option linter.all false
set_option maxRecDepth 100000
set_option maxHeartbeats 4000000
/-! TkEF: promises about bars led into others; patterns turned about as texts; readings of pairs and chains. -/
namespace Rw
open PySem PySem.Spec PyProof.Rows L2
theorem len_toList (x : Str) : x.cps.toList.length = x.length := Array.length_toList
theorem flip_repl {x : Str} (px : Pat x 6) : Flip x (Txt.replace (Txt.replace (Txt.replace x ">" "x") "<" ">") "x" "<") ∧ Pat (Txt.replace (Txt.replace (Txt.replace x ">" "x") "<" ">") "x" "<") 6 := by
  have e1 := repl_sign (x := x) (y := ">") (z := "x") (c := 62) (d := 120) rfl rfl
  have e2 := repl_sign (x := Txt.replace x ">" "x") (y := "<") (z := ">") (c := 60) (d := 62) rfl rfl
  have e3 := repl_sign (x := Txt.replace (Txt.replace x ">" "x") "<" ">") (y := "x") (z := "<") (c := 120) (d := 60) rfl rfl
  rw [e2, e1, List.map_map, List.map_map] at e3
  generalize Txt.replace (Txt.replace (Txt.replace x ">" "x") "<" ">") "x" "<" = y at e3 ⊢
  have ln : y.length = x.length := by rw [← len_toList, e3, List.length_map, len_toList]
  refine ⟨⟨ln, fun i hi => ?_⟩, by rw [ln]; exact px.l, ?_⟩
  · obtain ⟨c, hc, ac⟩ := arr_at px hi
    unfold isR
    rw [e3, List.getElem?_map, hc]
    have h2 : c = 62 ∨ c = 60 := by
      have : (c == 62 || c == 60) = true := ac
      simpa using this
    rcases h2 with z | z <;> subst z <;> decide
  · rw [e3, List.all_map, List.all_eq_true]
    intro c hc
    have ac := List.all_eq_true.mp px.a c hc
    have h2 : c = 62 ∨ c = 60 := by
      have : (c == 62 || c == 60) = true := ac
      simpa using this
    rcases h2 with z | z <;> subst z <;> decide
theorem back_rev {y : Str} (py : Pat y 6) : Back y (revS y) ∧ Pat (revS y) 6 := by
  refine ⟨⟨rev_len y, fun i hi => ?_⟩, by rw [rev_len]; exact py.l, ?_⟩
  · unfold isR
    rw [rev_list, List.getElem?_reverse (by rw [len_toList]; exact hi), len_toList]
  · rw [rev_list, List.all_reverse]
    exact py.a
/-! ### readings -/
section
variable {K : PySem.W.Frag} {σ : L2.St} {H : Hp} {Q : VK}
abbrev rLe : R2 := rI0 fun i j => .bl (decide (i ≤ j))
theorem chain_go {ta tb tc : TE} {i j k : Nat} (ha : ∀ Q : VK, Q (.int (i : Nat)) H → ta σ H Q) (hb : ∀ Q : VK, Q (.int (j : Nat)) H → tb σ H Q) (hc : ∀ Q : VK, Q (.int (k : Nat)) H → tc σ H Q) (q : Q (.bl (decide (i ≤ j ∧ j ≤ k))) H) : tChain rLe rLe ta tb tc σ H Q := by
  refine ha _ (hb _ ⟨_, _, rfl, rfl, _, rfl, ite2 (fun z => ?_) (fun z => ?_)⟩)
  · refine hc _ ⟨_, _, rfl, rfl, ?_⟩
    have z2 : i ≤ j := by have := of_decide_eq_true z; omega
    have e : decide (i ≤ j ∧ j ≤ k) = decide ((j : Int) ≤ (k : Int)) := by
      by_cases h : j ≤ k
      · rw [decide_eq_true (⟨z2, h⟩ : i ≤ j ∧ j ≤ k), decide_eq_true (by omega)]
      · rw [decide_eq_false (fun y => h y.2), decide_eq_false (by omega)]
    rw [e] at q
    exact q
  · have z2 : ¬ i ≤ j := fun y => z (decide_eq_true (by omega))
    rw [decide_eq_false (fun y => z2 y.1)] at q
    exact q
theorem ix_go {v j : Nat} {p : Addr} {b e : Nat} {n : Nat} (h : σ[v]? = some (some (.ref p))) (hp : PairAt H p b e) (hn : ([V.int (b : Nat), V.int (e : Nat)] : List V)[j]? = some (.int (n : Nat))) : ∀ Q : VK, Q (.int (n : Nat)) H → tOp (rIxT K) (tVar v) (tC (.int (j : Nat))) σ H Q :=
  fun Q q => ⟨_, h, p, _, _, _, rfl, rfl, SqT.of hp, atI_nat hn, q⟩
theorem var_go {v : Nat} {x : V} (h : σ[v]? = some (some x)) : ∀ Q : VK, Q x H → tVar v σ H Q := fun Q q => ⟨_, h, q⟩
theorem and_go {ta tb : TE} {a b : Bool} (ha : ∀ Q : VK, Q (.bl a) H → ta σ H Q) (hb : ∀ Q : VK, Q (.bl b) H → tb σ H Q) (q : Q (.bl (a && b)) H) : tAndV ta tb σ H Q := by
  refine ha _ ⟨_, rfl, ?_⟩
  cases a with
  | true => exact iteT (hb _ q)
  | false => exact iteF q
theorem le_go {ta tb : TE} {i j : Nat} (ha : ∀ Q : VK, Q (.int (i : Nat)) H → ta σ H Q) (hb : ∀ Q : VK, Q (.int (j : Nat)) H → tb σ H Q) : ∀ Q : VK, Q (.bl (decide (i ≤ j))) H → tOp rLe ta tb σ H Q := fun Q q => by
  refine ha _ (hb _ ⟨_, _, rfl, rfl, ?_⟩)
  have e : decide (i ≤ j) = decide ((i : Int) ≤ (j : Int)) := by
    by_cases h : i ≤ j
    · rw [decide_eq_true h, decide_eq_true (by omega)]
    · rw [decide_eq_false h, decide_eq_false (by omega)]
  rw [e] at q
  exact q
end
def b2n (b : Bool) : Int := if b = true then 1 else 0
theorem b2n_mul (u v : Bool) : b2n u * b2n v = b2n (u && v) := by cases u <;> cases v <;> rfl
theorem b2n_rng (u : Bool) : -(2 ^ 64) < b2n u ∧ b2n u < 2 ^ 64 := by cases u <;> decide
theorem b2n_ne (u v : Bool) : (!decide (V.int (b2n u) = V.int (b2n v))) = !(u == v) := by cases u <;> cases v <;> decide
theorem b2n_any {α : Type} (f : α → Bool) : ∀ l : List α, decide ((1 : Int) ∈ l.map fun a => b2n (f a)) = l.any f
  | [] => rfl
  | a :: l => by
    have ih := b2n_any f l
    rw [List.map_cons, List.any_cons, ← ih]
    cases f a with
    | true => simp [b2n]
    | false => simp [b2n]
theorem succ_go {σ : L2.St} {H : Hp} {v i : Nat} (h : σ[v]? = some (some (.int (i : Nat)))) : ∀ Q : VK, Q (.int ((i + 1 : Nat) : Int)) H → tOp (rI0 fun i j => .int (i + j)) (tVar v) (tC (.int 1)) σ H Q := fun Q q => ⟨_, h, _, _, rfl, rfl, q⟩
theorem isMap_all {x : Str} {b e c l : Nat} (h : ∀ j, j < x.length → mapAt x b e c l j = true) : isMapB x b e c l = (List.range (x.length + 1)).any (heldB b e c l) := by
  unfold isMapB
  rw [List.all_eq_true.mpr fun j hj => h j (List.mem_range.mp hj), Bool.true_and]
theorem isMap_not {x : Str} {b e c l i : Nat} (hi : i < x.length) (h : mapAt x b e c l i = false) : isMapB x b e c l = false := by
  unfold isMapB
  rw [List.all_eq_false.mpr ⟨i, List.mem_range.mpr hi, by rw [h]; exact Bool.false_ne_true⟩, Bool.false_and]
theorem sub_go {σ : L2.St} {H : Hp} {ta tb : TE} {i j : Nat} (h : j ≤ i) (ha : ∀ Q : VK, Q (.int (i : Nat)) H → ta σ H Q) (hb : ∀ Q : VK, Q (.int (j : Nat)) H → tb σ H Q) : ∀ Q : VK, Q (.int ((i - j : Nat) : Int)) H → tOp (rI0 fun i j => .int (i - j)) ta tb σ H Q := fun Q q => by
  refine ha _ (hb _ ⟨_, _, rfl, rfl, ?_⟩)
  rw [Int.ofNat_sub h] at q
  exact q
theorem mem_bars {n : Nat} {q : Nat × Nat} (h : q ∈ barsL (n + 1)) : q.1 ≤ q.2 ∧ q.2 ≤ n := by
  unfold barsL preL partL at h
  obtain ⟨a, _, h2⟩ := List.mem_flatMap.mp h
  obtain ⟨b, h3, rfl⟩ := List.mem_map.mp h2
  obtain ⟨h4, h5⟩ := List.mem_filter.mp h3
  have h6 := of_decide_eq_true h5
  have h7 := List.mem_range.mp h4
  exact ⟨h6, by omega⟩
theorem isPat_of {x : Str} (px : Pat x 6) : isPatD (.str x) = true := by
  show (decide (x.length ≤ 6) && x.cps.toList.all isArr) = true
  rw [decide_eq_true px.l, px.a] <;> rfl
theorem into_go {CT CB : Addr} {x : Str} {p q : Addr} {b e c l : Nat} {H : Hp} {Q : VK} {E : XK} (px : Pat x 6) (hp : PairAt H p b e) (hq : PairAt H q c l) (be : b ≤ e) (ex : e ≤ x.length) (cl : c ≤ l) (lx : l ≤ x.length) (k : ∀ H', Same H H' → Q (.bl (leadsB x b e c l)) H') : spInto CT CB [.str x, .ref p, .ref q] H Q E := by
  refine ⟨_, _, _, .str x, barD (b, e), barD (c, l), rfl, .str x, hp.any, hq.any, pat_short px (by decide), fun z => ?_, fun y ey _ z => ?_, fun y ey _ _ z => ?_, fun y b' e' c' l' ey _ e1 e2 _ _ _ _ => ?_⟩
  · rw [isPat_of px] at z; cases z
  · cases ey; rw [bar_is be ex] at z; cases z
  · cases ey; rw [bar_is cl lx] at z; cases z
  · cases ey
    have e1' : PyData.tuple [.int (b : Nat), .int (e : Nat)] = .tuple [.int (b' : Nat), .int (e' : Nat)] := e1
    have e2' : PyData.tuple [.int (c : Nat), .int (l : Nat)] = .tuple [.int (c' : Nat), .int (l' : Nat)] := e2
    injection e1' with e1'
    injection e2' with e2'
    injection e1' with f1 f2
    injection f2 with f2 _
    injection e2' with g1 g2
    injection g2 with g2 _
    injection f1 with f1
    injection f2 with f2
    injection g1 with g1
    injection g2 with g2
    have h1 : b = b' := by omega
    have h2 : e = e' := by omega
    have h3 : c = c' := by omega
    have h4 : l = l' := by omega
    subst h1 h2 h3 h4
    exact k
/-! ### promises -/
def spIsMap : Sp := fun vs H Q _ => ∃ (x : Str) (p q : Addr) (b e c l : Nat), vs = [.str x, .ref p, .ref q] ∧ Pat x 6 ∧ PairAt H p b e ∧ PairAt H q c l ∧ ∀ H', Same H H' → Q (.bl (isMapB x b e c l)) H'
def leadsD : PyData → PyData → PyData → Bool
  | .str x, .tuple [.int b, .int e], .tuple [.int c, .int l] => leadsB x b.toNat e.toNat c.toNat l.toNat
  | _, _, _ => false
def intoDue (dv du dz : PyData) : PyData :=
  if isPatD dv = true then (if isBarD (strD dv).length du = true then (if isBarD (strD dv).length dz = true then .list [.str "told", .bool (leadsD dv du dz)] else wD "bar" dz) else wD "bar" du) else wD "pattern" dv
def spIntoC : Sp := fun vs H Q _ => ∃ v u z dv du dz, vs = [v, u, z] ∧ Any H v dv ∧ Any H u du ∧ Any H z dz ∧ Short dv ∧ ∀ l H', Same H H' → Any H' (.ref l) (intoDue dv du dz) → Q (.ref l) H'
/-- all bars both ways, in the pattern, its dual and its mirror -/
def spRightM : Sp := fun vs H Q _ => ∃ x, vs = [.str x] ∧ Pat x 6 ∧ ∀ H', Same H H' → Q (.bl true) H'
end Rw

set_option Elab.async false
set_option linter.all false
set_option maxRecDepth 100000
set_option maxHeartbeats 4000000
/-! TkEG: a text times a number; odd bars and patterns, as data. -/
namespace Rw
open PySem PySem.Spec PyProof.Rows L2
theorem op_mulS {X : Cx} : OpR X (binaryOp .Mult) (fun x y H Q => ∃ (z : Str) (n : Int), x = .str z ∧ y = .int n ∧ PySem.MulOk z n ∧ Q (.str (Txt.mul z n)) H) := by
  intro pins s σ H x y v u Q I rx ry h
  obtain ⟨z, n, rfl, rfl, hz, q⟩ := h
  obtain ⟨t, rfl⟩ := rx
  obtain ⟨t', rfl⟩ := ry
  exact PySem.SB.mul hz fun t' k => ⟨.str (Txt.mul z n), H, I.tok k, ⟨_, rfl⟩, q⟩
theorem mul7 : PySem.MulOk ">" 7 := ⟨by decide, fun _ _ => by decide +kernel, fun _ _ => by decide +kernel⟩
theorem cat_list (x y : Str) : (x ++ y).cps.toList = x.cps.toList ++ y.cps.toList := by
  show (x.cps ++ y.cps).toList = _
  rw [Array.toList_append]
/-- what is no pattern -/
def oddPats (x : Str) : List PyData := [.none, .int 3, .bool true, .list [.str ">"], .dict [], .str (x ++ "x"), .str (Txt.mul ">" 7)]
theorem oddPats_ok {x : Str} (px : Pat x 6) : ∀ d ∈ oddPats x, isPatD d = false ∧ Tq 1 d ∧ Short d := by
  intro d hd
  simp only [oddPats, List.mem_cons, List.not_mem_nil, or_false] at hd
  rcases hd with z | z | z | z | z | z | z <;> subst z
  · exact ⟨rfl, ⟨by decide, by decide, by decide +kernel⟩, fun _ e => nomatch e⟩
  · exact ⟨rfl, (tq_int (by decide)).up (by decide), fun _ e => nomatch e⟩
  · exact ⟨rfl, ⟨by decide, by decide, by decide +kernel⟩, fun _ e => nomatch e⟩
  · exact ⟨rfl, ⟨by decide, by decide, by decide +kernel⟩, fun _ e => nomatch e⟩
  · exact ⟨rfl, ⟨by decide, by decide, by decide +kernel⟩, fun _ e => nomatch e⟩
  · have e1 := cat_list x "x"
    have e2 : (("x" : String) : Str).cps.toList = [120] := rfl
    have ln : (x ++ ("x" : String)).length = x.length + 1 := by
      rw [← len_toList, e1, List.length_append, len_toList] <;> rfl
    refine ⟨?_, (tq_str (by rw [ln]; have := px.l; omega) fun z hz => ?_).up (by decide), fun y e => ?_⟩
    · show (decide ((x ++ ("x" : String)).length ≤ 6) && (x ++ ("x" : String)).cps.toList.all isArr) = false
      rw [e1, List.all_append, e2, Bool.and_comm]
      rw [show [120].all isArr = false by decide, Bool.and_false, Bool.false_and]
    · rw [e1, e2] at hz
      rcases List.mem_append.mp hz with y | y
      · exact arr_small px.a z y
      · rw [List.mem_singleton.mp y]; decide
    · cases e
      rw [ln]
      have := px.l
      omega
  · exact ⟨by decide +kernel, (tq_str (by decide +kernel) (by decide +kernel)).up (by decide), fun y e => by cases e; decide +kernel⟩
/-- what is no bar of a pattern of n arrows -/
def oddBars (n : Nat) : List PyData := [.none, .int 3, .str "01", .list [.int 0, .int 0], .tuple [.int 0], .tuple [.int 0, .int 0, .int 0], .tuple [.int 0, .int ((n : Int) + 1)], .tuple [.int (-1), .int 0], .tuple [.int 1, .int 0], .tuple [.bool false, .int 0], .tuple [.int 0, .str "0"], .tuple []]
theorem oddBars_ok {n : Nat} (h : n ≤ 6) : ∀ d ∈ oddBars n, isBarD n d = false ∧ Tq 1 d := by
  have c : ∀ n ∈ List.range 7, ∀ d ∈ oddBars n, isBarD n d = false ∧ (d.showable = true ∧ d.depth ≤ 3 + 1 ∧ d.shown.length ≤ 80 * 13 ^ 1) := by decide +kernel
  intro d hd
  obtain ⟨a, b1, b2, b3⟩ := c n (List.mem_range.mpr (by omega)) d hd
  exact ⟨a, b1, b2, b3⟩
end Rw

set_option Elab.async false
set_option linter.all false
set_option maxRecDepth 100000
set_option maxHeartbeats 1500000
/-! TkIA: tables as data; the tables with one number; the promises of the program about tables. -/
namespace Rw
open PySem PySem.Spec PyProof.Rows L2
/-- a line of a table -/
def lineB (n i : Nat) (r : PyData) : Bool := isSeqD r && (decide ((itemsD r).length + i = n) && (itemsD r).all isSzD)
def isTabD (d : PyData) : Bool := isSeqD d && ((decide (1 ≤ (itemsD d).length) && decide ((itemsD d).length ≤ 7)) && (List.range (itemsD d).length).all fun i => lineB (itemsD d).length i (atD d i))
structure WideD (d : PyData) : Prop where
  len : (itemsD d).length ≤ 1000
  sub : ∀ e, e ∈ itemsD d → (itemsD e).length ≤ 1000
/-- the table with one number -/
def lineD (c k : Nat) : PyData := .list (List.replicate k (natD c))
def tabD (c n : Nat) : PyData := .list ((List.range n).map fun a => lineD c (n - a))
structure CN (c n : Nat) : Prop where
  c : c ≤ 6
  n0 : 0 < n
  n : n ≤ 7
/-- the arrows between n places -/
def patX (k : Nat) : Str := Txt.mul ">" ((k : Nat) : Int)
def okPatX (k : Nat) : Bool := decide ((patX k).length = k) && (isPatD (.str (patX k)) && (List.range k).all fun i => isR (patX k) i)
theorem all_patX : ((List.range 7).all okPatX) = true := by decide +kernel
theorem pat_X {k : Nat} (h : k ≤ 6) : (patX k).length = k ∧ isPatD (.str (patX k)) = true ∧ ∀ i, i < k → isR (patX k) i = true := by
  have h1 := List.all_eq_true.mp all_patX k (List.mem_range.mpr (by omega))
  unfold okPatX at h1
  rw [Bool.and_eq_true, Bool.and_eq_true] at h1
  exact ⟨of_decide_eq_true h1.1, h1.2.1, fun i hi => List.all_eq_true.mp h1.2.2 i (List.mem_range.mpr hi)⟩
def numN (c n : Nat) (q : Nat × Nat) : Nat := if q.1 = 0 ∧ q.2 + 1 = n then c else 0
def keyT (q : Nat × Nat) : List Key := [.inl ((q.1 : Nat) : Int), .inl ((q.2 : Nat) : Int)]
def numK (c n : Nat) : List (List Key × V) := (barsL n).map fun q => (keyT q, .int ((numN c n q : Nat) : Int))
/-- what the number of a bar is made of -/
def valN (c n : Nat) (a b : Int) : Int := if a = -1 ∨ b = (n : Int) then 0 else ((c : Nat) : Int)
theorem num_val {c n a b : Nat} (h1 : a ≤ b) (h2 : b < n) : valN c n a b - valN c n ((a : Int) - 1) b - valN c n a ((b : Int) + 1) + valN c n ((a : Int) - 1) ((b : Int) + 1) = ((numN c n (a, b) : Nat) : Int) := by
  unfold valN numN
  by_cases e1 : a = 0 <;> by_cases e2 : b + 1 = n
  · rw [if_neg (by omega), if_pos (by omega), if_pos (by omega), if_pos (by omega), if_pos ⟨e1, e2⟩] <;> omega
  · rw [if_neg (by omega), if_pos (by omega), if_neg (by omega), if_pos (by omega), if_neg (by dsimp only; omega)] <;> omega
  · rw [if_neg (by omega), if_neg (by omega), if_pos (by omega), if_pos (by omega), if_neg (by dsimp only; omega)] <;> omega
  · rw [if_neg (by omega), if_neg (by omega), if_neg (by omega), if_neg (by omega), if_neg (by dsimp only; omega)] <;> omega
/-! ### bars -/
theorem bars_mem {n : Nat} {q : Nat × Nat} (h : q ∈ barsL n) : q.1 ≤ q.2 ∧ q.2 < n := by
  unfold barsL preL partL at h
  obtain ⟨a, h1, h2⟩ := List.mem_flatMap.mp h
  obtain ⟨b, h3, rfl⟩ := List.mem_map.mp h2
  rw [List.mem_filter, List.mem_range] at h3
  exact ⟨of_decide_eq_true h3.2, h3.1⟩
def nodupB (n : Nat) : Bool := (List.range (barsL n).length).all fun i => decide ((barsL n)[i]?.getD (9, 9) ∉ (barsL n).take i)
theorem all_nodup : ((List.range 8).all nodupB) = true := by decide +kernel
theorem bars_new {n i : Nat} {q : Nat × Nat} (h : n ≤ 7) (e : (barsL n)[i]? = some q) : q ∉ (barsL n).take i := by
  have h1 := List.all_eq_true.mp all_nodup n (List.mem_range.mpr (by omega))
  have hi : i < (barsL n).length := (List.getElem?_eq_some_iff.mp e).1
  have h2 := of_decide_eq_true (List.all_eq_true.mp h1 i (List.mem_range.mpr hi))
  rw [e] at h2
  exact h2
theorem keyT_inj {q r : Nat × Nat} (h : keyT q = keyT r) : q = r := by
  unfold keyT at h
  injection h with h1 h2
  injection h2 with h3 _
  injection h1 with h4
  injection h3 with h5
  exact Prod.ext (Int.ofNat.inj h4) (Int.ofNat.inj h5)
theorem val_none {κ : Type} [DecidableEq κ] {kvs : List (κ × V)} {k : κ} (h : ∀ p, p ∈ kvs → p.1 ≠ k) : valV kvs k = none := by
  unfold valV
  rw [List.find?_eq_none.mpr (fun p hp => by simpa using h p hp)] <;> rfl
theorem val_map {f : Nat × Nat → V} {q : Nat × Nat} : ∀ {l : List (Nat × Nat)}, q ∈ l → valV (l.map fun r => (keyT r, f r)) (keyT q) = some (f q)
  | r :: l, h => by
    by_cases e : r = q
    · subst e
      exact valV_pos rfl
    · have e2 : valV ((r :: l).map fun r => (keyT r, f r)) (keyT q) = valV (l.map fun r => (keyT r, f r)) (keyT q) := by
        unfold valV
        rw [List.map_cons, List.find?_cons_of_neg (by simpa using fun z => e (keyT_inj z))]
      rw [e2]
      exact val_map ((List.mem_cons.mp h).elim (fun z => absurd z.symm e) id)
theorem put_map {f : Nat × Nat → V} {q : Nat × Nat} {l : List (Nat × Nat)} (h : q ∉ l) : putK (l.map fun r => (keyT r, f r)) (keyT q) (f q) = (l ++ [q]).map fun r => (keyT r, f r) := by
  rw [putK_new _ (val_none fun p hp z => ?_), List.map_append] <;> try rfl
  obtain ⟨r, hr, rfl⟩ := List.mem_map.mp hp
  exact h (keyT_inj z ▸ hr)
/-- a bar as it lies -/
theorem bar_ref {H : Hp} {v : V} {q : Nat × Nat} (h : Any H v (barD q)) : ∃ t, v = .ref t ∧ H t = some (.tup [.int ((q.1 : Nat) : Int), .int ((q.2 : Nat) : Int)]) := by
  cases h with
  | tup e al =>
    cases al with
    | cons a al =>
      cases al with
      | cons b al =>
        cases al
        cases a
        cases b
        exact ⟨_, rfl, e⟩
/-! ### what is held -/
def holdB (i : Nat) (q : Nat × Nat) : Bool := decide (q.1 ≤ i) && decide (i ≤ q.2)
def sumsB (c n : Nat) : Bool := (List.range n).all fun i => decide ((((barsL n).filter (holdB i)).map fun q => ((numN c n q : Nat) : Int)).sum = ((c : Nat) : Int))
theorem all_sums : ((List.range 7).all fun c => (List.range 8).all fun n => sumsB c n) = true := by decide +kernel
theorem sums_cn {c n i : Nat} (h : CN c n) (hi : i < n) : (((barsL n).filter (holdB i)).map fun q => ((numN c n q : Nat) : Int)).sum = ((c : Nat) : Int) := by
  have h1 := List.all_eq_true.mp (List.all_eq_true.mp all_sums c (List.mem_range.mpr (by have := h.c; omega))) n (List.mem_range.mpr (by have := h.n; omega))
  exact of_decide_eq_true (List.all_eq_true.mp h1 i (List.mem_range.mpr hi))
def toldB (c n : Nat) : Bool := decide (n = 0) || decide (((barsL n).flatMap fun q => List.replicate (numN c n q) q) = List.replicate c (0, n - 1))
theorem all_told : ((List.range 7).all fun c => (List.range 8).all fun n => toldB c n) = true := by decide +kernel
theorem told_cn {c n : Nat} (h : CN c n) : ((barsL n).flatMap fun q => List.replicate (numN c n q) q) = List.replicate c (0, n - 1) := by
  have h1 := List.all_eq_true.mp (List.all_eq_true.mp all_told c (List.mem_range.mpr (by have := h.c; omega))) n (List.mem_range.mpr (by have := h.n; omega))
  unfold toldB at h1
  rw [Bool.or_eq_true] at h1
  rcases h1 with z | z
  · have := of_decide_eq_true z
    have := h.n0
    omega
  · exact of_decide_eq_true z
/-! ### the row of such numbers -/
def eqM (c : Nat) : PyData := .list ((List.range c).map fun i => .tuple ((List.range c).map fun j => .int (if i = j then 1 else 0)))
def szsD (c n : Nat) : PyData := .list (List.replicate n (natD c))
def mpsD (c n : Nat) : PyData := .list (List.replicate (n - 1) (eqM c))
def rowB (c n : Nat) : Bool := decide (n = 0) || (sizesOk (patX (n - 1)).length (szsD c n) && (mapsOk (patX (n - 1)).length (mpsD c n) && ((badAt (patX (n - 1)) (szsD c n) (mpsD c n)).isNone && ((itemsD (mpsD c n)).all fitB && decide ((itemsD (mpsD c n)).length ≤ 1000)))))
theorem all_rows : ((List.range 7).all fun c => (List.range 8).all fun n => rowB c n) = true := by decide +kernel
theorem row_cn {c n : Nat} (h : CN c n) : sizesOk (patX (n - 1)).length (szsD c n) = true ∧ mapsOk (patX (n - 1)).length (mpsD c n) = true ∧ badAt (patX (n - 1)) (szsD c n) (mpsD c n) = none ∧ FitM (mpsD c n) := by
  have h1 := List.all_eq_true.mp (List.all_eq_true.mp all_rows c (List.mem_range.mpr (by have := h.c; omega))) n (List.mem_range.mpr (by have := h.n; omega))
  unfold rowB at h1
  rw [Bool.or_eq_true] at h1
  rcases h1 with z | z
  · have := of_decide_eq_true z
    have := h.n0
    omega
  · simp only [Bool.and_eq_true] at z
    obtain ⟨z1, z2, z3, z4, z5⟩ := z
    exact ⟨z1, z2, Option.isNone_iff_eq_none.mp z3, of_decide_eq_true z5, fun e he => fit_ofB (List.all_eq_true.mp z4 e he)⟩
theorem tab_items (c n : Nat) : itemsD (tabD c n) = (List.range n).map fun a => lineD c (n - a) := rfl
theorem tab_get {c n a : Nat} (h : a < n) : (itemsD (tabD c n))[a]? = some (lineD c (n - a)) := by
  rw [tab_items, List.getElem?_map, List.getElem?_range h] <;> rfl
def okTabB (c n : Nat) : Bool := decide (n = 0) || isTabD (tabD c n)
theorem all_tab : ((List.range 7).all fun c => (List.range 8).all fun n => okTabB c n) = true := by decide +kernel
theorem tab_cn {c n : Nat} (h : CN c n) : isTabD (tabD c n) = true := by
  have h1 := List.all_eq_true.mp (List.all_eq_true.mp all_tab c (List.mem_range.mpr (by have := h.c; omega))) n (List.mem_range.mpr (by have := h.n; omega))
  unfold okTabB at h1
  rw [Bool.or_eq_true] at h1
  rcases h1 with z | z
  · have := of_decide_eq_true z
    have := h.n0
    omega
  · exact z
/-! ### the promises -/
def spIsBar : Sp := fun vs H Q _ => ∃ x t a b, vs = [.str x, .ref t] ∧ x.length ≤ 1000 ∧ H t = some (.tup [.int ((a : Nat) : Int), .int ((b : Nat) : Int)]) ∧ a ≤ b ∧ b ≤ x.length ∧ Q (.bl true) H
def spCNum : Sp := fun vs H Q _ => ∃ D c n, vs = [.str (patX (n - 1)), .ref D] ∧ CN c n ∧ H D = some (.dT (numK c n)) ∧ ∀ H', Same H H' → Q .non H'
def spLowSz : Sp := fun vs H Q _ => ∃ D c n, vs = [.str (patX (n - 1)), .ref D] ∧ CN c n ∧ H D = some (.dT (numK c n)) ∧ ∀ l H', H l = none → Same H H' → H' l = some (.lst (List.replicate n (.int ((c : Nat) : Int)))) → Q (.ref l) H'
def spSame (K : PySem.W.Frag) : Sp := fun vs H Q _ => ∃ a b c, vs = [.ref a, .ref b] ∧ c ≤ 6 ∧ SqL K H a ((List.range c).map fun i => .int ((i : Nat) : Int)) ∧ SqL K H b ((List.range c).map fun i => .int ((i : Nat) : Int)) ∧ ∀ l H', H l = none → Same H H' → Any H' (.ref l) (eqM c) → Q (.ref l) H'
def spWith : Sp := fun vs H Q _ => ∃ D c n p, vs = [.str (patX (n - 1)), .int p, .ref D] ∧ CN c n ∧ p ∈ primesL ∧ H D = some (.dT (numK c n)) ∧ ∀ v H', Same H H' → Q v H'
def spIsTab : Sp := fun vs H Q _ => ∃ v d, vs = [v] ∧ Any H v d ∧ WideD d ∧ ∀ H', Same H H' → Q (.bl (isTabD d)) H'
def spCTab (CB : Addr) : Sp := fun vs H Q E => ∃ v d, vs = [v] ∧ Any H v d ∧ WideD d ∧ (isTabD d = true → ∀ H', Same H H' → Q .non H') ∧ (isTabD d = false → Thrown CB v H E)
def spPatOf : Sp := fun vs H Q _ => ∃ v c n, vs = [v] ∧ Any H v (tabD c n) ∧ CN c n ∧ Q (.str (patX (n - 1))) H
def spValAt : Sp := fun vs H Q _ => ∃ v c n a b, vs = [v, .int a, .int b] ∧ Any H v (tabD c n) ∧ CN c n ∧ -1 ≤ a ∧ a ≤ b ∧ b ≤ (n : Nat) ∧ Q (.int (valN c n a b)) H
def spNumBy : Sp := fun vs H Q _ => ∃ v t c n q, vs = [v, .ref t] ∧ Any H v (tabD c n) ∧ CN c n ∧ H t = some (.tup [.int ((q.1 : Nat) : Int), .int ((q.2 : Nat) : Int)]) ∧ q ∈ barsL n ∧ Q (.int ((numN c n q : Nat) : Int)) H
/-- what is told of a thing that is no table, or is one with one number -/
def TabIn (H : Hp) (v : V) (bad : Prop) (good : Nat → Nat → Prop) : Prop := ∃ d, Any H v d ∧ WideD d ∧ ((isTabD d = false ∧ bad) ∨ ∃ c n, CN c n ∧ d = tabD c n ∧ good c n)
def spClash (CB : Addr) : Sp := fun vs H Q E => ∃ v, vs = [v] ∧ TabIn H v (Thrown CB v H E) fun c n => ∀ H', Same H H' → Q .non H'
def spIsRank : Sp := fun vs H Q _ => ∃ v, vs = [v] ∧ TabIn H v (∀ H', Same H H' → Q (.bl false) H') fun c n => ∀ H', Same H H' → Q (.bl true) H'
def spBarsOf (CB : Addr) : Sp := fun vs H Q E => ∃ v, vs = [v] ∧ TabIn H v (Thrown CB v H E) fun c n => ∀ D H', H D = none → Same H H' → H' D = some (.dT (numK c n)) → Q (.ref D) H'
def spRowOfT (CP CB : Addr) : Sp := fun vs H Q E => ∃ vp v dp, vs = [vp, v] ∧ Any H vp dp ∧ ((isPr dp = false ∧ Thrown CP vp H E) ∨ (isPr dp = true ∧ TabIn H v (Thrown CB v H E) fun c n => ∀ u H', Same H H' → Q u H'))
end Rw

set_option Elab.async false
set_option linter.all false
set_option maxRecDepth 100000
set_option maxHeartbeats 1500000
/-! TkWA: dicts with tuple keys that stay as they are: made of pairs, told by repr, isinstance; a dict is frozen ahead of a statement. -/
namespace Rw
open PySem PySem.Spec PyProof.Rows L2
/-! ### frozen ahead of a statement -/
theorem ps_frz {X : Cx} {st : Stmt} {t : TS} (h : PS X st t) : PS X st (fun D σ H => ∃ d u, H d = some u ∧ Mut (some u) ∧ ∀ o, t D σ (upd H d (.frz o u))) := by
  refine ⟨fun pins s σ H D I hw => ?_⟩
  obtain ⟨d, u, hd, mu, hw⟩ := hw
  obtain ⟨od, I1⟩ := I.lock hd mu
  exact h.run pins s σ _ _ I1 (hw od)
/-! ### dict(pairs) -/
def mergeT (kvs more : List (List L2.Key × V)) : List (List L2.Key × V) := more.foldl (fun acc kv => putK acc kv.1 kv.2) kvs
theorem kt_merge {H : Hp} {more : List (List L2.Key × V)} {rs : List (List L2.Key × Addr × Value)} (r : KT H more rs) : ∀ {kvs : List (List L2.Key × V)} {xs : List (List L2.Key × Addr × Value)}, KT H kvs xs → KT H (mergeT kvs more) (storedAllH xs rs) := by
  induction r with
  | nil => intro kvs xs q; exact q
  | @cons p q ps qs h t ih =>
    intro kvs xs r0
    have e : KT H (putK kvs p.1 p.2) (storedH xs q.1 q.2.1 q.2.2) := by
      have := KT.put r0 p.1 h.2.1 h.2.2
      rw [← h.1]
      exact this
    exact ih e
theorem mergeT_len : ∀ (more kvs : List (List L2.Key × V)), (mergeT kvs more).length ≤ kvs.length + more.length
  | [], kvs => Nat.le_refl _
  | p :: r, kvs => by
    have h1 := mergeT_len r (putK kvs p.1 p.2)
    have h2 := length_putK kvs p.1 p.2
    show (mergeT (putK kvs p.1 p.2) r).length ≤ _
    rw [List.length_cons]
    omega
/-- the pairs of a list, each a tuple of a key's tuple and a value -/
abbrev PairsT (K : PySem.W.Frag) (H : Hp) (ps : List (Addr × Addr)) (kvs : List (List L2.Key × V)) : Prop := Paired (fun (p : Addr × Addr) (kv : List L2.Key × V) => SqT K H p.1 [.ref p.2, kv.2] ∧ H p.2 = some (.tup (kv.1.map kV))) ps kvs
section
variable {X : Cx}
theorem pairsT_of {pins : List (Addr × Obj)} {σ : L2.St} {H : Hp} {s : Shared} (I : Inv X pins σ H s) : ∀ {ps : List (Addr × Addr)} {kvs : List (List L2.Key × V)}, PairsT X.K H ps kvs →
    ∃ prs : List (List L2.Key × Addr × Value), KT H kvs prs ∧ prs.length = ps.length ∧ ∀ (j : Nat) (q : List L2.Key × Addr × Value), prs[j]? = some q → ∃ b : Addr × Addr, ps[j]? = some b ∧ IsTup s.heap b.1 #[.ref q.2.1, q.2.2]
  | _, _, .nil => ⟨[], .nil, rfl, fun j q e => by simp at e⟩
  | _, _, .cons (a := p) (b := kv) h t => by
    obtain ⟨prs, r, hl, hp⟩ := pairsT_of I t
    obtain ⟨its, rv, ht, _⟩ := I.tuple h.1
    obtain ⟨u, y, ei, ru, ry⟩ := vals2 rv
    subst ei
    cases (show u = Value.ref p.2 from ru)
    refine ⟨(kv.1, p.2, y) :: prs, .cons ⟨rfl, h.2, ry⟩ r, by rw [List.length_cons, List.length_cons, hl], fun j q e => ?_⟩
    cases j with
    | zero =>
      have e' : (kv.1, p.2, y) = q := Option.some.inj e
      subst e'
      exact ⟨p, rfl, ht⟩
    | succ j =>
      obtain ⟨b, e1, e2⟩ := hp j q (by simpa using e)
      exact ⟨b, by simpa using e1, e2⟩
/-- dict(xs) of a list of pairs whose keys are tuples; the new dict stays as it is -/
theorem call_dictT (hcalm : X.calm = true) (hu : X.A.units + 64 < cLine) : CallR X (.type "dict") (fun xs H Q => ∃ (a : Addr) (ps : List (Addr × Addr)) (kvs : List (List L2.Key × V)), xs = [.ref a] ∧ SqL X.K H a (ps.map fun p => V.ref p.1) ∧ PairsT X.K H ps kvs ∧
    ∀ p o, H p = none → Q (.ref p) (upd H p (.frz o (.dT (mergeT [] kvs))))) := by
  intro pins s σ H xs us Q I r q
  obtain ⟨a, ps, kvs, ex, hq, hp, q⟩ := q
  subst ex
  obtain ⟨u, eu, rx⟩ := vals1 r
  subst eu
  cases rx
  obtain ⟨its, rv, pl, hz⟩ := I.list hq
  have ei : its = (ps.map (·.1)).map Value.ref := refs_at (by rw [List.map_map]; exact rv)
  subst ei
  rw [List.length_map] at hz
  obtain ⟨prs, rel, hl, hpr⟩ := pairsT_of I hp
  have fresh : ∀ (b : Addr) (ob : Obj), s.heap.get? b = some ob → b ≠ s.heap.objs.size := fun b ob e => Nat.ne_of_lt (Heap.lt_size e)
  have nps : ps.length = (prs.map fun q => (Value.ref q.2.1, q.2.2)).length := by rw [List.length_map, hl]
  have P := PairArg.list (prog := X.prog) (w := X.w) a ((ps.map (·.1)).map Value.ref).toArray (fun j => (ps[j]?.map (·.1)).getD 0) (prs.map fun q => (Value.ref q.2.1, q.2.2))
  have items : PairItems s.heap ((ps.map (·.1)).map Value.ref).toArray (fun j => (ps[j]?.map (·.1)).getD 0) (prs.map fun q => (Value.ref q.2.1, q.2.2)) := by
    refine ⟨by simp [hl], fun j k v e => ?_⟩
    rw [List.getElem?_map] at e
    obtain ⟨q', hq', e'⟩ := Option.map_eq_some_iff.mp e
    obtain ⟨b, hb, tb⟩ := hpr j q' hq'
    cases e'
    refine ⟨by simp [hb], ?_⟩
    show PySem.PairAt s.heap ((ps[j]?.map (·.1)).getD 0) _ _
    rw [hb]
    obtain ⟨o, h1, h2, n, h3⟩ := tb
    exact .inl ⟨o, h1, h2, n, h3⟩
  refine call_dict_pairsH (knd := tupleKind (mixKind X.prog X.w)) (ps := prs) P (I.ok.hd hcalm) (show X.A.units + 1 + 1 < cLine by omega) ⟨pl, items⟩ ⟨by rw [List.length_map], fun i key v e => ?_⟩ (fun h' hk x hx => ?_) (by rw [List.length_map, hl]; exact hz) fun h' tk hd' k => ?_
  · have e : (prs.map fun q => (Value.ref q.2.1, q.2.2))[i]? = some (key, v) := e
    rw [List.getElem?_map] at e
    obtain ⟨q', hq', e'⟩ := Option.map_eq_some_iff.mp e
    cases e'
    exact ⟨_, _, hq', rfl⟩
  · have all : ∀ {l : List (List L2.Key × V)} {m : List (List L2.Key × Addr × Value)}, KT H l m → ∀ x ∈ m, (tupleKind (mixKind X.prog X.w)).is s.heap x.1 x.2.1 := by
      intro l m q
      induction q with
      | nil => intro x hx; exact nomatch hx
      | @cons p q ps qs hq t ih =>
        intro x hx
        rcases List.mem_cons.mp hx with e | hx
        · subst e
          exact key_of I.hok (by rw [← hq.1]; exact hq.2.1)
        · exact ih x hx
    exact tupleKind_stays.stays (fun b o vs n e _ => hk b o (fresh b o e) (fun z => nomatch z) e) (all rel x hx)
  · have hm : (s.heap.objs.size == sysModules) = false := beq_eq_false_iff_ne.mpr (Nat.ne_of_gt I.big)
    have hlen : (mergeT [] kvs).length ≤ sizeLine := by
      have := mergeT_len kvs []
      rw [List.length_nil, Nat.zero_add] at this
      have l2 := Paired.length rel
      omega
    obtain ⟨o, es, ep, h1, h2, h3, h4, _, h5⟩ := hd'
    have k2 : ∀ b u, s.heap.get? b = some u → h'.get? b = some u := fun b u e => k b u (fun z => nomatch z) e
    refine ⟨.ref s.heap.objs.size, upd H s.heap.objs.size (.frz o (.dT (mergeT [] kvs))), I.laid (t' := tk) k2 (Nat.le_refl _) ⟨h1, hlen, hm, _, (kt_merge rel .nil).keeps fun c ys ec => ?_, o, es, ep, h1, h2, h3, h4, h5⟩, rfl, q _ _ (I.hok.fresh (Nat.le_refl _))⟩
    rw [upd_ne (ne_of_none ec (I.hok.fresh (Nat.le_refl _)))]
    exact ec
/-- isinstance(d, c) of such a dict -/
theorem call_isiZ : CallR X (.builtin "isinstance") (fun xs H Q => ∃ (d : Addr) (o : Obj) (kvs : List (List L2.Key × V)) (c : V) (u : Value) (b : Bool), xs = [.ref d, c] ∧ H d = some (.frz o (.dT kvs)) ∧ ClsV c u ∧ PySem.W.kitOne X.K (.type "dict") u = some b ∧ Q (.bl b) H) := by
  intro pins s σ H xs us Q I r h
  obtain ⟨d, o, kvs, c, u, b, rfl, hd, k, e, q⟩ := h
  obtain ⟨u1, u2, rfl, r1, r2⟩ := vals2 r
  have e2 := k.eq r2
  subst e2
  cases (show u1 = Value.ref d from r1)
  obtain ⟨_, _, _, xs, _, o2, es, ep, h1, h2, _⟩ := (show ObjOk X.prog X.w H s.heap d (.frz o (.dT kvs)) from I.hok d _ hd)
  exact PySem.W.kia_one PySem.W.kitx_dict I.kIn ⟨o2, h1, h2.1⟩ e (fun z => nomatch z) fun tk => ⟨.bl b, H, I.tok tk, rfl, q⟩
/-! ### repr -/
def tupK (k : List L2.Key) : PyData := .tuple (k.map keyD)
/-- the dict's data: its keys' tuples and the values' data -/
def dataT (kvs : List (List L2.Key × V)) (ds : List PyData) : List (PyData × PyData) := (kvs.map fun p => tupK p.1).zip ds
theorem any_key {H : Hp} : ∀ k : L2.Key, Any H (kV k) (keyD k)
  | .inl i => .int i
  | .inr x => .str x
theorem any_keys {H : Hp} : ∀ ks : List L2.Key, AnyL H (ks.map kV) (ks.map keyD)
  | [] => .nil
  | k :: ks => .cons (any_key k) (any_keys ks)
theorem any_tupK {H : Hp} {b : Addr} {k : List L2.Key} (e : H b = some (.tup (k.map kV))) : Any H (.ref b) (tupK k) := .tup e (any_keys k)
theorem anyT_shows {pins : List (Addr × Obj)} {σ : L2.St} {H : Hp} {s : Shared} (I : Inv X pins σ H s) {kvs : List (List L2.Key × V)} {xs : List (List L2.Key × Addr × Value)} (r : KT H kvs xs) : ∀ {ds : List PyData}, AnyL H (kvs.map (·.2)) ds → PyData.showableKv (dataT kvs ds) = true →
    (∀ t ∈ PyData.shownKv (dataT kvs ds), t.length ≤ sizeLine) → ShowsL X.prog X.w s.heap (xs.map fun x => Value.ref x.2.1) ((dataT kvs ds).map (·.1)) ∧ ShowsL X.prog X.w s.heap (xs.map fun x => x.2.2) ((dataT kvs ds).map (·.2)) := by
  induction r with
  | nil => intro ds a _ _; exact ⟨showsL_nil, showsL_nil⟩
  | @cons p q ps qs h t ih =>
    intro ds a sh sz
    cases a with
    | @cons _ _ d ds' a1 a2 =>
      have sh' : ((tupK p.1).showable = true ∧ d.showable = true) ∧ PyData.showableKv (dataT ps ds') = true := by simpa [dataT, PyData.showableKv] using sh
      have sz' : ∀ t ∈ ((tupK p.1).shown ++ ": " ++ d.shown) :: PyData.shownKv (dataT ps ds'), t.length ≤ sizeLine := sz
      have top := sz' _ List.mem_cons_self
      rw [strLen_append, strLen_append] at top
      obtain ⟨x, y⟩ := ih a2 sh'.2 fun t ht => sz' t (List.mem_cons_of_mem _ ht)
      refine ⟨showsL_cons (any_shows I _ _ _ (any_tupK h.2.1) rfl sh'.1.1 (show (tupK p.1).shown.length ≤ sizeLine by omega)) x, showsL_cons (any_shows I d _ _ a1 h.2.2 sh'.1.2 (by omega)) y⟩
def rReprT : List V → Hp → VK → Prop := fun xs H Q => ∃ (a : Addr) (o : Obj) (kvs : List (List L2.Key × V)) (ds : List PyData), xs = [.ref a] ∧ H a = some (.frz o (.dT kvs)) ∧ AnyL H (kvs.map (·.2)) ds ∧ (PyData.dict (dataT kvs ds)).showable = true ∧ (PyData.dict (dataT kvs ds)).depth ≤ 60 ∧ (PyData.dict (dataT kvs ds)).shown.length ≤ sizeLine ∧ Q (.str (PyData.dict (dataT kvs ds)).shown) H
theorem call_reprT (gu : X.A.guards = some []) (hu : X.A.units + 64 < cLine) : CallR X (.builtin "repr") rReprT := by
  intro pins s σ H xs us Q I r h
  obtain ⟨a, o, kvs, ds, e, ea, al, sh, dp, sz, q⟩ := h
  subst e
  obtain ⟨u, e, ru⟩ := vals1 r
  subst e
  cases (show u = Value.ref a from ru)
  have fin : ∀ h' u tk, (∀ b o, s.heap.get? b = some o → h'.get? b = some o) → EP X pins σ Q (.str (PyData.dict (dataT kvs ds)).shown u) { s with heap := h', toks := tk } := fun h' t tk keep => ⟨V.str _, H, Inv.kept I keep, ⟨t, rfl⟩, q⟩
  have gu1 : X.A.in1.guards = some [] := gu
  obtain ⟨_, _, off, xs, rel, o2, es, n, g, c, dt, ent, _⟩ := (show ObjOk X.prog X.w H s.heap a (.frz o (.dT kvs)) from I.hok a _ ea)
  have L : DictAt' s.heap a es o2 n := ⟨g, c.1, dt, off⟩
  have z : (dictText (PyData.shownKv (dataT kvs ds))).length ≤ sizeLine := by simpa only [PyData.shown] using sz
  have D : (PyData.dict (dataT kvs ds)).depth = PyData.depthKv (dataT kvs ds) + 1 := by simp only [PyData.depth]
  obtain ⟨x, y⟩ := anyT_shows I rel al (by simpa [PyData.showable] using sh) fun t ht => Nat.le_trans (dictText_mem_le ht) z
  have ek : es.toList.map (·.key) = xs.map fun x => Value.ref x.2.1 := by rw [ent, List.map_map] <;> rfl
  have ev : es.toList.map (·.val) = xs.map fun x => x.2.2 := by rw [ent, List.map_map] <;> rfl
  rw [← ek] at x
  rw [← ev] at y
  obtain ⟨_, bs, m, na, k⟩ := shows_dict L x y
  refine call_repr_slot (by have : X.A.in1.units = X.A.units + 1 := rfl; omega) ⟨o2, L.get, L.cls⟩ F.slot_dict_repr ?_
  simp only [PyData.shown] at fin
  exact call_dict_reprK L.get L.cls L.dat L.off na k gu1 (fun b _ => Clear.nil b) (by have : X.A.in1.units = X.A.units + 1 := rfl; omega) (fun _ _ z => z) (fun h' t tk keep => ⟨_, _, rfl, fin h' t tk keep⟩) z
end
end Rw

set_option Elab.async false
set_option linter.all false
set_option maxRecDepth 100000
set_option maxHeartbeats 4000000
/-! K53A: the program: numbers, primes, patterns, bars, sizes. -/
namespace K53
open PySem PySem.Spec PyProof.Rows L2 Rw
def top (i : Nat) : Stmt := PySem.Challenge.pw_maprows_k53_maps_refused.main.body.getD i (.Pass ⟨0, 0, 0, 0⟩)
abbrev sNum : Stmt := top 15
abbrev sInt : Stmt := top 16
abbrev sPrime : Stmt := top 17
abbrev sCheck : Stmt := top 18
abbrev sPat : Stmt := top 22
abbrev sCPat : Stmt := top 23
abbrev sBarP : Stmt := top 25
abbrev sLow : Stmt := top 28
abbrev sCSize : Stmt := top 26
theorem scCSize : FnScope ["size"] ["size"] (defScope sCSize) := ⟨rfl, rfl, rfl, by decide +kernel, rfl, by decide +kernel, by decide +kernel⟩
abbrev sCArrow : Stmt := top 36
theorem scCArrow : FnScope ["pattern", "arrow"] ["pattern", "arrow"] (defScope sCArrow) := ⟨rfl, rfl, rfl, by decide +kernel, rfl, by decide +kernel, by decide +kernel⟩
theorem scNum : FnScope ["value"] ["value"] (defScope sNum) := ⟨rfl, rfl, rfl, by decide +kernel, rfl, by decide +kernel, by decide +kernel⟩
theorem scInt : FnScope ["value", "low", "high"] ["value", "low", "high"] (defScope sInt) := ⟨rfl, rfl, rfl, by decide +kernel, rfl, by decide +kernel, by decide +kernel⟩
theorem scPrime : FnScope ["value"] ["value"] (defScope sPrime) := ⟨rfl, rfl, rfl, by decide +kernel, rfl, by decide +kernel, by decide +kernel⟩
theorem scCheck : FnScope ["prime"] ["prime"] (defScope sCheck) := ⟨rfl, rfl, rfl, by decide +kernel, rfl, by decide +kernel, by decide +kernel⟩
theorem scPat : FnScope ["value", "arrow"] ["value"] (defScope sPat) := ⟨rfl, rfl, rfl, by decide +kernel, rfl, by decide +kernel, by decide +kernel⟩
theorem scCPat : FnScope ["pattern"] ["pattern"] (defScope sCPat) := ⟨rfl, rfl, rfl, by decide +kernel, rfl, by decide +kernel, by decide +kernel⟩
abbrev NBarP : List Str := ["pattern", "value", "first", "last"]
theorem scBarP : FnScope NBarP ["pattern", "value"] (defScope sBarP) := ⟨rfl, rfl, rfl, by decide +kernel, rfl, by decide +kernel, by decide +kernel⟩
abbrev NLow : List Str := ["sizes", "size"]
theorem scLow : FnScope NLow ["sizes"] (defScope sLow) := ⟨rfl, rfl, rfl, by decide +kernel, rfl, by decide +kernel, by decide +kernel⟩
/-- what the top has left for the program's defs -/
structure Txt (K : PySem.W.Frag) (w : World) (mg : Str → Option Value) (aI aT CP CT CZ CN CG : Addr) (kI : List (Int × Value)) (kT : List (Str × Value)) : Prop where
  isi : mg "isinstance" = none
  int : mg "int" = none
  bool : mg "bool" = none
  str : mg "str" = none
  list : mg "list" = none
  tuple : mg "tuple" = none
  dict : mg "dict" = none
  len : mg "len" = none
  all : mg "all" = none
  range : mg "range" = none
  sum : mg "sum" = none
  max : mg "max" = none
  min : mg "min" = none
  gI : mg "INVERSES" = some (.ref aI)
  tI : TabI K aI kI
  hI : ∀ i, (lookI kI i).isSome = decide (i ∈ primesL)
  gT : mg "TURNED" = some (.ref aT)
  tT : TabS K w aT kT
  hT : ∀ c, (lookS kT ⟨#[c]⟩).isSome = isArr c
  gM : ∃ t, mg "MOST" = some (.int 6 t)
  eP : Err K mg "InvalidPrime" CP
  eT : Err K mg "InvalidPattern" CT
  eZ : Err K mg "InvalidSize" CZ
  eN : Err K mg "InvalidNumbers" CN
  eG : Err K mg "TooLarge" CG
section
variable {P : Program} {w : World} {K : PySem.W.Frag} {mg : Str → Option Value} {base : Heap} {aI aT CP CT CZ CN CG : Addr} {kI : List (Int × Value)} {kT : List (Str × Value)}
theorem okNum {f : Addr} {fd : FuncData} (F : Fun K "is_number" "is_number" sNum f fd) (T : Txt K w mg aI aT CP CT CZ CN CG kI kT) : FnOk P w K mg base CX0 1 f fd ["value"] spNum := by
  refine F.ok scNum (fun vs H Q E h => ?_) (fun cdv A outer s H vs Q E hr h => ?_)
  · obtain ⟨v, d, rfl, _⟩ := h
    rfl
  · obtain ⟨v, d, rfl, an, q⟩ := h
    refine ⟨_, (pss_one (ps_ret (pe_and (pe_callB call_isi (by rfl) T.isi (by decide +kernel) (pa_cons (pv 0) (pa_cons (pe_bltn (v := .ty "int") rfl T.int boot_int rfl) pa_nil))) (pe_one (pe_not (pe_callB call_isi (by rfl) T.isi (by decide +kernel) (pa_cons (pv 0) (pa_cons (pe_bltn (v := .ty "bool") rfl T.bool (by decide +kernel) rfl) pa_nil)))))))), ?_⟩
    refine ⟨v, rfl, v, .ty "int", _, _, _, rfl, .ty _, any_ty an, kit_int d, _, rfl, ?_⟩
    cases an with
    | bl b => exact iteT ⟨_, rfl, _, .ty "bool", _, _, _, rfl, .ty _, any_ty (.bl b), kit_bool (.bool b), _, rfl, q⟩
    | int i => exact iteT ⟨_, rfl, _, .ty "bool", _, _, _, rfl, .ty _, any_ty (.int i), kit_bool (.int i), _, rfl, q⟩
    | _ => exact iteF q
theorem okInt {f : Addr} {fd : FuncData} (F : FunD K "is_integer" "is_integer" (defArgs sInt) (defBody sInt) (defScope sInt) [.non, .non] [] f fd) (GN : Own P w K mg base CX0 1 "is_number" ["value"] [] spNum) :
    FnOk P w K mg base CX0 2 f fd ["value", "low", "high"] spInt := by
  refine F.ok scInt (fun vs H Q E h => ?_) (fun cdv A outer s H vs Q E hr h => ?_)
  · obtain ⟨v, l, h, d, dl, dh, rfl, _⟩ := h
    rfl
  · obtain ⟨v, l, h, d, dl, dh, rfl, an, al, ah, q⟩ := h
    refine ⟨_, (pss_cons (ps_if (pt_not (pt_val (pe_own GN hr pass0 (pa_cons (pv 0) pa_nil)))) (pss_one (ps_ret pe_bl)) pss_nil)
      (pss_cons (ps_if (PW.pt (pw_and (pt_val (pe_own GN hr pass0 (pa_cons (pv 1) pa_nil))) (pw_and1 (pt_cmpR op_lt (pv 0) (pv 1) (nomark _))))) (pss_one (ps_ret pe_bl)) pss_nil)
      (pss_one (ps_ret (pe_not (pe_and (pe_own GN hr pass0 (pa_cons (pv 2) pa_nil)) (pe_one (pe_cmpR op_gt (pv 0) (pv 2) (nomark _))))))))), ?_⟩
    refine ⟨_, rfl, _, d, rfl, an, _, rfl, ?_⟩
    cases ed : isIntD d with
    | false =>
      refine iteT ?_
      have e : inB d dl dh = false := by cases d <;> first | rfl | cases ed
      rw [e] at q
      exact q
    | true =>
      obtain ⟨n, rfl, rfl⟩ := int_of an ed
      refine iteF ⟨_, rfl, _, dl, rfl, al, _, rfl, ?_⟩
      have last : aboveD n dl = true → tRet (tNotV (tAndV (tCall spNum [] E0 (tCons (tVar 2) tNil)) (tOp (rI0 fun i j => .bl (decide (j < i))) (tVar 0) (tVar 2)))) { nx := fun _ H' => Q .non H', rt := Q } (start ["value", "low", "high"] [.int n, l, h]) H := by
        intro ea
        refine ⟨_, rfl, _, dh, rfl, ah, _, rfl, ?_⟩
        cases eh : isIntD dh with
        | false =>
          refine iteF ⟨_, rfl, ?_⟩
          have e : inB (.int n) dl dh = true := by
            show (aboveD n dl && belowD n dh) = true
            rw [ea]
            cases dh <;> first | rfl | cases eh
          rw [e] at q
          exact q
        | true =>
          obtain ⟨m, rfl, rfl⟩ := int_of ah eh
          refine iteT ⟨_, rfl, _, rfl, _, _, rfl, rfl, _, rfl, ?_⟩
          have e : inB (.int n) dl (.int m) = !decide (m < n) := by
            show (aboveD n dl && decide (n ≤ m)) = _
            rw [ea]
            by_cases z : m < n
            · rw [decide_eq_true z, decide_eq_false (by omega)] <;> rfl
            · rw [decide_eq_false z, decide_eq_true (by omega)] <;> rfl
          rw [e] at q
          exact q
      cases el : isIntD dl with
      | false =>
        refine iteF (iteF (last ?_))
        cases dl <;> first | rfl | cases el
      | true =>
        obtain ⟨m, rfl, rfl⟩ := int_of al el
        refine iteT ⟨_, rfl, _, rfl, _, _, rfl, rfl, _, rfl, ?_⟩
        refine ite2 (fun z => ?_) (fun z => last ?_)
        · have e : inB (.int n) (.int m) dh = false := by
            show (decide (m ≤ n) && belowD n dh) = false
            have z2 := of_decide_eq_true z
            rw [decide_eq_false (by omega)] <;> rfl
          rw [e] at q
          exact q
        · have z2 : ¬ n < m := fun y => z (decide_eq_true y)
          exact decide_eq_true (by omega)
theorem okPrime {f : Addr} {fd : FuncData} (F : Fun K "is_prime" "is_prime" sPrime f fd) (T : Txt K w mg aI aT CP CT CZ CN CG kI kT) (GN : Own P w K mg base CX0 1 "is_number" ["value"] [] spNum) : FnOk P w K mg base CX0 2 f fd ["value"] spPrime := by
  refine F.ok scPrime (fun vs H Q E h => ?_) (fun cdv A outer s H vs Q E hr h => ?_)
  · obtain ⟨v, d, rfl, _⟩ := h
    rfl
  · obtain ⟨v, d, rfl, an, q⟩ := h
    refine ⟨_, (pss_one (ps_ret (pe_and (pe_own GN hr pass0 (pa_cons (pv 0) pa_nil)) (pe_one (pe_cmpR (op_in_ti T.tI) (pv 0) (pe_glob (v := .ref aI) rfl T.gI rfl) (by rfl)))))), ?_⟩
    refine ⟨_, rfl, _, d, rfl, an, _, rfl, ?_⟩
    cases ed : isIntD d with
    | false =>
      refine iteF ?_
      have e : isPr d = false := by cases d <;> first | rfl | cases ed
      rw [e] at q
      exact q
    | true =>
      obtain ⟨n, rfl, rfl⟩ := int_of an ed
      refine iteT ⟨_, rfl, n, rfl, rfl, ?_⟩
      rw [T.hI]
      exact q
theorem okCheck {f : Addr} {fd : FuncData} (F : Fun K "check_prime" "check_prime" sCheck f fd) (T : Txt K w mg aI aT CP CT CZ CN CG kI kT) (GP : Own P w K mg base CX0 2 "is_prime" ["value"] [] spPrime) : FnOk P w K mg base (L2.CX P w) 4 f fd ["prime"] (spCheck CP) := by
  refine F.okX scCheck (fun vs H Q E h => ?_) (fun cdv A outer s H vs Q E hr h => ?_)
  · obtain ⟨v, d, rfl, _⟩ := h
    rfl
  · obtain ⟨v, d, rfl, an, qt, qf⟩ := h
    refine ⟨_, (pss_one (ps_if (pt_not (pt_val (pe_own GP (hr.mono (by decide)) pass0 (pa_cons (pv 0) pa_nil)))) (pss_one (ps_throw T.eP rfl (hr.mono (by decide)) (takes_of rfl rfl rfl rfl) (pv 0))) pss_nil)), ?_⟩
    refine ⟨_, rfl, _, d, rfl, an, _, rfl, ?_⟩
    cases e : isPr d with
    | true => exact iteF (qt e)
    | false => exact iteT ⟨_, rfl, thrown_go (qf e)⟩
theorem kit_str (d : PyData) : PySem.W.kitOne K (.type (kindS d)) (.type "str") = some (match d with | .str _ => true | _ => false) := by
  cases d with
  | none => exact kit_ty (show kitB "NoneType" "str" = some false by decide +kernel)
  | bool b => exact kit_ty (show kitB "bool" "str" = some false by decide +kernel)
  | int i => exact kit_ty (show kitB "int" "str" = some false by decide +kernel)
  | str x => exact kit_ty (show kitB "str" "str" = some true by decide +kernel)
  | list xs => exact kit_ty (show kitB "list" "str" = some false by decide +kernel)
  | tuple xs => exact kit_ty (show kitB "tuple" "str" = some false by decide +kernel)
  | dict kvs => exact kit_ty (show kitB "dict" "str" = some false by decide +kernel)
theorem okPat {f : Addr} {fd : FuncData} (F : Fun K "is_pattern" "is_pattern" sPat f fd) (T : Txt K w mg aI aT CP CT CZ CN CG kI kT) : FnOk P w K mg base CX0 1 f fd ["value"] spPat := by
  refine F.ok scPat (fun vs H Q E h => ?_) (fun cdv A outer s H vs Q E hr h => ?_)
  · obtain ⟨v, d, rfl, _⟩ := h
    rfl
  · obtain ⟨v, d, rfl, an, sh, q⟩ := h
    obtain ⟨tM, gM⟩ := T.gM
    refine ⟨_, (pss_one (ps_ret (pe_and (pe_callB call_isi (by rfl) T.isi (by decide +kernel) (pa_cons (pv 0) (pa_cons (pe_bltn (v := .ty "str") rfl T.str (by decide +kernel) rfl) pa_nil))) (pe_and (pe_cmpR op_le (pe_callB call_len_str (by rfl) T.len (by decide +kernel) (pa_cons (pv 0) pa_nil)) (pe_glob (v := .int 6) rfl gM ⟨_, rfl⟩) (nomark _)) (pe_one (pe_callB (cr_all rfl) (by rfl) T.all (by decide +kernel) (pa_cons (pe_lc (own := [("arrow", 1)]) (g := gName 1) (tt := tYes) rfl scPat.nd (pi_str (pv 0)) (blkOk_by (N := ["value", "arrow"]) (sc := defScope sPat) (by decide +kernel)) (fun _ _ _ _ _ => (pg_name (i := 1) scPat.nd rfl (Or.inl rfl))) (fun _ _ _ _ _ => pts_nil) (fun _ _ _ _ _ => (pe_cmpR (op_in_ts T.tT) (pv 1) (pe_glob (v := .ref aT) rfl T.gT rfl) (by rfl)))) pa_nil))))))), ?_⟩
    refine ⟨v, rfl, v, .ty "str", _, _, _, rfl, .ty _, any_ty an, kit_str d, _, rfl, ?_⟩
    cases an with
    | str x =>
      have lx := sh x rfl
      refine iteT ⟨_, rfl, x, rfl, (Nat.le_trans lx (by decide)), _, _, rfl, rfl, _, rfl, ?_⟩
      refine ite2 (fun z => ?_) (fun z => ?_)
      · have z2 : x.length ≤ 6 := by
          have := of_decide_eq_true z
          omega
        have e1 : isPatD (.str x) = x.cps.toList.all isArr := by
          show (decide (x.length ≤ 6) && _) = _
          rw [decide_eq_true z2, Bool.true_and]
        refine ⟨_, rfl, x, rfl, fun D hD => ?_⟩
        refine lc_same walk_str (Nat.le_trans z2 (by decide)) hD (fun _ _ => trivial) (fun i => .bool (isArr (x.cps.toList[i]?.getD 0))) ?_ ?_
        · rintro i y H' hi ⟨c, hc, rfl⟩ s1 hd
          refine ⟨rfl, fun k' hk => ?_⟩
          refine ⟨_, rfl, _, rfl, rfl, hk _ _ (fun _ _ z => z) ?_⟩
          rw [T.hT, show x.cps.toList[i]? = some c by simpa using hc]
          exact .bl _
        · refine fun H' acc s1 ha hal => ?_
          have e4 : (List.range x.cps.size).map (fun i => PyData.bool (isArr (x.cps.toList[i]?.getD 0))) = (x.cps.toList.map isArr).map PyData.bool := by
            rw [show x.cps.size = x.cps.toList.length by simp, map_get (fun c => PyData.bool (isArr c)) 0, List.map_map] <;> rfl
          rw [e4] at hal
          have e2 := anyL_bools hal
          refine ⟨D, _, rfl, .inl (.inl (by rw [← e2]; exact ha)), ?_⟩
          have e3 : (x.cps.toList.map isArr).all id = x.cps.toList.all isArr := by simp
          rw [e3, ← e1]
          exact q _ s1
      · have e1 : isPatD (.str x) = false := by
          show (decide (x.length ≤ 6) && _) = _
          rw [decide_eq_false (fun y => z (decide_eq_true (by omega))), Bool.false_and]
        rw [e1] at q
        exact q _ (fun _ _ z => z)
    | _ => exact iteF (q _ (fun _ _ z => z))
theorem okCPat {f : Addr} {fd : FuncData} (F : Fun K "check_pattern" "check_pattern" sCPat f fd) (T : Txt K w mg aI aT CP CT CZ CN CG kI kT) (GP : Own P w K mg base CX0 1 "is_pattern" ["value"] [] spPat) : FnOk P w K mg base (L2.CX P w) 4 f fd ["pattern"] (spCPat CT) := by
  refine F.okX scCPat (fun vs H Q E h => ?_) (fun cdv A outer s H vs Q E hr h => ?_)
  · obtain ⟨v, d, rfl, _⟩ := h
    rfl
  · obtain ⟨v, d, rfl, an, sh, qt, qf⟩ := h
    refine ⟨_, (pss_one (ps_if (pt_not (pt_val (pe_own GP (hr.mono (by decide)) pass0 (pa_cons (pv 0) pa_nil)))) (pss_one (ps_throw T.eT rfl (hr.mono (by decide)) (takes_of rfl rfl rfl rfl) (pv 0))) pss_nil)), ?_⟩
    refine ⟨_, rfl, _, d, rfl, an, sh, fun H1 k1 => ⟨_, rfl, ?_⟩⟩
    cases e : isPatD d with
    | true => exact iteF (qt e _ k1)
    | false => exact iteT ⟨_, rfl, thrown_go ((qf e).mono k1)⟩
theorem okBarP {f : Addr} {fd : FuncData} (F : Fun K "is_bar" "is_bar" sBarP f fd) (T : Txt K w mg aI aT CP CT CZ CN CG kI kT) (GI : Own P w K mg base CX0 2 "is_integer" ["value", "low", "high"] [] spInt) : FnOk P w K mg base CX0 3 f fd ["pattern", "value"] spBarP := by
  refine F.ok scBarP (fun vs H Q E h => ?_) (fun cdv A outer s H vs Q E hr h => ?_)
  · obtain ⟨x, v, d, rfl, _⟩ := h
    rfl
  · obtain ⟨x, v, d, rfl, lx, an, q⟩ := h
    have lz : x.length ≤ sizeLine := Nat.le_trans lx (by decide)
    refine ⟨_, (pss_cons (ps_if (pt_not (PW.pt (pw_and (pt_val (pe_callB call_isi (by rfl) T.isi (by decide +kernel) (pa_cons (pv 1) (pa_cons (pe_bltn (v := .ty "tuple") rfl T.tuple (by decide +kernel) rfl) pa_nil)))) (pw_and1 (pt_cmpR op_eq (pe_callB call_len_seq (by rfl) T.len (by decide +kernel) (pa_cons (pv 1) pa_nil)) pe_int (nomark _)))))) (pss_one (ps_ret pe_bl)) pss_nil)
      (pss_cons (ps_asg (pv 1) (pg_tup rfl (pgs_cons (pg_name (i := 2) scBarP.nd rfl (Or.inl rfl)) (pgs_cons (pg_name (i := 3) scBarP.nd rfl (Or.inl rfl)) pgs_nil))))
      (pss_one (ps_ret (pe_and (pe_own GI hr pass0 (pa_cons (pv 2) (pa_cons pe_int (pa_cons (pe_callB call_len_str (by rfl) T.len (by decide +kernel) (pa_cons (pv 0) pa_nil)) pa_nil)))) (pe_one (pe_own GI hr pass0 (pa_cons (pv 3) (pa_cons (pv 2) (pa_cons (pe_callB call_len_str (by rfl) T.len (by decide +kernel) (pa_cons (pv 0) pa_nil)) pa_nil)))))))))), ?_⟩
    refine ⟨v, rfl, v, .ty "tuple", _, _, _, rfl, .ty _, any_ty an, kit_tup d, _, rfl, ?_⟩
    cases an with
    | tup ea al =>
      rename_i a xs ds
      have ln := anyL_len al
      refine iteT ⟨_, rfl, a, xs, rfl, .inr (SqT.of ea), rfl, _, rfl, ?_⟩
      by_cases z : xs.length = 2
      · rw [show decide (V.int (xs.length : Int) = V.int 2) = true from decide_eq_true (by rw [z] <;> rfl)]
        obtain ⟨v1, v2, rfl⟩ : ∃ v1 v2, xs = [v1, v2] := by
          match xs, z with
          | [v1, v2], _ => exact ⟨v1, v2, rfl⟩
        cases al with
        | cons a1 al =>
          cases al with
          | cons a2 al =>
            cases al
            refine iteF ⟨_, rfl, a, _, rfl, SqT.of ea, rfl, _, _, rfl, _, _, rfl, rfl, ?_⟩
            refine ⟨_, rfl, _, rfl, x, rfl, lz, _, _, _, _, _, _, rfl, a1, .int _, .int _, _, rfl, ?_⟩
            rename_i d1 d2
            have eb : isBarD x.length (.tuple [d1, d2]) = (inB d1 (.int 0) (.int (x.length : Nat)) && inB d2 d1 (.int (x.length : Nat))) := rfl
            rw [eb] at q
            cases e1 : inB d1 (.int 0) (.int (x.length : Nat)) with
            | false =>
              rw [e1] at q
              exact iteF q
            | true =>
              rw [e1] at q
              exact iteT ⟨_, rfl, _, rfl, _, rfl, x, rfl, lz, _, _, _, _, _, _, rfl, a2, a1, .int _, q⟩
      · rw [show decide (V.int (xs.length : Int) = V.int 2) = false from decide_eq_false fun y => z (by injection y with y; omega)]
        refine iteT ?_
        have eb : isBarD x.length (.tuple ds) = false := by
          match ds, ln with
          | [], _ => rfl
          | [_], _ => rfl
          | [_, _], ln => exact (z ln).elim
          | _ :: _ :: _ :: _, _ => rfl
        rw [eb] at q
        exact q
    | _ => exact iteF (iteT q)
theorem okLow {f : Addr} {fd : FuncData} (F : Fun K "check_low" "check_low" sLow f fd) (T : Txt K w mg aI aT CP CT CZ CN CG kI kT) : FnOk P w K mg base (L2.CX P w) 4 f fd ["sizes"] (spLow K CG) := by
  obtain ⟨tM, gM⟩ := T.gM
  refine F.okX scLow (fun vs H Q E h => ?_) (fun cdv A outer s H vs Q E hr h => ?_)
  · obtain ⟨a, ns, rfl, _⟩ := h
    rfl
  · obtain ⟨a, ns, rfl, hs, hl, q, xf⟩ := h
    refine ⟨_, (pss_one (ps_for (passes_of rfl) rfl (pi_list (pv 0)) (pg_name (i := 1) scLow.nd rfl (Or.inl rfl)) (pss_one (ps_if (pt_cmpR op_gt (pv 1) (pe_glob (v := .int 6) rfl gM ⟨_, rfl⟩) (nomark _)) (pss_one (ps_throw T.eG rfl (hr.mono (by decide)) (takes_of rfl rfl rfl rfl) (pv 1))) pss_nil)))), ?_⟩
    refine ⟨_, rfl, a, rfl, ⟨_, hs⟩, ?_⟩
    refine for_list (K := K) (a := a) (xs := ns.map V.int) (fun i σ H' => (∃ y, σ = [some (.ref a), y]) ∧ H' = H ∧ ∀ j m, j < i → ns[j]? = some m → m ≤ 6) ⟨⟨_, rfl⟩, rfl, fun j m h => absurd h (Nat.not_lt_zero j)⟩ (fun i σ H' _ h => by rw [h.2.1]; exact hs) ?_ ?_
    · rintro i y σ H' hy ⟨⟨y1, rfl⟩, rfl, lo⟩
      obtain ⟨n, hn, rfl⟩ := ints_at hy
      refine ⟨_, rfl, _, _, rfl, rfl, _, rfl, ite2 (fun z => ?_) (fun z => ?_)⟩
      · have z1 : 6 < n := of_decide_eq_true z
        exact ⟨_, rfl, thrown_go (xf i n hn z1 lo)⟩
      · have z1 : ¬ 6 < n := fun y => z (decide_eq_true y)
        refine ⟨⟨_, rfl⟩, rfl, fun j m hj hm => ?_⟩
        by_cases e : j = i
        · subst e
          rw [hn] at hm
          cases hm
          omega
        · exact lo j m (by omega) hm
    · rintro σ H' ⟨⟨y1, rfl⟩, rfl, lo⟩
      refine q fun i n hn => ?_
      have hi : i < ns.length := (List.getElem?_eq_some_iff.mp hn).1
      exact lo i n (by rw [List.length_map]; exact hi) hn
theorem okCSize {f : Addr} {fd : FuncData} (F : Fun K "check_size" "check_size" sCSize f fd) (T : Txt K w mg aI aT CP CT CZ CN CG kI kT) (GI : Own P w K mg base CX0 2 "is_integer" ["value", "low", "high"] [] spInt) : FnOk P w K mg base (L2.CX P w) 4 f fd ["size"] (spCSize CZ) := by
  refine F.okX scCSize (fun vs H Q E h => ?_) (fun cdv A outer s H vs Q E hr h => ?_)
  · obtain ⟨v, d, rfl, _⟩ := h
    rfl
  · obtain ⟨v, d, rfl, an, qt, qf⟩ := h
    obtain ⟨tM, gM⟩ := T.gM
    refine ⟨_, (pss_one (ps_if (pt_not (pt_val (pe_own GI (hr.mono (by decide)) pass0 (pa_cons (pv 0) (pa_cons pe_int (pa_cons (pe_glob (v := .int 6) rfl gM ⟨_, rfl⟩) pa_nil)))))) (pss_one (ps_throw T.eZ rfl (hr.mono (by decide)) (takes_of rfl rfl rfl rfl) (pv 0))) pss_nil)), ?_⟩
    refine ⟨_, rfl, v, _, _, d, .int 0, .int 6, rfl, an, .int _, .int _, _, rfl, ?_⟩
    cases e : isSzD d with
    | true =>
      rw [show inB d (.int 0) (.int 6) = true from e]
      exact iteF (qt e)
    | false =>
      rw [show inB d (.int 0) (.int 6) = false from e]
      exact iteT ⟨_, rfl, thrown_go (qf e)⟩
theorem okCArrow {f : Addr} {fd : FuncData} (F : Fun K "_check_arrow" "_check_arrow" sCArrow f fd) (T : Txt K w mg aI aT CP CT CZ CN CG kI kT) (h2 : ∀ z, (lookS kT z).isSome = isArD (.str z)) {CW : Addr} (eW : Err K mg "InvalidArrow" CW) : FnOk P w K mg base (L2.CX P w) 4 f fd ["pattern", "arrow"] (spCArrow CW CG) := by
  refine F.okX scCArrow (fun vs H Q E h => ?_) (fun cdv A outer s H vs Q E hr h => ?_)
  · obtain ⟨x, v, d, rfl, _⟩ := h
    rfl
  · obtain ⟨x, v, d, rfl, lx, an, q1, q2, q3⟩ := h
    obtain ⟨tM, gM⟩ := T.gM
    have lz : x.length ≤ sizeLine := Nat.le_trans lx (by decide)
    refine ⟨_, (pss_cons (ps_if (pt_not (PW.pt (pw_and (pt_val (pe_callB call_isi (by rfl) T.isi (by decide +kernel) (pa_cons (pv 1) (pa_cons (pe_bltn (v := .ty "str") rfl T.str (by decide +kernel) rfl) pa_nil)))) (pw_and1 (pt_cmpR (op_in_ts T.tT) (pv 1) (pe_glob (v := .ref aT) rfl T.gT rfl) (by rfl)))))) (pss_one (ps_throw eW rfl (hr.mono (by decide)) (takes_of rfl rfl rfl rfl) (pv 1))) pss_nil)
      (pss_one (ps_if (pt_cmpR op_eq (pe_callB call_len_str (by rfl) T.len (by decide +kernel) (pa_cons (pv 0) pa_nil)) (pe_glob (v := .int 6) rfl gM ⟨_, rfl⟩) (nomark _)) (pss_one (ps_throw T.eG rfl (hr.mono (by decide)) (takes_of rfl rfl rfl rfl) (pe_op op_add (pe_glob (v := .int 6) rfl gM ⟨_, rfl⟩) pe_int))) pss_nil))), ?_⟩
    refine ⟨v, rfl, v, .ty "str", _, _, _, rfl, .ty _, any_ty an, kit_str d, _, rfl, ?_⟩
    cases an with
    | str z =>
      refine iteT ⟨_, rfl, z, rfl, rfl, _, rfl, ?_⟩
      rw [h2]
      cases ea : isArD (.str z) with
      | false => exact iteT ⟨_, rfl, thrown_go (q1 ea)⟩
      | true =>
        refine iteF ⟨_, rfl, x, rfl, lz, rfl, _, rfl, ite2 (fun y => ?_) (fun y => ?_)⟩
        · have e6 : x.length = 6 := by
            have h3 : V.int (x.length : Int) = V.int 6 := of_decide_eq_true y
            injection h3 with h4
            omega
          exact ⟨_, _, rfl, rfl, thrown_go (q2 ea e6)⟩
        · have e6 : ¬ x.length = 6 := fun z => y (decide_eq_true (by rw [z] <;> rfl))
          exact q3 ea (by omega)
    | _ => exact iteF (iteT ⟨_, rfl, thrown_go (q1 rfl)⟩)
set_option pp.maxSteps 300 in
end
end K53

set_option Elab.async false
set_option linter.all false
set_option maxRecDepth 100000
set_option maxHeartbeats 1500000
/-! TkWC: numbers of bars as dicts; the promises of the defs that look at them. -/
namespace Rw
open PySem PySem.Spec PyProof.Rows L2
def leadX (x : Str) (q r : Nat × Nat) : Bool := leadsB x q.1 q.2 r.1 r.2
theorem lead_anti {x : Str} {n : Nat} : Anti (leadX x) n where
  anti := fun q r ne h1 h2 => by
    obtain ⟨b, e⟩ := q
    obtain ⟨c, l⟩ := r
    obtain ⟨a1, a2, a3⟩ := leads_iff.mp (show leadsB x b e c l = true from h1)
    obtain ⟨b1, b2, b3⟩ := leads_iff.mp (show leadsB x c l b e = true from h2)
    rw [Nat.max_comm c b] at b2
    rw [Nat.min_comm l e] at b3
    have e1 : b = c := by
      rcases a2 with z | z
      · exact z
      · rcases b2 with y | y
        · exact y.symm
        · by_cases r : isR x (max b c - 1) = true
          · have := z.mp r; have := y.mp r; omega
          · have h3 : ¬ c < b := fun k => r (z.mpr k)
            have h4 : ¬ b < c := fun k => r (y.mpr k)
            omega
    have e2 : e = l := by
      rcases a3 with z | z
      · exact z
      · rcases b3 with y | y
        · exact y.symm
        · by_cases r : isR x (min e l) = true
          · have := z.mp r; have := y.mp r; omega
          · have h3 : ¬ l < e := fun k => r (z.mpr k)
            have h4 : ¬ e < l := fun k => r (y.mpr k)
            omega
    exact ne (by rw [e1, e2])
  over := fun q r h h1 h2 => by
    obtain ⟨b, e⟩ := q
    obtain ⟨c, l⟩ := r
    obtain ⟨a1, _⟩ := leads_iff.mp (show leadsB x b e c l = true from h)
    have h1 : b ≤ n := h1
    have h2 : c ≤ n := h2
    refine ⟨max b c, by omega, ?_, ?_⟩
    · unfold covB
      rw [decide_eq_true (show b ≤ max b c by omega), decide_eq_true (show max b c ≤ e by omega)] <;> rfl
    · unfold covB
      rw [decide_eq_true (show c ≤ max b c by omega), decide_eq_true (show max b c ≤ l by omega)] <;> rfl
/-- the entries of a dict of numbers -/
def nmE (q : (Nat × Nat) × Nat) : List L2.Key × V := (keyT q.1, .int ((q.2 : Nat) : Int))
def nmT (T : Nums) : List (List L2.Key × V) := T.map nmE
def nmD (T : Nums) : List PyData := T.map fun q => natD q.2
def NumAt (H : Hp) (d : Addr) (T : Nums) : Prop := ∃ o, H d = some (.frz o (.dT (nmT T)))
theorem NumAt.keep {H H' : Hp} {d : Addr} {T : Nums} (h : NumAt H d T) (k : Same H H') : NumAt H' d T := by
  obtain ⟨o, e⟩ := h
  exact ⟨o, k _ _ e⟩
theorem nm_any {H : Hp} : ∀ T : Nums, AnyL H ((nmT T).map (·.2)) (nmD T)
  | [] => .nil
  | q :: T => .cons (.int _) (nm_any T)
structure GoodB (n : Nat) (T : Nums) : Prop where
  ok : ∀ q ∈ T, q.1.1 ≤ q.1.2 ∧ q.1.2 ≤ n
  lo : ∀ q ∈ T, q.2 ≤ 6
/-- bars and numbers alone -/
def numOkB (n : Nat) (k : List L2.Key) (d : PyData) : Bool := isBarD n (tupK k) && inB d (.int 0) (.int 6)
def numsOk (n : Nat) (kvs : List (List L2.Key × V)) (ds : List PyData) : Bool := (kvs.zip ds).all fun q => numOkB n q.1.1 q.2
theorem key_data : ∀ {k : L2.Key} {i : Int}, keyD k = .int i → k = .inl i
  | .inl j, i, h => by cases h; rfl
  | .inr y, i, h => by cases h
theorem key_of_bar {n : Nat} {k : List L2.Key} (h : isBarD n (tupK k) = true) : ∃ q : Nat × Nat, k = keyT q ∧ q.1 ≤ q.2 ∧ q.2 ≤ n := by
  obtain ⟨b, e, h1, h2, h3⟩ := bar_of h
  have h4 : k.map keyD = [.int (b : Nat), .int (e : Nat)] := by
    have : PyData.tuple (k.map keyD) = .tuple [.int (b : Nat), .int (e : Nat)] := h1
    injection this
  refine ⟨(b, e), ?_, h2, h3⟩
  match k, h4 with
  | [k1, k2], h4 =>
    rw [List.map_cons, List.map_cons] at h4
    injection h4 with a1 a2
    injection a2 with a2 _
    rw [key_data a1, key_data a2] <;> rfl
theorem num_of {d : PyData} (h : inB d (.int 0) (.int 6) = true) : ∃ m : Nat, d = natD m ∧ m ≤ 6 := by
  cases d with
  | int i =>
    have h5 : (decide ((0 : Int) ≤ i) && decide (i ≤ 6)) = true := h
    rw [Bool.and_eq_true] at h5
    have a1 := of_decide_eq_true h5.1
    have a2 := of_decide_eq_true h5.2
    refine ⟨i.toNat, ?_, by omega⟩
    unfold natD
    rw [Int.toNat_of_nonneg a1]
  | _ => cases h
theorem nums_of {n : Nat} {H : Hp} : ∀ {kvs : List (List L2.Key × V)} {ds : List PyData}, AnyL H (kvs.map (·.2)) ds → numsOk n kvs ds = true → ∃ T, kvs = nmT T ∧ GoodB n T
  | [], ds, _, _ => ⟨[], rfl, ⟨(fun q h => by cases h), (fun q h => by cases h)⟩⟩
  | (k, v) :: kvs, ds, a, h => by
    cases a with
    | @cons _ _ d ds' a1 a2 =>
      have h2 : (numOkB n k d && numsOk n kvs ds') = true := h
      rw [Bool.and_eq_true] at h2
      obtain ⟨T, e1, g⟩ := nums_of a2 h2.2
      have h3 : (isBarD n (tupK k) && inB d (.int 0) (.int 6)) = true := h2.1
      rw [Bool.and_eq_true] at h3
      obtain ⟨q, rfl, q1, q2⟩ := key_of_bar h3.1
      obtain ⟨m, rfl, m6⟩ := num_of h3.2
      have ev : v = .int ((m : Nat) : Int) := by
        have a1 : Any H v (.int ((m : Nat) : Int)) := a1
        cases a1
        rfl
      subst ev
      refine ⟨(q, m) :: T, by rw [e1] <;> rfl, ⟨fun r hr => ?_, fun r hr => ?_⟩⟩
      · rcases List.mem_cons.mp hr with z | z
        · rw [z]; exact ⟨q1, q2⟩
        · exact g.ok r z
      · rcases List.mem_cons.mp hr with z | z
        · rw [z]; exact m6
        · exact g.lo r z
theorem nums_ok {n : Nat} : ∀ {T : Nums}, GoodB n T → numsOk n (nmT T) (nmD T) = true
  | [], _ => rfl
  | q :: T, g => by
    show (numOkB n (keyT q.1) (natD q.2) && numsOk n (nmT T) (nmD T)) = true
    rw [nums_ok ⟨fun r hr => g.ok r (List.mem_cons_of_mem _ hr), fun r hr => g.lo r (List.mem_cons_of_mem _ hr)⟩, Bool.and_true]
    obtain ⟨q1, q2⟩ := g.ok q List.mem_cons_self
    have h1 := bar_is q1 q2
    have h2 := g.lo q List.mem_cons_self
    show (isBarD n (barD (q.1.1, q.1.2)) && inB (natD q.2) (.int 0) (.int 6)) = true
    rw [h1, Bool.true_and]
    exact inB_yes (by omega) (by omega)
/-! ### the promises -/
def spCNumsT (CN : Addr) : Sp := fun vs H Q E => ∃ x d o kvs ds, vs = [.str x, .ref d] ∧ x.length ≤ 6 ∧ H d = some (.frz o (.dT kvs)) ∧ AnyL H (kvs.map (·.2)) ds ∧ kvs.length ≤ 900 ∧
  (numsOk x.length kvs ds = true → ∀ H', Same H H' → Q .non H') ∧ (numsOk x.length kvs ds = false → Thrown CN (.ref d) H E)
def sizesT (n : Nat) (T : Nums) : List Int := (List.range (n + 1)).map fun i => ((szN T i : Nat) : Int)
def spLowSzT (CN CG : Addr) : Sp := fun vs H Q E => ∃ x d o kvs ds, vs = [.str x, .ref d] ∧ x.length ≤ 6 ∧ H d = some (.frz o (.dT kvs)) ∧ AnyL H (kvs.map (·.2)) ds ∧ kvs.length ≤ 900 ∧
  (numsOk x.length kvs ds = false → Thrown CN (.ref d) H E) ∧ (∀ T, kvs = nmT T → GoodB x.length T →
    ((∀ i, i ≤ x.length → szN T i ≤ 6) → ∀ l H', H l = none → Same H H' → H' l = some (.lst ((sizesT x.length T).map V.int)) → Q (.ref l) H') ∧
    (∀ i, i ≤ x.length → 6 < szN T i → (∀ j, j < i → szN T j ≤ 6) → ∀ H', Same H H' → Thrown CG (.int ((szN T i : Nat) : Int)) H' E))
/-- what of a list is taken -/
theorem take_flt {α : Type} {f : α → Bool} {l : List α} {i : Nat} {b : α} (h : l[i]? = some b) : (l.take (i + 1)).filter f = (l.take i).filter f ++ (if f b then [b] else []) := by
  rw [List.take_add_one, h, List.filter_append]
  cases e : f b
  · simp [e]
  · simp [e]
theorem nm_get {T : Nums} {i : Nat} {k : List L2.Key} {v : V} (h : (nmT T)[i]? = some (k, v)) : ∃ q, T[i]? = some q ∧ k = keyT q.1 ∧ v = .int ((q.2 : Nat) : Int) := by
  unfold nmT at h
  rw [List.getElem?_map] at h
  obtain ⟨q, h1, h2⟩ := Option.map_eq_some_iff.mp h
  cases h2
  exact ⟨q, h1, rfl, rfl⟩
theorem sz_filter (T : Nums) (i : Nat) : ((T.filter fun q => covB q.1 i).map fun q => ((q.2 : Nat) : Int)).sum = ((szN T i : Nat) : Int) := by
  induction T with
  | nil => rfl
  | cons q T ih =>
    have e : szN (q :: T) i = (if covB q.1 i then q.2 else 0) + szN T i := by unfold szN; rw [List.map_cons, List.sum_cons]
    rw [e, List.filter_cons]
    by_cases c : covB q.1 i = true
    · rw [if_pos c, if_pos c, List.map_cons, List.sum_cons, ih]
      omega
    · rw [if_neg c, if_neg c, ih, Nat.zero_add]
end Rw

set_option Elab.async false
set_option linter.all false
set_option maxRecDepth 100000
set_option maxHeartbeats 1500000
set_option exponentiation.threshold 3000
/-! TkWD: powers, lists of vectors, the carries of rows into themselves: promises. -/
namespace Rw
open PySem PySem.Spec PyProof.Rows L2
theorem nat_wide {a b m n : Nat} (ha : a < 2 ^ m) (hb : b < 2 ^ n) (m0 : 0 < m) (n0 : 0 < n) (h : m + n ≤ 1000000) : CMulW ((a : Nat) : Int) ((b : Nat) : Int) := wide_mul (a := m) (b := n) (by simpa using ha) (by simpa using hb) m0 n0 h
theorem nat_div {a b n : Nat} (h : 0 < b) (hb : b < 2 ^ n) (n0 : 0 < n) (h9 : n ≤ 9000) : CDivW ((a : Nat) : Int) ((b : Nat) : Int) := wide_div (b := n) (by omega) (by simpa using hb) n0 h9
def spPower : Sp := fun vs H Q _ => ∃ p n : Nat, vs = [.int ((p : Nat) : Int), .int ((n : Nat) : Int)] ∧ p ≤ 13 ∧ n ≤ 10000 ∧ Q (.int ((p ^ n : Nat) : Int)) H
def spIndep : Sp := fun vs H Q _ => ∃ p m l : Nat, vs = [.int ((p : Nat) : Int), .int ((m : Nat) : Int), .int ((l : Nat) : Int)] ∧ 2 ≤ p ∧ p ≤ 13 ∧ m ≤ l ∧ l ≤ 6 ∧ Q (.int ((indep p m l : Nat) : Int)) H
/-- a bar and its number -/
def itemN (q : (Nat × Nat) × Nat) : PyData := .tuple [barD q.1, natD q.2]
theorem noL_item (q : (Nat × Nat) × Nat) : noL (itemN q) = true := rfl
theorem noLs_items (T : Nums) : noLs (T.map itemN) = true := noLs_of fun d h => by
  obtain ⟨q, _, rfl⟩ := List.mem_map.mp h
  rfl
theorem item_at {H : Hp} {v : V} {q : (Nat × Nat) × Nat} (h : Any H v (itemN q)) : ∃ t b, v = .ref t ∧ H t = some (.tup [.ref b, .int ((q.2 : Nat) : Int)]) ∧ PairAt H b q.1.1 q.1.2 := by
  have h : Any H v (.tuple [barD q.1, natD q.2]) := h
  cases h with
  | tup e al =>
    cases al with
    | cons a1 al =>
      cases al with
      | cons a2 al =>
        cases al
        obtain ⟨b, rfl, hb⟩ := bar_at (b := q.1.1) (e := q.1.2) a1
        have a2 : Any H _ (.int ((q.2 : Nat) : Int)) := a2
        cases a2
        exact ⟨_, b, rfl, e, hb⟩
theorem item_any {H : Hp} {t b : Addr} {q : (Nat × Nat) × Nat} (e : H t = some (.tup [.ref b, .int ((q.2 : Nat) : Int)])) (hb : PairAt H b q.1.1 q.1.2) : Any H (.ref t) (itemN q) := .tup e (.cons hb.any (.cons (.int _) .nil))
theorem bar_lay (q : Nat × Nat) : (barD q).canLay0 = true := lay_tup fun d hd => by
  simp only [List.mem_cons, List.not_mem_nil, or_false] at hd
  rcases hd with z | z <;> subst z <;> rfl
theorem bar_dep (q : Nat × Nat) : (barD q).depth ≤ 64 := by
  show (PyData.tuple [.int _, .int _]).depth ≤ 64
  simp only [PyData.depth, PyData.depthAll]
  omega
theorem bar_eqv (q r : Nat × Nat) : PyData.eqv (barD q) (barD r) = decide (q = r) := by
  obtain ⟨b, e⟩ := q
  obtain ⟨c, l⟩ := r
  show (PyData.eqv (.tuple [.int (b : Nat), .int (e : Nat)]) (.tuple [.int (c : Nat), .int (l : Nat)])) = _
  simp only [PyData.eqv, PyData.eqvAll]
  by_cases h1 : b = c <;> by_cases h2 : e = l
  · subst h1 h2; simp
  · simp [h2, show ¬ ((e : Int) = (l : Int)) by omega]
  · simp [h1, show ¬ ((b : Int) = (c : Int)) by omega]
  · simp [h1, show ¬ ((b : Int) = (c : Int)) by omega]
theorem ne_bars {K : PySem.W.Frag} {H : Hp} {p q : Addr} {b e c l : Nat} {Q : VK} (hp : PairAt H p b e) (hq : PairAt H q c l) (k : Q (.bl (!decide ((b, e) = (c, l)))) H) : rNeD K (.ref p) (.ref q) H Q := by
  refine ne_two hp.any hq.any (bar_lay _) (bar_lay _) (bar_dep _) (bar_dep _) ?_
  rw [bar_eqv]
  exact k
/-- the products that are summed up -/
def rowF (L : Nat × Nat → Nat × Nat → Bool) (q : (Nat × Nat) × Nat) (U : Nums) : List Nat := (U.filter fun r => decide (q.1 ≠ r.1) && L q.1 r.1).map fun r => q.2 * r.2
theorem rowF_sum (L : Nat × Nat → Nat × Nat → Bool) (q : (Nat × Nat) × Nat) : ∀ U : Nums, (rowF L q U).sum = (U.map fun r => if q.1 ≠ r.1 ∧ L q.1 r.1 = true then q.2 * r.2 else 0).sum
  | [] => rfl
  | r :: U => by
    have ih := rowF_sum L q U
    unfold rowF at ih ⊢
    rw [List.filter_cons, List.map_cons, List.sum_cons, ← ih]
    by_cases c : q.1 ≠ r.1 ∧ L q.1 r.1 = true
    · rw [if_pos (by rw [decide_eq_true c.1, c.2] <;> rfl), if_pos c, List.map_cons, List.sum_cons]
    · rw [if_neg c, if_neg, Nat.zero_add]
      intro z
      rw [Bool.and_eq_true] at z
      exact c ⟨of_decide_eq_true z.1, z.2⟩
theorem rowF_all (L : Nat × Nat → Nat × Nat → Bool) (U : Nums) : ∀ T : Nums, (T.flatMap fun q => rowF L q U).sum = freeN L T U
  | [] => rfl
  | q :: T => by
    rw [List.flatMap_cons, List.sum_append, rowF_all L U T, rowF_sum]
    unfold freeN
    rw [List.map_cons, List.sum_cons]
theorem sum_cast : ∀ l : List Nat, (l.map fun n => ((n : Nat) : Int)).sum = ((l.sum : Nat) : Int)
  | [] => rfl
  | a :: l => by rw [List.map_cons, List.sum_cons, List.sum_cons, sum_cast l]; omega
theorem tri6 {n : Nat} (h : n ≤ 6) : tri n ≤ 15 := by
  have : ∀ k, k < 7 → tri k ≤ 15 := by decide
  exact this n (by omega)
theorem free_105 {x : Str} {T : Nums} (lx : x.length ≤ 6) (g : ∀ q ∈ T, q.1.1 ≤ q.1.2 ∧ q.1.2 ≤ x.length) (s : ∀ i, i ≤ x.length → szN T i ≤ 6) : freeN (leadX x) T T ≤ 105 := by
  have h := free_le (lead_anti (x := x) (n := x.length)) g
  have h2 : ((List.range (x.length + 1)).map fun i => tri (szN T i)).sum ≤ ((List.range (x.length + 1)).map fun _ => 15).sum := sum_le fun i hi => tri6 (s i (by have := List.mem_range.mp hi; omega))
  have h3 : ∀ n, ((List.range n).map fun _ => 15).sum = 15 * n := fun n => by
    induction n with
    | zero => rfl
    | succ n ih => rw [List.range_succ, List.map_append, List.sum_append, ih]; show 15 * n + 15 = _; omega
  rw [h3] at h2
  omega
/-- a walk whose turns are told by what they make of the next one -/
theorem wk_it {J : It} {n : Nat} {G : Hp → Prop} {Y : Nat → Hp → V → Hp → Prop} (w : Walk J n G Y) {B : (Hp → Prop) → V → Hp → Prop} {H0 : Hp} {Qd : Hp → Prop} (Pv : Nat → Hp → Prop) (h0 : Pv 0 H0) (hG : ∀ i H, i ≤ n → Pv i H → G H)
    (hs : ∀ i x H H', i < n → Pv i H → Y i H x H' → B (Pv (i + 1)) x H') (hd : ∀ H, Pv n H → Qd H) :
    ∃ W : Nat → Nat → Hp → Prop, (∃ m, W 0 m H0) ∧ ∀ i m H, W i m H → (J.stop i H ∧ Qd H) ∨ (J.go i H ∧ ∃ Nx : Hp → Prop, (∀ H', Nx H' → ∃ m', m' < m ∧ W (i + 1) m' H') ∧ ∀ x H', J.yld i H x H' → B Nx x H') := by
  refine ⟨fun i m H => m = n - i ∧ i ≤ n ∧ Pv i H, ⟨n, by simp, Nat.zero_le _, h0⟩, ?_⟩
  rintro i m H ⟨rfl, hi, p⟩
  have q := hG i H hi p
  by_cases hlt : i < n
  · exact .inr ⟨w.goes i H hlt q, Pv (i + 1), fun H' p' => ⟨n - (i + 1), by omega, rfl, hlt, p'⟩, fun x H' y => hs i x H H' hlt p (w.yields i H x H' hlt q y)⟩
  · have e : i = n := by omega
    subst e
    exact .inl ⟨w.stops H q, hd H p⟩
/-- what _keepers tells -/
def spKeep : Sp := fun vs H Q _ => ∃ (x : Str) (p : Nat) (d : Addr) (M : Nums), vs = [.str x, .int ((p : Nat) : Int), .ref d] ∧ Pat x 6 ∧ 2 ≤ p ∧ p ≤ 13 ∧ NumAt H d M ∧ GoodB x.length M ∧ (∀ i, i ≤ x.length → szN M i ≤ 6) ∧ M.length ≤ 900 ∧
  ∀ H', Same H H' → Q (.int ((keepN (leadX x) p (posN M) : Nat) : Int)) H'
theorem pos_ok {n : Nat} {M : Nums} (g : GoodB n M) : ∀ q ∈ posN M, (q.1.1 ≤ q.1.2 ∧ q.1.2 ≤ n) ∧ q.2 ≤ 6 := fun q hq => by
  have := (List.mem_filter.mp hq).1
  exact ⟨g.ok q this, g.lo q this⟩
/-- a part of the product -/
theorem keep_part {L : Nat × Nat → Nat × Nat → Bool} {p i : Nat} {T : Nums} (hp : 2 ≤ p) : p ^ freeN L T T * prodN ((T.take i).map fun q => gl p q.2) ≤ keepN L p T := by
  unfold keepN
  refine Nat.mul_le_mul_left _ ?_
  rw [List.map_take]
  exact prodN_take (fun a ha => by
    obtain ⟨q, _, rfl⟩ := List.mem_map.mp ha
    exact gl_pos hp) i
theorem prod_snoc {p : Nat} {T : Nums} {i : Nat} {q : (Nat × Nat) × Nat} (h : T[i]? = some q) : prodN ((T.take (i + 1)).map fun q => gl p q.2) = prodN ((T.take i).map fun q => gl p q.2) * gl p q.2 := by
  rw [List.take_add_one, h, List.map_append, prodN_append]
  show _ * (gl p q.2 * 1) = _
  rw [Nat.mul_one]
end Rw

set_option Elab.async false
set_option linter.all false
set_option maxRecDepth 100000
set_option maxHeartbeats 1500000
/-! TkIB: comprehensions beside a box, under a mask; tables that are none. -/
namespace Rw
open PySem PySem.Spec PyProof.Rows L2
theorem msk_cons {M : List Addr} {D : Addr} {H : Hp} : Same (msk (D :: M) H) (msk M H) := fun b o e => by
  obtain ⟨z, e⟩ := msk_at e
  rw [msk_out fun y => z (List.mem_cons_of_mem _ y)]
  exact e
theorem msk_fresh {M : List Addr} {D : Addr} {H H1 : Hp} (k : Same H H1) (hD : H D = none) : Same (msk M H) (msk (D :: M) H1) := fun b o e => by
  obtain ⟨z, e⟩ := msk_at e
  have ne : b ≠ D := ne_of_none e hD
  rw [msk_out (fun y => (List.mem_cons.mp y).elim ne z)]
  exact k b o e
theorem MOk.cons {M : List Addr} {D : Addr} {H : Hp} {xs : List V} (m : MOk M H) (e : H D = some (.lst xs)) : MOk (D :: M) H := fun b hb => by
  rcases List.mem_cons.mp hb with z | z
  · rw [z]; exact ⟨_, e, fun _ y => by cases y⟩
  · exact m b z
theorem MOk.tail {M : List Addr} {D : Addr} {H : Hp} (m : MOk (D :: M) H) : MOk M H := fun b hb => m b (List.mem_cons_of_mem _ hb)
theorem MOk.put {M : List Addr} {D : Addr} {H : Hp} {xs : List V} (m : MOk M H) : MOk M (upd H D (.lst xs)) := fun b hb => by
  by_cases z : b = D
  · rw [z]; exact ⟨_, upd_same, fun _ y => by cases y⟩
  · rw [upd_ne z]; exact m b hb
/-- new data of each turn, beside a box -/
theorem lc_msk {J : It} {n : Nat} {G : Hp → Prop} {P : Nat → V → Prop} (w : Walk J n G (fun i H x H' => H' = H ∧ P i x)) {j : Nat} {σ : L2.St} {vs : List Nat} {te : TE} {H1 : Hp} {p D : Addr} {M : List Addr} {c t : Nat} {Q : Hp → Prop} (hn : n ≤ 1000) (hD : H1 D = none) (hp : p ∈ M) (m0 : MOk M H1) (b0 : Bx H1 p c) (hG : ∀ H, Grow p H1 H → G H) (Good : Nat → PyData → Prop)
    (hs : ∀ i x H, i < n → P i x → Grow p H1 H → MOk (D :: M) H → Bx H p (c + i * t) → wipe ((wipe σ vs).set j (some x)) vs = wipe σ vs ∧ ∀ k : VK, (∀ y d H', Grow p H H' → MOk (D :: M) H' → Bx H' p (c + i * t + t) → Good i d → Any (msk (D :: M) H') y d → k y H') → te ((wipe σ vs).set j (some x)) H k)
    (hq : ∀ H acc ds, Grow p H1 H → MOk M H → Bx H p (c + n * t) → H D = some (.lst acc) → AnyL (msk (D :: M) H) acc ds → ds.length = n → (∀ i d, ds[i]? = some d → Good i d) → Any (msk M H) (.ref D) (.list ds) → Q H) :
    ∃ W : Nat → Nat → Hp → Prop, (∃ m, W 0 m (upd H1 D (.lst []))) ∧ ∀ i m H, W i m H →
      (J.stop i H ∧ Q H) ∨ (J.go i H ∧ ∃ Nx : Hp → Prop, (∀ H', Nx H' → ∃ m', m' < m ∧ W (i + 1) m' H') ∧ ∀ x H', J.yld i H x H' → gName j x (wipe σ vs) H' fun σ2 H2 => wipe σ2 vs = wipe σ vs ∧ tYes σ2 H2 fun b H3 =>
        if b = true then te σ2 H3 fun y H4 => ∃ acc, H4 D = some (.lst acc) ∧ acc.length < sizeLine ∧ Nx (upd H4 D (.lst (acc ++ [y]))) else Nx H3) := by
  have pD := b0.ne hD
  have nM := m0.new hD
  refine lc_it w (Qd := Q) (Pv := fun i H => Grow p H1 H ∧ MOk M H ∧ Bx H p (c + i * t) ∧ ∃ acc ds, H D = some (.lst acc) ∧ AnyL (msk (D :: M) H) acc ds ∧ ds.length = i ∧ ∀ k d, ds[k]? = some d → Good k d) ⟨Grow.of (same_new hD), m0.keep (same_new hD), by simpa using b0.keep (same_new hD), [], [], upd_same, .nil, rfl, fun k d h => by simp at h⟩ (fun i H _ h => hG H h.1) ?_ ?_
  · rintro i x H H' hi ⟨g, m, b, acc, ds, ha, al, l, gd⟩ ⟨rfl, hx⟩
    obtain ⟨e1, e2⟩ := hs i x H' hi hx g (m.cons ha) b
    refine ⟨e1, ?_⟩
    show te _ _ _
    refine e2 _ fun y d H4 g4 m4 b4 gd4 an => ?_
    have ha4 := g4 _ _ pD.symm ha
    have ln := anyL_len al
    refine ⟨acc, ha4, Nat.lt_of_lt_of_le (by omega : acc.length < 1000) (by decide), ?_, m4.tail.put, ?_, acc ++ [y], ds ++ [d], upd_same, ?_, by rw [List.length_append, l] <;> rfl, ?_⟩
    · intro z o ne eo
      rw [upd_ne (ne_of_none eo hD)]
      exact (g.trans g4) z o ne eo
    · obtain ⟨a1, a2, a3, h1, rest⟩ := b4
      refine Bx.more ⟨a1, a2, a3, by rw [upd_ne pD]; exact h1, rest⟩ ?_
      rw [Nat.succ_mul]
      omega
    · rw [msk_put List.mem_cons_self]
      exact anyL_snoc (anyL_keep (msk_grow (List.mem_cons_of_mem _ hp) g4) al) an
    · intro k e hk
      by_cases z : k < ds.length
      · rw [List.getElem?_append_left z] at hk
        exact gd k e hk
      · rw [List.getElem?_append_right (by omega)] at hk
        have hk2 : k - ds.length = 0 := by
          have := (List.getElem?_eq_some_iff.mp hk).1
          rw [List.length_singleton] at this
          omega
        rw [hk2] at hk
        cases hk
        have : k = i := by omega
        rw [this]
        exact gd4
  · rintro H ⟨g, m, b, acc, ds, ha, al, l, gd⟩
    exact hq H acc ds g m b ha al l gd (.lst (by rw [msk_out nM]; exact ha) (anyL_keep msk_cons al))
/-- the same without a box -/
theorem lc_mskS {J : It} {n : Nat} {G : Hp → Prop} {P : Nat → V → Prop} (w : Walk J n G (fun i H x H' => H' = H ∧ P i x)) {j : Nat} {σ : L2.St} {vs : List Nat} {te : TE} {H1 : Hp} {D : Addr} {M : List Addr} {Q : Hp → Prop} (hn : n ≤ 1000) (hD : H1 D = none) (m0 : MOk M H1) (hG : ∀ H, Same H1 H → G H) (Good : Nat → PyData → Prop)
    (hs : ∀ i x H, i < n → P i x → Same H1 H → MOk (D :: M) H → wipe ((wipe σ vs).set j (some x)) vs = wipe σ vs ∧ ∀ k : VK, (∀ y d H', Same H H' → Good i d → Any (msk (D :: M) H') y d → k y H') → te ((wipe σ vs).set j (some x)) H k)
    (hq : ∀ H acc ds, Same H1 H → MOk M H → H D = some (.lst acc) → AnyL (msk (D :: M) H) acc ds → ds.length = n → (∀ i d, ds[i]? = some d → Good i d) → Any (msk M H) (.ref D) (.list ds) → Q H) :
    ∃ W : Nat → Nat → Hp → Prop, (∃ m, W 0 m (upd H1 D (.lst []))) ∧ ∀ i m H, W i m H →
      (J.stop i H ∧ Q H) ∨ (J.go i H ∧ ∃ Nx : Hp → Prop, (∀ H', Nx H' → ∃ m', m' < m ∧ W (i + 1) m' H') ∧ ∀ x H', J.yld i H x H' → gName j x (wipe σ vs) H' fun σ2 H2 => wipe σ2 vs = wipe σ vs ∧ tYes σ2 H2 fun b H3 =>
        if b = true then te σ2 H3 fun y H4 => ∃ acc, H4 D = some (.lst acc) ∧ acc.length < sizeLine ∧ Nx (upd H4 D (.lst (acc ++ [y]))) else Nx H3) := by
  have nM := m0.new hD
  refine lc_it w (Qd := Q) (Pv := fun i H => Same H1 H ∧ ∃ acc ds, H D = some (.lst acc) ∧ AnyL (msk (D :: M) H) acc ds ∧ ds.length = i ∧ ∀ k d, ds[k]? = some d → Good k d) ⟨same_new hD, [], [], upd_same, .nil, rfl, fun k d h => by simp at h⟩ (fun i H _ h => hG H h.1) ?_ ?_
  · rintro i x H H' hi ⟨g, acc, ds, ha, al, l, gd⟩ ⟨rfl, hx⟩
    obtain ⟨e1, e2⟩ := hs i x H' hi hx g ((m0.keep g).cons ha)
    refine ⟨e1, ?_⟩
    show te _ _ _
    refine e2 _ fun y d H4 g4 gd4 an => ?_
    have ha4 := g4 _ _ ha
    have ln := anyL_len al
    refine ⟨acc, ha4, Nat.lt_of_lt_of_le (by omega : acc.length < 1000) (by decide), ?_, acc ++ [y], ds ++ [d], upd_same, ?_, by rw [List.length_append, l] <;> rfl, ?_⟩
    · intro z o eo
      rw [upd_ne (ne_of_none eo hD)]
      exact (g.trans g4) z o eo
    · rw [msk_put List.mem_cons_self]
      exact anyL_snoc (anyL_keep (msk_same g4) al) an
    · intro k e hk
      by_cases z : k < ds.length
      · rw [List.getElem?_append_left z] at hk
        exact gd k e hk
      · rw [List.getElem?_append_right (by omega)] at hk
        have hk2 : k - ds.length = 0 := by
          have := (List.getElem?_eq_some_iff.mp hk).1
          rw [List.length_singleton] at this
          omega
        rw [hk2] at hk
        cases hk
        have : k = i := by omega
        rw [this]
        exact gd4
  · rintro H ⟨g, acc, ds, ha, al, l, gd⟩
    exact hq H acc ds g (m0.keep g) ha al l gd (.lst (by rw [msk_out nM]; exact ha) (anyL_keep msk_cons al))
/-- the same for any target -/
theorem lc_mskG {J : It} {n : Nat} {G : Hp → Prop} {P : Nat → V → Prop} (w : Walk J n G (fun i H x H' => H' = H ∧ P i x)) {g : TG} {σ : L2.St} {vs : List Nat} {te : TE} {H1 : Hp} {D : Addr} {M : List Addr} {Q : Hp → Prop} (hn : n ≤ 1000) (hD : H1 D = none) (m0 : MOk M H1) (hG : ∀ H, Same H1 H → G H) (Good : Nat → PyData → Prop)
    (hs : ∀ i x H, i < n → P i x → Same H1 H → MOk (D :: M) H → ∀ k : VK, (∀ y d H', Same H H' → Good i d → Any (msk (D :: M) H') y d → k y H') → g x (wipe σ vs) H fun σ2 H2 => wipe σ2 vs = wipe σ vs ∧ te σ2 H2 k)
    (hq : ∀ H acc ds, Same H1 H → MOk M H → H D = some (.lst acc) → AnyL (msk (D :: M) H) acc ds → ds.length = n → (∀ i d, ds[i]? = some d → Good i d) → Any (msk M H) (.ref D) (.list ds) → Q H) :
    ∃ W : Nat → Nat → Hp → Prop, (∃ m, W 0 m (upd H1 D (.lst []))) ∧ ∀ i m H, W i m H →
      (J.stop i H ∧ Q H) ∨ (J.go i H ∧ ∃ Nx : Hp → Prop, (∀ H', Nx H' → ∃ m', m' < m ∧ W (i + 1) m' H') ∧ ∀ x H', J.yld i H x H' → g x (wipe σ vs) H' fun σ2 H2 => wipe σ2 vs = wipe σ vs ∧ tYes σ2 H2 fun b H3 =>
        if b = true then te σ2 H3 fun y H4 => ∃ acc, H4 D = some (.lst acc) ∧ acc.length < sizeLine ∧ Nx (upd H4 D (.lst (acc ++ [y]))) else Nx H3) := by
  have nM := m0.new hD
  refine lc_it w (Qd := Q) (Pv := fun i H => Same H1 H ∧ ∃ acc ds, H D = some (.lst acc) ∧ AnyL (msk (D :: M) H) acc ds ∧ ds.length = i ∧ ∀ k d, ds[k]? = some d → Good k d) ⟨same_new hD, [], [], upd_same, .nil, rfl, fun k d h => by simp at h⟩ (fun i H _ h => hG H h.1) ?_ ?_
  · rintro i x H H' hi ⟨g1, acc, ds, ha, al, l, gd⟩ ⟨rfl, hx⟩
    refine hs i x H' hi hx g1 ((m0.keep g1).cons ha) _ fun y d H4 g4 gd4 an => ?_
    have ha4 := g4 _ _ ha
    have ln := anyL_len al
    refine ⟨acc, ha4, Nat.lt_of_lt_of_le (by omega : acc.length < 1000) (by decide), ?_, acc ++ [y], ds ++ [d], upd_same, ?_, by rw [List.length_append, l] <;> rfl, ?_⟩
    · intro z o eo
      rw [upd_ne (ne_of_none eo hD)]
      exact (g1.trans g4) z o eo
    · rw [msk_put List.mem_cons_self]
      exact anyL_snoc (anyL_keep (msk_same g4) al) an
    · intro k e hk
      by_cases z : k < ds.length
      · rw [List.getElem?_append_left z] at hk
        exact gd k e hk
      · rw [List.getElem?_append_right (by omega)] at hk
        have hk2 : k - ds.length = 0 := by
          have := (List.getElem?_eq_some_iff.mp hk).1
          rw [List.length_singleton] at this
          omega
        rw [hk2] at hk
        cases hk
        have : k = i := by omega
        rw [this]
        exact gd4
  · rintro H ⟨g1, acc, ds, ha, al, l, gd⟩
    exact hq H acc ds g1 (m0.keep g1) ha al l gd (.lst (by rw [msk_out nM]; exact ha) (anyL_keep msk_cons al))
/-! ### tables -/
def tblD (rows : List (List Int)) : PyData := .list (rows.map lstI)
structure Tbl (m : Nat) (rows : List (List Int)) : Prop where
  l : rows.length = m
  m1 : 1 ≤ m
  m7 : m ≤ 7
  w : ∀ i r, rows[i]? = some r → r.length + i = m
  e : ∀ r, r ∈ rows → ∀ x, x ∈ r → 0 ≤ x ∧ x < 7
/-- what is no table, and small -/
structure NoT (d : PyData) : Prop where
  no : isTabD d = false
  wd : WideD d
  tq : Tq 3 d
theorem not_tab {ds : List PyData} {p : Nat} {e : PyData} (h : ds[p]? = some e) (l : lineB ds.length p e = false) : isTabD (.list ds) = false := by
  cases z : isTabD (.list ds) with
  | false => rfl
  | true =>
    unfold isTabD at z
    simp only [Bool.and_eq_true, isSeqD, true_and] at z
    have h1 := List.all_eq_true.mp z.2 p (List.mem_range.mpr (List.getElem?_eq_some_iff.mp h).1)
    have e1 : atD (.list ds) p = e := by
      show ds[p]?.getD .none = e
      rw [h] <;> rfl
    rw [e1] at h1
    exact h1.symm.trans l
theorem row_tq {r : List Int} (l : r.length ≤ 8) (h : ∀ x, x ∈ r → 0 ≤ x ∧ x < 7) : Tq 1 (lstI r) := tq_list (by rw [List.length_map]; omega) fun d hd => by
  obtain ⟨x, hx, rfl⟩ := List.mem_map.mp hd
  have := h x hx
  exact tq_int (Nat.lt_of_le_of_lt (by omega : x.natAbs ≤ 7) (by decide))
theorem Tbl.len {m : Nat} {rows : List (List Int)} (t : Tbl m rows) {r : List Int} (h : r ∈ rows) : r.length ≤ 7 := by
  obtain ⟨i, hi⟩ := List.getElem?_of_mem h
  have := t.w i r hi
  have := t.m7
  omega
theorem noT_put {m p : Nat} {rows : List (List Int)} {e : PyData} (t : Tbl m rows) (hp : p < m) (he : lineB m p e = false) (te : Tq 2 e) (we : (itemsD e).length ≤ 1000) : NoT (.list ((rows.map lstI).take p ++ [e] ++ (rows.map lstI).drop (p + 1))) := by
  have hl := t.l
  have m7 := t.m7
  have l1 : ((rows.map lstI).take p).length = p := by rw [List.length_take, List.length_map]; omega
  have ln : ((rows.map lstI).take p ++ [e] ++ (rows.map lstI).drop (p + 1)).length = m := by
    rw [List.length_append, List.length_append, l1, List.length_drop, List.length_map, List.length_singleton]
    omega
  have mem : ∀ d, d ∈ (rows.map lstI).take p ++ [e] ++ (rows.map lstI).drop (p + 1) → d = e ∨ ∃ r, r ∈ rows ∧ d = lstI r := fun d hd => by
    rcases List.mem_append.mp hd with z | z
    · rcases List.mem_append.mp z with y | y
      · obtain ⟨r, hr, rfl⟩ := List.mem_map.mp (List.mem_of_mem_take y)
        exact .inr ⟨r, hr, rfl⟩
      · exact .inl (List.mem_singleton.mp y)
    · obtain ⟨r, hr, rfl⟩ := List.mem_map.mp (List.mem_of_mem_drop z)
      exact .inr ⟨r, hr, rfl⟩
  refine ⟨not_tab (p := p) (e := e) ?_ (by rw [ln]; exact he), ⟨?_, ?_⟩, tq_list (by rw [ln]; omega) ?_⟩
  · rw [List.getElem?_append_left (by rw [List.length_append, l1]; exact Nat.lt_succ_self _), List.getElem?_append_right (by omega), l1, Nat.sub_self] <;> rfl
  · exact Nat.le_trans (Nat.le_of_eq ln) (by omega)
  · intro d hd
    rcases mem d hd with z | ⟨r, hr, z⟩
    · rw [z]; exact we
    · rw [z]
      show (r.map PyData.int).length ≤ 1000
      rw [List.length_map]
      have := t.len hr
      omega
  · intro d hd
    rcases mem d hd with z | ⟨r, hr, z⟩
    · rw [z]; exact te
    · rw [z]; exact (row_tq (by have := t.len hr; omega) (t.e r hr)).up (by decide)
theorem noT_less {m : Nat} {rows : List (List Int)} (t : Tbl m rows) : NoT (.list ((rows.map lstI).take (m - 1))) := by
  have hl := t.l
  have m7 := t.m7
  have m1 := t.m1
  have ln : ((rows.map lstI).take (m - 1)).length = m - 1 := by rw [List.length_take, List.length_map]; omega
  have mem : ∀ d, d ∈ (rows.map lstI).take (m - 1) → ∃ r, r ∈ rows ∧ d = lstI r := fun d hd => by
    obtain ⟨r, hr, rfl⟩ := List.mem_map.mp (List.mem_of_mem_take hd)
    exact ⟨r, hr, rfl⟩
  refine ⟨?_, ⟨?_, ?_⟩, tq_list (by rw [ln]; omega) ?_⟩
  · by_cases z : m = 1
    · subst z
      rw [show 1 - 1 = 0 from rfl, List.take_zero] <;> rfl
    · have h0 : 0 < rows.length := by omega
      have g0 := t.w 0 _ (List.getElem?_eq_getElem h0)
      refine not_tab (p := 0) (e := lstI rows[0]) ?_ ?_
      · rw [List.getElem?_take_of_lt (by omega), List.getElem?_map, List.getElem?_eq_getElem h0] <;> rfl
      · rw [ln]
        unfold lineB
        rw [show decide ((itemsD (lstI rows[0])).length + 0 = m - 1) = false from decide_eq_false (by
          show ¬ (rows[0].map PyData.int).length + 0 = m - 1
          rw [List.length_map]
          omega), Bool.false_and, Bool.and_false]
  · exact Nat.le_trans (Nat.le_of_eq ln) (by omega)
  · intro d hd
    obtain ⟨r, hr, rfl⟩ := mem d hd
    show (r.map PyData.int).length ≤ 1000
    rw [List.length_map]
    have := t.len hr
    omega
  · intro d hd
    obtain ⟨r, hr, rfl⟩ := mem d hd
    exact (row_tq (by have := t.len hr; omega) (t.e r hr)).up (by decide)
theorem line_len {m p : Nat} {r : List Int} (h : r.length + p ≠ m) : lineB m p (lstI r) = false := by
  unfold lineB
  rw [show decide ((itemsD (lstI r)).length + p = m) = false from decide_eq_false (by
    show ¬ (r.map PyData.int).length + p = m
    rw [List.length_map]
    exact h), Bool.false_and, Bool.and_false]
/-- the odd lines -/
def oddLine (k : Nat) : List PyData := [.none, .int 3, .str (Txt.mul "0" ((k : Nat) : Int)), .dict [], .bool true, .list (List.replicate k (lstI [0]))]
def lineOk (k p : Nat) : Bool := (oddLine k).all fun d => !lineB (k + p) p d && (tqB 2 d && decide ((itemsD d).length ≤ 1000))
theorem all_lines : ((List.range 7).all fun k => (List.range 8).all fun p => lineOk (k + 1) p) = true := by decide +kernel
theorem oddLine_ok {m p : Nat} {d : PyData} {k : Nat} (hk : 1 ≤ k) (h : k + p = m) (m7 : m ≤ 7) (hd : d ∈ oddLine k) : lineB m p d = false ∧ Tq 2 d ∧ (itemsD d).length ≤ 1000 := by
  have h1 := List.all_eq_true.mp (List.all_eq_true.mp all_lines (k - 1) (List.mem_range.mpr (by omega))) p (List.mem_range.mpr (by omega))
  rw [show k - 1 + 1 = k by omega] at h1
  have h2 := List.all_eq_true.mp h1 d hd
  rw [Bool.and_eq_true, Bool.and_eq_true, h, Bool.not_eq_true'] at h2
  exact ⟨h2.1, tq_ofB h2.2.1, of_decide_eq_true h2.2.2⟩
def oddRank : List PyData := [.none, .bool true, .bool false, .int 7, .int (-1), .str "1", lstI [1], .int (10 ^ Int.toNat 29)]
theorem oddRank_ok : ∀ d ∈ oddRank, isSzD d = false ∧ Tq 1 d := by
  have c : ∀ d ∈ oddRank, isSzD d = false ∧ tqB 1 d = true := by decide +kernel
  intro d hd
  obtain ⟨h1, h2⟩ := c d hd
  exact ⟨h1, tq_ofB h2⟩
theorem mul_0 {k : Nat} (h : k ≤ 7) : PySem.MulOk "0" ((k : Nat) : Int) := by
  rcases (by omega : k = 0 ∨ k = 1 ∨ k = 2 ∨ k = 3 ∨ k = 4 ∨ k = 5 ∨ k = 6 ∨ k = 7) with e | e | e | e | e | e | e | e <;> subst e <;>
    first | exact ⟨by decide, fun h => absurd (by decide) h, fun h => absurd (by decide) h⟩ | exact ⟨by decide, fun _ _ => by decide +kernel, fun _ _ => by decide +kernel⟩
theorem line_odd {m p a : Nat} {r : List Int} {d : PyData} (l : r.length ≤ 7) (hr : ∀ x, x ∈ r → 0 ≤ x ∧ x < 7) (ha : a < r.length) (h : isSzD d = false) (t : Tq 1 d) :
    lineB m p (.list ((r.map PyData.int).take a ++ [d] ++ (r.map PyData.int).drop (a + 1))) = false ∧ Tq 2 (.list ((r.map PyData.int).take a ++ [d] ++ (r.map PyData.int).drop (a + 1))) ∧ (itemsD (.list ((r.map PyData.int).take a ++ [d] ++ (r.map PyData.int).drop (a + 1)))).length ≤ 1000 := by
  have ln : ((r.map PyData.int).take a ++ [d] ++ (r.map PyData.int).drop (a + 1)).length = r.length := by
    rw [List.length_append, List.length_append, List.length_take, List.length_drop, List.length_map, List.length_singleton]
    omega
  refine ⟨?_, tq_list (by rw [ln]; omega) fun e he => ?_, Nat.le_trans (Nat.le_of_eq ln) (by omega)⟩
  · unfold lineB
    have : ((itemsD (.list ((r.map PyData.int).take a ++ [d] ++ (r.map PyData.int).drop (a + 1)))).all isSzD) = false := by
      show List.all ((r.map PyData.int).take a ++ [d] ++ (r.map PyData.int).drop (a + 1)) isSzD = false
      rw [List.all_append, List.all_append, List.all_cons, h, Bool.false_and, Bool.and_false, Bool.false_and]
    rw [this, Bool.and_false, Bool.and_false]
  · have int : ∀ z, z ∈ r.map PyData.int → Tq 1 z := fun z hz => by
      obtain ⟨x, hx, rfl⟩ := List.mem_map.mp hz
      have := hr x hx
      exact (tq_int (Nat.lt_of_le_of_lt (by omega : x.natAbs ≤ 7) (by decide))).up (by decide)
    rcases List.mem_append.mp he with z | z
    · rcases List.mem_append.mp z with y | y
      · exact int _ (List.mem_of_mem_take y)
      · rw [List.mem_singleton.mp y]; exact t
    · exact int _ (List.mem_of_mem_drop z)
theorem cutV_take {xs : List V} {c : Nat} (h : c ≤ xs.length) : cutV xs none (some ((c : Nat) : Int)) = xs.take c := by
  unfold cutV
  rw [HT.sIx_nat, HT.sIx_none, Nat.min_eq_left h, List.drop_zero, Nat.sub_zero]
theorem cutV_less {xs : List V} (h : 1 ≤ xs.length) : cutV xs none (some (-1)) = xs.take (xs.length - 1) := by
  have e2 : HT.sIx xs.length xs.length (some (-1)) = xs.length - 1 := by
    show (if (-1 : Int) < 0 then ((-1 : Int) + (xs.length : Int)).toNat else min (-1 : Int).toNat xs.length) = _
    rw [if_pos (by decide)]
    omega
  unfold cutV
  rw [e2, HT.sIx_none, List.drop_zero, Nat.sub_zero]
/-- the things that are no table, whatever is drawn -/
def flatT : List PyData := [.none, .int 3, .bool true, .str "", .str "1", .list [], .tuple [], .dict [], .dict [(.int 0, lstI [1])], .list ((List.range 8).map fun a => lineD 0 (8 - a)), lstI [1], .list [.list []], .list [.tuple []]]
theorem flatT_ok : ∀ d ∈ flatT, NoT d := by
  have c : ∀ d ∈ flatT, isTabD d = false ∧ tqB 3 d = true ∧ (itemsD d).length ≤ 1000 ∧ ∀ e ∈ itemsD d, (itemsD e).length ≤ 1000 := by decide +kernel
  intro d hd
  obtain ⟨h1, h2, h3, h4⟩ := c d hd
  exact ⟨h1, ⟨h3, h4⟩, tq_ofB h2⟩
/-- the law's own promises -/
def spBentT : Sp := fun vs H Q _ => ∃ M p v n m rows, vs = [.ref p, v] ∧ p ∈ M ∧ MOk M H ∧ Bx H p n ∧ n ≤ 900000 ∧ Any (msk M H) v (tblD rows) ∧ Tbl m rows ∧
  ∀ u d H', NoT d → Grow p H H' → MOk M H' → Bx H' p (n + 10) → Any (msk M H') u d → Q u H'
theorem msk_freshG {M : List Addr} {D p : Addr} {H H1 : Hp} (hp : p ∈ M) (g : Grow p H H1) (hD : H D = none) : Same (msk M H) (msk (D :: M) H1) := fun b o e => by
  obtain ⟨z, e⟩ := msk_at e
  have ne : b ≠ D := ne_of_none e hD
  rw [msk_out (fun y => (List.mem_cons.mp y).elim ne z)]
  exact g b o (fun y => z (by rw [y]; exact hp)) e
theorem ds_eq {ds : List PyData} {n : Nat} {f : Nat → PyData} (l : ds.length = n) (g : ∀ i d, ds[i]? = some d → d = f i) : ds = (List.range n).map f := by
  apply List.ext_getElem?
  intro i
  by_cases h : i < n
  · rw [List.getElem?_map, List.getElem?_range h, List.getElem?_eq_getElem (by omega)]
    exact congrArg some (g i _ (List.getElem?_eq_getElem (by omega)))
  · rw [List.getElem?_eq_none (by omega), List.getElem?_eq_none (by rw [List.length_map, List.length_range]; omega)]
theorem ints_list {P : Int → Prop} : ∀ {ds : List PyData}, (∀ (i : Nat) d, ds[i]? = some d → ∃ x : Int, d = .int x ∧ P x) → ∃ r : List Int, ds = r.map .int ∧ ∀ x, x ∈ r → P x
  | [], _ => ⟨[], rfl, fun x h => (nomatch h)⟩
  | d :: ds, h => by
    obtain ⟨x, rfl, hx⟩ := h 0 d rfl
    obtain ⟨r, rfl, hr⟩ := ints_list (ds := ds) fun i e he => h (i + 1) e (by simpa using he)
    exact ⟨x :: r, rfl, fun y hy => (List.mem_cons.mp hy).elim (fun z => z ▸ hx) (hr y)⟩
theorem tbl_of {m : Nat} {ds : List PyData} (m1 : 1 ≤ m) (m7 : m ≤ 7) (l : ds.length = m) (g : ∀ (i : Nat) d, ds[i]? = some d → ∃ r, d = lstI r ∧ r.length + i = m ∧ ∀ x, x ∈ r → 0 ≤ x ∧ x < 7) : ∃ rows, ds = rows.map lstI ∧ Tbl m rows := by
  have ch : ∀ i : Nat, ∃ r : List Int, i < m → ds[i]? = some (lstI r) ∧ r.length + i = m ∧ ∀ x, x ∈ r → 0 ≤ x ∧ x < 7 := fun i => by
    by_cases h : i < m
    · have e := List.getElem?_eq_getElem (l := ds) (i := i) (by omega)
      obtain ⟨r, e1, e2, e3⟩ := g i _ e
      exact ⟨r, fun _ => ⟨by rw [e, e1], e2, e3⟩⟩
    · exact ⟨[], fun z => absurd z h⟩
  obtain ⟨f, hf⟩ := Classical.axiomOfChoice ch
  refine ⟨(List.range m).map f, ?_, by rw [List.length_map, List.length_range], m1, m7, fun i r h => ?_, fun r h => ?_⟩
  · rw [List.map_map]
    refine ds_eq l fun i d h => ?_
    have hi : i < m := by
      have := (List.getElem?_eq_some_iff.mp h).1
      omega
    have := (hf i hi).1
    rw [h] at this
    exact Option.some.inj this
  · have hi : i < m := by
      have := (List.getElem?_eq_some_iff.mp h).1
      rw [List.length_map, List.length_range] at this
      exact this
    rw [List.getElem?_map, List.getElem?_range hi] at h
    cases Option.some.inj h
    exact (hf i hi).2.1
  · obtain ⟨i, hi, rfl⟩ := List.mem_map.mp h
    exact (hf i (List.mem_range.mp hi)).2.2
theorem rep_go {M : List Addr} {H : Hp} {k c : Nat} {z : Int} {Q : VK} (mo : MOk M H) (hk : k ≤ 8) (e : z = (k : Int)) (q : ∀ l H', Same H H' → MOk M H' → Any (msk M H') (.ref l) (lineD c k) → Q (.ref l) H') : ∀ l, H l = none → rRep (.ref l) (.int z) (upd H l (.lst [.int ((c : Nat) : Int)])) Q := fun l hl => by
  subst e
  refine ⟨l, _, [.int ((c : Nat) : Int)], rfl, rfl, upd_same, by omega, by omega, Nat.le_trans (by show 1 * ((k : Nat) : Int).toNat ≤ 8; omega) (by decide), fun p1 hp1 => ?_⟩
  rw [flat_one, show ((k : Nat) : Int).toNat = k by omega]
  obtain ⟨a, j, m⟩ := lay (mo.keep (same_new hl)) hp1 (ds := List.replicate k (natD c)) (vs := List.replicate k (.int ((c : Nat) : Int))) (anyL_rep (.int _) k)
  exact q p1 _ ((same_new hl).trans j) m a
theorem box_mok {H : Hp} {p : Addr} {n : Nat} (b : Bx H p n) : MOk [p] H := fun c hc => by
  obtain ⟨xs, e⟩ := bx_at b
  rw [List.mem_singleton.mp hc]
  exact ⟨_, e, fun _ z => by cases z⟩
theorem away {H H' : Hp} {D : Addr} (k : Same H H') (hD : H D = none) : Same H (del H' D) := fun b o e => by
  rw [del_ne (ne_of_none e hD)]
  exact k b o e
end Rw

set_option Elab.async false
set_option linter.all false
set_option maxRecDepth 100000
set_option maxHeartbeats 1500000
set_option exponentiation.threshold 3000
/-! TkWE: how many rows are alike: promises for right arguments. -/
namespace Rw
open PySem PySem.Spec PyProof.Rows L2
theorem nmE_inj {a b : (Nat × Nat) × Nat} (h : nmE a = nmE b) : a = b := by
  obtain ⟨⟨b1, e1⟩, m1⟩ := a
  obtain ⟨⟨b2, e2⟩, m2⟩ := b
  simp [nmE, keyT] at h
  obtain ⟨⟨h1, h2⟩, h3⟩ := h
  rw [Int.ofNat.inj h1, Int.ofNat.inj h2]
  first | rw [Int.ofNat.inj h3] | rw [h3]
theorem nmT_inj : ∀ {T U : Nums}, nmT T = nmT U → T = U
  | [], [], _ => rfl
  | [], _ :: _, h => by cases h
  | _ :: _, [], h => by cases h
  | a :: T, b :: U, h => by
    have h : nmE a :: nmT T = nmE b :: nmT U := h
    injection h with h1 h2
    rw [nmE_inj h1, nmT_inj h2]
structure PrN (p : Nat) : Prop where
  m : ((p : Nat) : Int) ∈ primesL
  l : 2 ≤ p
  h : p ≤ 13
theorem pr_nat {q : Int} (h : q ∈ primesL) : ∃ p : Nat, q = ((p : Nat) : Int) ∧ PrN p := by
  have : q = 2 ∨ q = 3 ∨ q = 5 ∨ q = 7 ∨ q = 11 ∨ q = 13 := by
    unfold primesL at h
    simpa using h
  refine ⟨q.toNat, by omega, by rw [show ((q.toNat : Nat) : Int) = q by omega]; exact h, by omega, by omega⟩
theorem PrN.d {p : Nat} (h : PrN p) : isPr (.int ((p : Nat) : Int)) = true := decide_eq_true h.m
/-- numbers whose rows have sizes up to six -/
structure LowM (n : Nat) (M : Nums) : Prop where
  g : GoodB n M
  s : ∀ i, i ≤ n → szN M i ≤ 6
  l : M.length ≤ 900
def spKeepers : Sp := fun vs H Q _ => ∃ (x : Str) (p : Nat) (d : Addr) (M : Nums), vs = [.str x, .int ((p : Nat) : Int), .ref d] ∧ Pat x 6 ∧ PrN p ∧ NumAt H d M ∧ LowM x.length M ∧ ∀ H', Same H H' → Q (.int ((keepN (leadX x) p (posN M) : Nat) : Int)) H'
def spAlikeC : Sp := fun vs H Q _ => ∃ (x : Str) (p : Nat) (d : Addr) (M : Nums), vs = [.str x, .int ((p : Nat) : Int), .ref d] ∧ Pat x 6 ∧ PrN p ∧ NumAt H d M ∧ LowM x.length M ∧ ∀ H', Same H H' → Q (.int (((coatsN p x.length M : Nat) : Int) / ((keepN (leadX x) p (posN M) : Nat) : Int))) H'
/-- the items of all matrices -/
def cellsN (ss : List Nat) (n : Nat) : Nat := ((List.range n).map fun i => ss[i]?.getD 0 * ss[i + 1]?.getD 0).sum
def spRowC : Sp := fun vs H Q _ => ∃ (x : Str) (p : Nat) (v : V) (k : Bool) (a : Addr) (ss : List Nat), vs = [.str x, .int ((p : Nat) : Int), v] ∧ Pat x 6 ∧ PrN p ∧ v = .ref a ∧ (∀ H', Same H H' → ∀ K, SqB K H' k a (ss.map fun s => V.int ((s : Nat) : Int))) ∧ Any H v (if k then .list (ss.map natD) else .tuple (ss.map natD)) ∧ ss.length = x.length + 1 ∧ (∀ s, s ∈ ss → s ≤ 6) ∧
  ∀ H', Same H H' → Q (.int ((p ^ cellsN ss x.length : Nat) : Int)) H'
theorem cells_216 {ss : List Nat} {n : Nat} (h : ∀ s, s ∈ ss → s ≤ 6) (n6 : n ≤ 6) : cellsN ss n ≤ 216 := by
  have g : ∀ i : Nat, ss[i]?.getD 0 ≤ 6 := fun i => by
    cases e : ss[i]? with
    | none => exact Nat.zero_le _
    | some s => exact h s (List.mem_of_getElem? e)
  have h2 : cellsN ss n ≤ ((List.range n).map fun _ => 36).sum := sum_le fun i _ => Nat.mul_le_mul (g i) (g (i + 1))
  have h3 : ∀ n, ((List.range n).map fun _ => 36).sum = 36 * n := fun n => by
    induction n with
    | zero => rfl
    | succ n ih => rw [List.range_succ, List.map_append, List.sum_append, ih]; show 36 * n + 36 = _; omega
  rw [h3] at h2
  omega
/-- a part of the coats -/
theorem coats_part {p n i : Nat} {M : Nums} (hp : 2 ≤ p) : prodN ((List.range n).map fun i => gl p (szN M i)) ≤ prodN ((List.range (n + i)).map fun i => gl p (szN M i)) := by
  have e : (List.range n).map (fun i => gl p (szN M i)) = ((List.range (n + i)).map fun i => gl p (szN M i)).take n := by
    rw [← List.map_take, List.take_range, Nat.min_eq_left (by omega)]
  rw [e]
  exact prodN_take (fun a ha => by
    obtain ⟨q, _, rfl⟩ := List.mem_map.mp ha
    exact gl_pos hp) n
theorem coats_snoc {p n : Nat} {M : Nums} : prodN ((List.range (n + 1)).map fun i => gl p (szN M i)) = prodN ((List.range n).map fun i => gl p (szN M i)) * gl p (szN M n) := by
  rw [List.range_succ, List.map_append, prodN_append]
  show _ * (gl p (szN M n) * 1) = _
  rw [Nat.mul_one]
theorem keep_small {x : Str} {p : Nat} {M : Nums} (px : Pat x 6) (pp : PrN p) (m : LowM x.length M) : keepN (leadX x) p (posN M) < 2 ^ 1016 :=
  keep_lt pp.l (by have := pp.h; omega) px.l lead_anti (fun q hq => (pos_ok m.g q hq).1) (fun i hi => by rw [sz_pos]; exact m.s i hi)
end Rw

set_option Elab.async false
set_option linter.all false
set_option maxRecDepth 100000
set_option maxHeartbeats 1500000
/-! TkWF: a list in another order; how the law counts. -/
namespace Rw
open PySem PySem.Spec PyProof.Rows L2
def spMixB : Sp := fun vs H Q _ => ∃ (p l : Addr) (xs : List V) (n : Nat), vs = [.ref p, .ref l] ∧ H l = some (.lst xs) ∧ l ≠ p ∧ xs.length ≤ 60 ∧ Bx H p n ∧ n ≤ 800000 ∧
  ∀ D ys H', H D = none → Grow p H H' → Bx H' p (n + xs.length) → H' D = some (.lst ys) → ys.Perm xs → Q (.ref D) H'
theorem eraseB_perm {α : Type} : ∀ (l : List α) (k : Nat) (y : α), l[k]? = some y → (y :: l.eraseIdx k).Perm l
  | [], k, y, h => by simp at h
  | x :: l, 0, y, h => by
    cases Option.some.inj (show some x = some y from h)
    exact List.Perm.refl _
  | x :: l, k + 1, y, h => by
    have h2 := eraseB_perm l k y h
    exact (List.Perm.swap x y _).trans (h2.cons x)
theorem bxB_put {H : Hp} {p a : Addr} {n : Nat} {o : HO} (b : Bx H p n) (ne : a ≠ p) : Bx (upd H a o) p n := by
  obtain ⟨x, y, z, h, r⟩ := b
  exact ⟨x, y, z, by rw [upd_ne ne.symm]; exact h, r⟩
theorem growB_put {H H' : Hp} {p a : Addr} {o : HO} (g : Grow p H H') (ha : H a = none) : Grow p H (upd H' a o) := fun b ob ne e => by
  rw [upd_ne (ne_of_none e ha)]
  exact g b ob ne e
def spCoatsL : Sp := fun vs H Q _ => ∃ p n : Nat, vs = [.int ((p : Nat) : Int), .int ((n : Nat) : Int)] ∧ 2 ≤ p ∧ p ≤ 13 ∧ n ≤ 6 ∧ Q (.int ((gl p n : Nat) : Int)) H
end Rw

set_option Elab.async false
set_option linter.all false
set_option maxRecDepth 100000
set_option maxHeartbeats 1500000
/-! TkWG: one more of a bar; numbers drawn. -/
namespace Rw
open PySem PySem.Spec PyProof.Rows L2
def incN : Nums → Nat × Nat → Nums
  | [], q => [(q, 1)]
  | (r, m) :: T, q => if r = q then (r, m + 1) :: T else (r, m) :: incN T q
def getN : Nums → Nat × Nat → Nat
  | [], _ => 0
  | (r, m) :: T, q => if r = q then m else getN T q
def hasN (T : Nums) (q : Nat × Nat) : Prop := q ∈ T.map (·.1)
theorem val_nm : ∀ (T : Nums) (q : Nat × Nat), (valV (nmT T) (keyT q)).getD (.int 0) = .int ((getN T q : Nat) : Int)
  | [], q => rfl
  | (r, m) :: T, q => by
    show (valV (nmE (r, m) :: nmT T) (keyT q)).getD (.int 0) = _
    by_cases e : r = q
    · rw [valV_pos (show (nmE (r, m)).1 = keyT q from congrArg keyT e)]
      unfold getN
      rw [if_pos e] <;> rfl
    · rw [valV_neg (show ¬ (nmE (r, m)).1 = keyT q from fun z => e (keyT_inj z)), val_nm T q]
      conv => rhs; unfold getN
      rw [if_neg e]
theorem get_some : ∀ {T : Nums} {q : Nat × Nat} {m : Nat}, (T.map (·.1)).Nodup → (q, m) ∈ T → valV (nmT T) (keyT q) = some (.int ((m : Nat) : Int))
  | (r, k) :: T, q, m, nd, h => by
    show valV (nmE (r, k) :: nmT T) (keyT q) = _
    rw [List.map_cons, List.nodup_cons] at nd
    rcases List.mem_cons.mp h with e | e
    · cases e
      rw [valV_pos (show (nmE (r, k)).1 = keyT r from rfl)] <;> rfl
    · have ne : ¬ r = q := fun z => nd.1 (by rw [z]; exact List.mem_map.mpr ⟨_, e, rfl⟩)
      rw [valV_neg (show ¬ (nmE (r, k)).1 = keyT q from fun z => ne (keyT_inj z))]
      exact get_some nd.2 e
theorem getN_of : ∀ {T : Nums} {q : Nat × Nat} {m : Nat}, (T.map (·.1)).Nodup → (q, m) ∈ T → getN T q = m
  | (r, k) :: T, q, m, nd, h => by
    rw [List.map_cons, List.nodup_cons] at nd
    unfold getN
    rcases List.mem_cons.mp h with e | e
    · cases e
      rw [if_pos rfl]
    · rw [if_neg (fun z => nd.1 (by rw [z]; exact List.mem_map.mpr ⟨_, e, rfl⟩))]
      exact getN_of nd.2 e
theorem getN_none : ∀ {T : Nums} {q : Nat × Nat}, q ∉ T.map (·.1) → getN T q = 0
  | [], q, _ => rfl
  | (r, k) :: T, q, h => by
    rw [List.map_cons, List.mem_cons, not_or] at h
    unfold getN
    rw [if_neg (fun z => h.1 z.symm)]
    exact getN_none h.2
theorem inc_keys : ∀ (T : Nums) (q : Nat × Nat), (incN T q).map (·.1) = if q ∈ T.map (·.1) then T.map (·.1) else T.map (·.1) ++ [q]
  | [], q => by simp [incN]
  | (r, m) :: T, q => by
    unfold incN
    by_cases e : r = q
    · rw [if_pos e, if_pos (by rw [List.map_cons, List.mem_cons]; exact .inl e.symm)] <;> rfl
    · rw [if_neg e, List.map_cons, List.map_cons, inc_keys T q]
      by_cases h : q ∈ T.map (·.1)
      · rw [if_pos h, if_pos (List.mem_cons_of_mem _ h)]
      · rw [if_neg h, if_neg (fun z => (List.mem_cons.mp z).elim (fun y => e y.symm) h)] <;> rfl
theorem inc_nodup {T : Nums} {q : Nat × Nat} (h : (T.map (·.1)).Nodup) : ((incN T q).map (·.1)).Nodup := by
  rw [inc_keys]
  by_cases e : q ∈ T.map (·.1)
  · rw [if_pos e]; exact h
  · rw [if_neg e, List.nodup_append]
    refine ⟨h, by simp, fun a ha b hb z => ?_⟩
    rw [List.mem_singleton.mp hb] at z
    exact e (by rw [← z]; exact ha)
theorem inc_mem : ∀ {T : Nums} {q r : Nat × Nat} {m : Nat}, (r, m) ∈ incN T q → (r = q ∧ 1 ≤ m) ∨ (r, m) ∈ T
  | [], q, r, m, h => by
    have h : (r, m) ∈ [(q, 1)] := h
    rw [List.mem_singleton] at h
    cases h
    exact .inl ⟨rfl, Nat.le_refl _⟩
  | (s, k) :: T, q, r, m, h => by
    unfold incN at h
    by_cases e : s = q
    · rw [if_pos e] at h
      rcases List.mem_cons.mp h with z | z
      · cases z
        exact .inl ⟨e, by omega⟩
      · exact .inr (List.mem_cons_of_mem _ z)
    · rw [if_neg e] at h
      rcases List.mem_cons.mp h with z | z
      · cases z
        exact .inr List.mem_cons_self
      · rcases inc_mem z with y | y
        · exact .inl y
        · exact .inr (List.mem_cons_of_mem _ y)
theorem inc_len (T : Nums) (q : Nat × Nat) : (incN T q).length ≤ T.length + 1 := by
  have h := congrArg List.length (inc_keys T q)
  rw [List.length_map] at h
  rw [h]
  split
  · rw [List.length_map]; omega
  · rw [List.length_append, List.length_map] <;> exact Nat.le_refl _
theorem inc_sz : ∀ (T : Nums) (q : Nat × Nat) (i : Nat), szN (incN T q) i = szN T i + (if covB q i then 1 else 0)
  | [], q, i => by
    unfold incN szN
    simp
  | (r, m) :: T, q, i => by
    have e0 : ∀ (a : (Nat × Nat) × Nat) (U : Nums), szN (a :: U) i = (if covB a.1 i then a.2 else 0) + szN U i := fun a U => by unfold szN; rw [List.map_cons, List.sum_cons]
    unfold incN
    by_cases e : r = q
    · rw [if_pos e, e0, e0, e]
      dsimp only
      split <;> omega
    · rw [if_neg e, e0, e0, inc_sz T q i]
      omega
/-- what putK makes -/
theorem put_any (T : Nums) (q : Nat × Nat) : ((nmT T).any fun kv => decide (kv.1 = keyT q)) = decide (q ∈ T.map (·.1)) := by
  induction T with
  | nil => rfl
  | cons a T ih =>
    show (decide (keyT a.1 = keyT q) || (nmT T).any _) = _
    rw [ih]
    by_cases e : a.1 = q
    · rw [decide_eq_true (congrArg keyT e), Bool.true_or]
      exact (decide_eq_true (by rw [List.map_cons]; exact List.mem_cons.mpr (.inl e.symm))).symm
    · rw [decide_eq_false (fun z => e (keyT_inj z)), Bool.false_or]
      by_cases h : q ∈ T.map (·.1)
      · rw [decide_eq_true h, decide_eq_true (by rw [List.map_cons]; exact List.mem_cons_of_mem _ h)]
      · rw [decide_eq_false h, decide_eq_false (fun z => (List.mem_cons.mp (by rw [List.map_cons] at z; exact z)).elim (fun y => e y.symm) h)]
theorem put_mapN : ∀ {T : Nums} {q : Nat × Nat} {v : V}, q ∉ T.map (·.1) → (nmT T).map (fun kv => if kv.1 = keyT q then (kv.1, v) else kv) = nmT T
  | [], q, v, _ => rfl
  | a :: T, q, v, h => by
    rw [List.map_cons, List.mem_cons, not_or] at h
    show (if keyT a.1 = keyT q then _ else _) :: (nmT T).map _ = nmE a :: nmT T
    rw [if_neg (fun z => h.1 (keyT_inj z).symm), show (nmT T).map (fun kv => if kv.1 = keyT q then (kv.1, v) else kv) = nmT T from put_mapN h.2]
theorem put_inc : ∀ {T : Nums} {q : Nat × Nat}, (T.map (·.1)).Nodup → putK (nmT T) (keyT q) (.int (((getN T q : Nat) : Int) + 1)) = nmT (incN T q)
  | [], q, _ => rfl
  | (r, m) :: T, q, nd => by
    rw [List.map_cons, List.nodup_cons] at nd
    unfold putK
    rw [put_any]
    by_cases e : r = q
    · subst e
      rw [if_pos (decide_eq_true (by rw [List.map_cons]; exact List.mem_cons_self))]
      have e1 : getN ((r, m) :: T) r = m := by unfold getN; rw [if_pos rfl]
      have e2 : incN ((r, m) :: T) r = (r, m + 1) :: T := by unfold incN; rw [if_pos rfl]
      rw [e1, e2]
      show (if keyT r = keyT r then (keyT r, _) else _) :: (nmT T).map _ = nmE (r, m + 1) :: nmT T
      rw [if_pos rfl, show (nmT T).map (fun kv => if kv.1 = keyT r then (kv.1, V.int (((m : Nat) : Int) + 1)) else kv) = nmT T from put_mapN nd.1]
      unfold nmE
      rw [show (((m + 1 : Nat) : Nat) : Int) = ((m : Nat) : Int) + 1 by omega]
    · have e1 : getN ((r, m) :: T) q = getN T q := if_neg e
      have e2 : incN ((r, m) :: T) q = (r, m) :: incN T q := if_neg e
      have ih := put_inc (T := T) (q := q) nd.2
      unfold putK at ih
      rw [put_any] at ih
      rw [e1, e2]
      have ne : ¬ keyT r = keyT q := fun z => e (keyT_inj z)
      by_cases h : q ∈ T.map (·.1)
      · rw [if_pos (decide_eq_true h)] at ih
        rw [if_pos (decide_eq_true (by rw [List.map_cons]; exact List.mem_cons_of_mem _ h))]
        show (if keyT r = keyT q then _ else nmE (r, m)) :: (nmT T).map _ = nmE (r, m) :: nmT (incN T q)
        rw [if_neg ne, ih]
      · rw [if_neg (by simp [h])] at ih
        rw [if_neg (by rw [List.map_cons]; simp [h]; exact fun z => e z.symm)]
        show nmE (r, m) :: (nmT T ++ _) = nmE (r, m) :: nmT (incN T q)
        rw [ih]
/-- numbers drawn -/
structure DrawN (n h : Nat) (T : Nums) : Prop where
  nd : (T.map (·.1)).Nodup
  ok : ∀ q ∈ T, q.1.1 ≤ q.1.2 ∧ q.1.2 ≤ n
  one : ∀ q ∈ T, 1 ≤ q.2
  s : ∀ i, i ≤ n → szN T i ≤ h
theorem cov_first {b e : Nat} (h : b ≤ e) : covB (b, e) b = true := by
  unfold covB
  rw [decide_eq_true (Nat.le_refl _), decide_eq_true h] <;> rfl
theorem sz_ge {T : Nums} {q : (Nat × Nat) × Nat} {i : Nat} (h : q ∈ T) (c : covB q.1 i = true) : q.2 ≤ szN T i := by
  have := sum_one (f := fun q : (Nat × Nat) × Nat => if covB q.1 i then q.2 else 0) h
  simp only [c, if_true] at this
  exact this
theorem DrawN.low {n : Nat} {T : Nums} (d : DrawN n 6 T) (l : T.length ≤ 900) : LowM n T := ⟨⟨d.ok, fun q hq => by
  obtain ⟨q1, q2⟩ := d.ok q hq
  have h1 : q.2 ≤ szN T q.1.1 := sz_ge hq (cov_first q1)
  have := d.s q.1.1 (by omega)
  omega⟩, d.s, l⟩
theorem DrawN.pos {n h : Nat} {T : Nums} (d : DrawN n h T) : posN T = T := by
  unfold posN
  exact List.filter_eq_self.mpr fun q hq => decide_eq_true (by have := d.one q hq; omega)
theorem draw_inc {n h : Nat} {T : Nums} {q : Nat × Nat} (d : DrawN n h T) (q1 : q.1 ≤ q.2) (q2 : q.2 ≤ n) (low : ∀ i, q.1 ≤ i → i ≤ q.2 → szN T i < h) : DrawN n h (incN T q) := by
  refine ⟨inc_nodup d.nd, fun r hr => ?_, fun r hr => ?_, fun i hi => ?_⟩
  · rcases inc_mem (r := r.1) (m := r.2) hr with z | z
    · rw [z.1]; exact ⟨q1, q2⟩
    · exact d.ok r z
  · rcases inc_mem (r := r.1) (m := r.2) hr with z | z
    · exact z.2
    · exact d.one r z
  · rw [inc_sz]
    by_cases c : covB q i = true
    · rw [if_pos c]
      unfold covB at c
      rw [Bool.and_eq_true] at c
      have := low i (of_decide_eq_true c.1) (of_decide_eq_true c.2)
      omega
    · rw [if_neg c]
      have := d.s i hi
      omega
def spSomeN : Sp := fun vs H Q _ => ∃ (p : Addr) (x : Str) (h n : Nat), vs = [.ref p, .str x, .int ((h : Nat) : Int)] ∧ Pat x 6 ∧ h ≤ 6 ∧ Bx H p n ∧ n ≤ 400000 ∧
  ∀ t d l T H', H t = none → H d = none → H l = none → Grow p H H' → Bx H' p (n + 600) → H' t = some (.tup [.ref d, .ref l]) → NumAt H' d T → H' l = some (.lst ((sizesT x.length T).map V.int)) → DrawN x.length h T → T.length ≤ 9 → Q (.ref t) H'
end Rw

set_option Elab.async false
set_option linter.all false
set_option maxRecDepth 100000
set_option maxHeartbeats 1500000
set_option exponentiation.threshold 3000
/-! TkWH: the law's product for the carries of a row into itself. -/
namespace Rw
open PySem PySem.Spec PyProof.Rows L2
abbrev Lds := Nat × Nat → Nat × Nat → Bool
def elemN (L : Lds) (p : Nat) (T : Nums) (q : (Nat × Nat) × Nat) : Nat := gl p q.2 * p ^ (rowF L q T).sum
def partN (L : Lds) (p : Nat) (T : Nums) (i : Nat) : Nat := prodN ((T.take i).map (elemN L p T))
theorem part_all (L : Lds) (p : Nat) (T : Nums) : partN L p T T.length = keepN L p T := by
  unfold partN elemN keepN
  rw [List.take_length, prodN_mul, prodN_pow, Nat.mul_comm]
  refine congrArg (· * _) (congrArg (p ^ ·) ?_)
  unfold freeN
  exact congrArg List.sum (List.map_congr_left fun q _ => rowF_sum L q T)
theorem part_snoc {L : Lds} {p : Nat} {T : Nums} {i : Nat} {q : (Nat × Nat) × Nat} (h : T[i]? = some q) : partN L p T (i + 1) = partN L p T i * gl p q.2 * p ^ (rowF L q T).sum := by
  unfold partN
  rw [List.take_add_one, h, List.map_append, prodN_append]
  show _ * (elemN L p T q * 1) = _
  unfold elemN
  rw [Nat.mul_one, Nat.mul_assoc]
theorem part_le {L : Lds} {p : Nat} {T : Nums} (hp : 2 ≤ p) (i : Nat) : partN L p T i ≤ keepN L p T := by
  rw [← part_all]
  unfold partN
  rw [List.map_take, List.take_length]
  exact prodN_take (fun a ha => by
    obtain ⟨q, _, rfl⟩ := List.mem_map.mp ha
    exact Nat.mul_pos (gl_pos hp) (Nat.pow_pos (by omega))) i
theorem rowF_snoc {L : Lds} {q r : (Nat × Nat) × Nat} {T : Nums} {j : Nat} (h : T[j]? = some r) : (rowF L q (T.take (j + 1))).sum = (rowF L q (T.take j)).sum + (if decide (q.1 ≠ r.1) && L q.1 r.1 then q.2 * r.2 else 0) := by
  unfold rowF
  rw [take_flt h, List.map_append, List.sum_append]
  by_cases c : (decide (q.1 ≠ r.1) && L q.1 r.1) = true
  · rw [if_pos c, if_pos c]; simp
  · rw [if_neg c, if_neg c]; rfl
theorem rowF_take {L : Lds} {q : (Nat × Nat) × Nat} {T : Nums} (j : Nat) : (rowF L q (T.take j)).sum ≤ (rowF L q T).sum := by
  have e : rowF L q T = rowF L q (T.take j) ++ rowF L q (T.drop j) := by
    unfold rowF
    rw [← List.map_append, ← List.filter_append, List.take_append_drop]
  rw [e, List.sum_append]
  omega
theorem rowF_free {L : Lds} {q : (Nat × Nat) × Nat} {T : Nums} (h : q ∈ T) : (rowF L q T).sum ≤ freeN L T T := by
  unfold freeN
  rw [rowF_sum]
  exact sum_one (f := fun q : (Nat × Nat) × Nat => (T.map fun r => if q.1 ≠ r.1 ∧ L q.1 r.1 = true then q.2 * r.2 else 0).sum) h
def spKeptL : Sp := fun vs H Q _ => ∃ (x : Str) (p : Nat) (d : Addr) (T : Nums), vs = [.str x, .int ((p : Nat) : Int), .ref d] ∧ Pat x 6 ∧ PrN p ∧ NumAt H d T ∧ DrawN x.length 6 T ∧ T.length ≤ 900 ∧ ∀ H', Same H H' → Q (.int ((keepN (leadX x) p T : Nat) : Int)) H'
end Rw

set_option Elab.async false
set_option linter.all false
set_option maxRecDepth 100000
set_option maxHeartbeats 1500000
set_option exponentiation.threshold 3000
/-! TkWI: what repr shows of great ints and of dicts of numbers; a new empty dict that stays; lists in another order. -/
namespace Rw
open PySem PySem.Spec PyProof.Rows L2
/-- shown, of a depth, by so many signs -/
structure Tz (k b : Nat) (d : PyData) : Prop where
  sh : d.showable = true
  dp : d.depth ≤ k
  ln : d.shown.length ≤ b
theorem Tz.up {k b k2 b2 : Nat} {d : PyData} (h : Tz k b d) (l : k ≤ k2) (l2 : b ≤ b2) : Tz k2 b2 d := ⟨h.sh, Nat.le_trans h.dp l, Nat.le_trans h.ln l2⟩
theorem Tz.ok {k b : Nat} {d : PyData} (h : Tz k b d) (l : k ≤ 60) (l2 : b ≤ 1000000) : d.showable = true ∧ d.depth ≤ 60 ∧ d.shown.length ≤ sizeLine := ⟨h.sh, Nat.le_trans h.dp l, Nat.le_trans h.ln (Nat.le_trans l2 (by decide))⟩
theorem tz_all {k b : Nat} : ∀ {ds : List PyData}, (∀ d ∈ ds, Tz k b d) → PyData.showableAll ds = true ∧ PyData.depthAll ds ≤ k ∧ ∀ t ∈ PyData.shownAll ds, t.length ≤ b
  | [], _ => ⟨by simp only [PyData.showableAll], by simp only [PyData.depthAll]; omega, fun t ht => by simp only [PyData.shownAll] at ht; cases ht⟩
  | d :: ds, h => by
    obtain ⟨a, b, c⟩ := tz_all (ds := ds) fun x hx => h x (List.mem_cons_of_mem _ hx)
    have e := h d List.mem_cons_self
    refine ⟨?_, ?_, ?_⟩
    · simp only [PyData.showableAll, e.sh, a, Bool.and_self]
    · simp only [PyData.depthAll]
      have := e.dp
      omega
    · intro t ht
      simp only [PyData.shownAll] at ht
      rcases List.mem_cons.mp ht with z | z
      · rw [z]
        exact e.ln
      · exact c t z
theorem tz_sum {b : Nat} : ∀ {ts : List Str}, (∀ t ∈ ts, t.length ≤ b) → (ts.map (·.length)).sum ≤ ts.length * b
  | [], _ => Nat.zero_le _
  | t :: ts, h => by
    rw [List.map_cons, List.sum_cons, List.length_cons, Nat.succ_mul]
    have := h t List.mem_cons_self
    have := tz_sum fun u (hu : u ∈ ts) => h u (List.mem_cons_of_mem _ hu)
    omega
theorem tz_list {k b m : Nat} {ds : List PyData} (l : ds.length ≤ m) (h : ∀ d ∈ ds, Tz k b d) : Tz (k + 1) (m * b + 2 * m + 3) (.list ds) := by
  obtain ⟨a, c, e⟩ := tz_all h
  refine ⟨by simp only [PyData.showable]; exact a, by simp only [PyData.depth]; omega, ?_⟩
  simp only [PyData.shown]
  have h1 := listText_len_le (PyData.shownAll ds)
  have h2 := tz_sum e
  have h3 : (PyData.shownAll ds).length = ds.length := by rw [shownAll_map, List.length_map]
  rw [h3] at h1 h2
  have h4 : ds.length * b ≤ m * b := Nat.mul_le_mul_right _ l
  omega
theorem tz_tup {k b m : Nat} {ds : List PyData} (l : ds.length ≤ m) (h : ∀ d ∈ ds, Tz k b d) : Tz (k + 1) (m * b + 2 * m + 3) (.tuple ds) := by
  obtain ⟨a, c, e⟩ := tz_all h
  refine ⟨by simp only [PyData.showable]; exact a, by simp only [PyData.depth]; omega, ?_⟩
  simp only [PyData.shown]
  have h1 := tupleText_len_le (PyData.shownAll ds)
  have h2 := tz_sum e
  have h3 : (PyData.shownAll ds).length = ds.length := by rw [shownAll_map, List.length_map]
  rw [h3] at h1 h2
  have h4 : ds.length * b ≤ m * b := Nat.mul_le_mul_right _ l
  omega
theorem tz_kv {k b : Nat} : ∀ {kvs : List (PyData × PyData)}, (∀ q ∈ kvs, Tz k b q.1 ∧ Tz k b q.2) → PyData.showableKv kvs = true ∧ PyData.depthKv kvs ≤ k ∧ ∀ t ∈ PyData.shownKv kvs, t.length ≤ 2 * b + 2
  | [], _ => ⟨by simp only [PyData.showableKv], by simp only [PyData.depthKv]; omega, fun t ht => by simp only [PyData.shownKv] at ht; cases ht⟩
  | (u, v) :: kvs, h => by
    obtain ⟨a, b, c⟩ := tz_kv (kvs := kvs) fun x hx => h x (List.mem_cons_of_mem _ hx)
    obtain ⟨e1, e2⟩ := h (u, v) List.mem_cons_self
    have e1 : Tz k _ u := e1
    have e2 : Tz k _ v := e2
    refine ⟨?_, ?_, ?_⟩
    · simp only [PyData.showableKv, e1.sh, e2.sh, a, Bool.and_self]
    · simp only [PyData.depthKv]
      have := e1.dp
      have := e2.dp
      omega
    · intro t ht
      simp only [PyData.shownKv] at ht
      rcases List.mem_cons.mp ht with z | z
      · rw [z, strLen_append, strLen_append]
        have := e1.ln
        have := e2.ln
        have : (Str.ofString ": ").length = 2 := rfl
        omega
      · exact c t z
theorem tz_dict {k b m : Nat} {kvs : List (PyData × PyData)} (l : kvs.length ≤ m) (h : ∀ q ∈ kvs, Tz k b q.1 ∧ Tz k b q.2) : Tz (k + 1) (m * (2 * b + 2) + 2 * m + 3) (.dict kvs) := by
  obtain ⟨a, c, e⟩ := tz_kv h
  refine ⟨by simp only [PyData.showable]; exact a, by simp only [PyData.depth]; omega, ?_⟩
  simp only [PyData.shown]
  have h1 := dictText_len_le (PyData.shownKv kvs)
  have h2 := tz_sum e
  have h3 : (PyData.shownKv kvs).length = kvs.length := PyData.shownKv_length kvs
  rw [h3] at h1 h2
  have h4 : kvs.length * (2 * b + 2) ≤ m * (2 * b + 2) := Nat.mul_le_mul_right _ l
  omega
theorem tz_int {n : Int} (h : n.natAbs < 2 ^ 1016) : Tz 0 401 (.int n) := by
  refine ⟨?_, by simp only [PyData.depth]; omega, ?_⟩
  · simp only [PyData.showable]
    exact decide_eq_true (Nat.lt_trans (PySem.Flt.log2_lt_of (by decide) h) (by decide))
  · simp only [PyData.shown]
    show (Str.ofString (toString n)).length ≤ 401
    rw [PySem.ofString_length]
    exact int_text_length_le10 (k := 400) (by decide) (Nat.lt_trans h (by decide +kernel))
theorem tz_nat {n : Nat} (h : n < 2 ^ 1016) : Tz 0 401 (.int ((n : Nat) : Int)) := tz_int (by simpa using h)
theorem small_1016 {n : Nat} (h : n ≤ 1000) : n < 2 ^ 1016 := Nat.lt_of_le_of_lt h (by decide +kernel)
theorem tz_nums {n : Nat} {T : Nums} (l : T.length ≤ 900) (h : ∀ q ∈ T, (q.1.1 ≤ q.1.2 ∧ q.1.2 ≤ n) ∧ q.2 ≤ 6) (n6 : n ≤ 6) : (PyData.dict (dataT (nmT T) (nmD T))).showable = true ∧ (PyData.dict (dataT (nmT T) (nmD T))).depth ≤ 60 ∧ (PyData.dict (dataT (nmT T) (nmD T))).shown.length ≤ sizeLine := by
  have e : dataT (nmT T) (nmD T) = T.map fun q => (barD q.1, natD q.2) := by
    unfold dataT nmT nmD
    rw [List.map_map]
    induction T with
    | nil => rfl
    | cons a T ih =>
      have ih := ih (by rw [List.length_cons] at l; omega) fun q hq => h q (List.mem_cons_of_mem _ hq)
      rw [List.map_cons, List.map_cons, List.map_cons, List.zip_cons_cons, ih] <;> rfl
  rw [e]
  have t := tz_dict (k := 1) (b := 2 * 401 + 2 * 2 + 3) (m := 900) (kvs := T.map fun q => (barD q.1, natD q.2)) (by rw [List.length_map]; exact l) fun r hr => by
    obtain ⟨q, hq, rfl⟩ := List.mem_map.mp hr
    obtain ⟨⟨q1, q2⟩, q3⟩ := h q hq
    refine ⟨tz_tup (k := 0) (b := 401) (m := 2) (by show 2 ≤ 2; decide) fun d hd => ?_, (tz_nat (small_1016 (by omega))).up (by decide) (by decide)⟩
    simp only [List.mem_cons, List.not_mem_nil, or_false] at hd
    rcases hd with z | z <;> subst z
    · exact tz_nat (small_1016 (by omega))
    · exact tz_nat (small_1016 (by omega))
  refine ⟨t.sh, Nat.le_trans t.dp (by decide), Nat.le_trans t.ln (by decide)⟩
/-! ### a new empty dict that stays -/
theorem pe_dnewZ {X : Cx} {pos : Pos} : PE X (.Dict [] [] pos) (fun _ H Q => ∀ p o, H p = none → Q (.ref p) (upd H p (.frz o (.dT [])))) := ⟨fun pins s σ H Q I h => by
  have new := dt_empty (P := X.prog) (w := X.w) (H := upd H s.heap.objs.size (.frz { cls := .type "dict", data := .dict #[] } (.dT []))) s.heap I.big
  exact wpAny_Dict_empty ⟨.ref s.heap.objs.size, _, I.laid (a := s.heap.objs.size) (o := .frz { cls := .type "dict", data := .dict #[] } (.dT [])) (t' := s.toks) (fun _ _ q => Heap.get?_push_of_some _ q) (Nat.le_refl _) ⟨Heap.get?_push_size _ rfl, new⟩, rfl, h _ _ (I.hok.fresh (Nat.le_refl _))⟩⟩
/-! ### lists in another order -/
theorem perm_lift {α β : Type} {f : α → β} {ys zs : List β} (h : ys.Perm zs) : ∀ L : List α, zs = L.map f → ∃ L' : List α, L'.Perm L ∧ ys = L'.map f := by
  induction h with
  | nil =>
    intro L e
    have : L = [] := List.map_eq_nil_iff.mp e.symm
    subst this
    exact ⟨[], List.Perm.refl _, rfl⟩
  | cons a h ih =>
    intro L e
    cases L with
    | nil => cases e
    | cons b L =>
      rw [List.map_cons] at e
      injection e with e1 e2
      obtain ⟨L', p, e3⟩ := ih L e2
      exact ⟨b :: L', p.cons b, by rw [List.map_cons, e1, e3]⟩
  | swap a b l =>
    intro L e
    match L, e with
    | [], e => cases e
    | [_], e => cases e
    | x :: y :: L, e =>
      rw [List.map_cons, List.map_cons] at e
      injection e with e1 e2
      injection e2 with e2 e3
      exact ⟨y :: x :: L, List.Perm.swap x y L, by rw [List.map_cons, List.map_cons, e1, e2, e3]⟩
  | trans _ _ i1 i2 =>
    intro L e
    obtain ⟨L2, p2, e2⟩ := i2 L e
    obtain ⟨L1, p1, e1⟩ := i1 L2 e2
    exact ⟨L1, p1.trans p2, e1⟩
/-! ### dicts made of pairs -/
theorem merge_nm : ∀ (T U : Nums), ((U ++ T).map (·.1)).Nodup → mergeT (nmT U) (nmT T) = nmT (U ++ T)
  | [], U, _ => by rw [List.append_nil] <;> rfl
  | q :: T, U, nd => by
    have n2 : q.1 ∉ U.map (·.1) := by
      rw [List.map_append, List.map_cons, List.nodup_append] at nd
      exact fun z => nd.2.2 q.1 z q.1 List.mem_cons_self rfl
    have e : putK (nmT U) (keyT q.1) (.int ((q.2 : Nat) : Int)) = nmT (U ++ [q]) := by
      unfold putK
      rw [put_any, if_neg (by simp [n2])]
      unfold nmT
      rw [List.map_append] <;> rfl
    show mergeT (putK (nmT U) (keyT q.1) (.int ((q.2 : Nat) : Int))) (nmT T) = _
    rw [e, merge_nm T (U ++ [q]) (by rw [List.append_assoc]; exact nd), List.append_assoc] <;> rfl
theorem merge_all {T : Nums} (nd : (T.map (·.1)).Nodup) : mergeT [] (nmT T) = nmT T := merge_nm T [] nd
/-- the pairs of a list -/
theorem items_pairs {K : PySem.W.Frag} {H : Hp} : ∀ {acc : List V} {T : Nums}, AnyL H acc (T.map itemN) → ∃ ps : List (Addr × Addr), acc = ps.map (fun p => V.ref p.1) ∧ PairsT K H ps (nmT T)
  | acc, [], h => by
    cases h
    exact ⟨[], rfl, .nil⟩
  | acc, q :: T, h => by
    cases h with
    | cons a b =>
      obtain ⟨t, s, rfl, h1, h2⟩ := item_at a
      obtain ⟨ps, rfl, h3⟩ := items_pairs b
      exact ⟨(t, s) :: ps, rfl, .cons ⟨SqT.of h1, h2⟩ h3⟩
/-- the keys of a dict of numbers -/
theorem keys_bars {H : Hp} : ∀ {T : Nums} {bs : List Addr}, IsKeys H (nmT T) bs → bs.length = T.length ∧ ∀ z ∈ bs.zip T, PairAt H z.1 z.2.1.1 z.2.1.2
  | [], bs, h => by
    cases h
    exact ⟨rfl, fun z hz => by cases hz⟩
  | q :: T, bs, h => by
    cases h with
    | cons a b =>
      obtain ⟨l, r⟩ := keys_bars b
      refine ⟨by rw [List.length_cons, List.length_cons, l], fun z hz => ?_⟩
      rw [List.zip_cons_cons] at hz
      rcases List.mem_cons.mp hz with e | e
      · subst e; exact a
      · exact r z e
/-- all bars, with their numbers -/
def wholeN (n : Nat) (T : Nums) : Nums := (barsL (n + 1)).map fun q => (q, getN T q)
theorem whole_keys (n : Nat) (T : Nums) : (wholeN n T).map (·.1) = barsL (n + 1) := by
  unfold wholeN
  rw [List.map_map]
  exact List.map_id _
theorem nodup_iff {α : Type} {l : List α} (h : ∀ (i : Nat) (a : α), l[i]? = some a → a ∉ l.take i) : l.Nodup := by
  have : ∀ n, (l.take n).Nodup := fun n => by
    induction n with
    | zero => exact List.nodup_nil
    | succ n ih =>
      rw [List.take_add_one]
      cases e : l[n]? with
      | none => simpa using ih
      | some a =>
        show (l.take n ++ [a]).Nodup
        rw [List.nodup_append]
        refine ⟨ih, by simp, fun x hx y hy z => ?_⟩
        rw [List.mem_singleton.mp hy] at z
        exact h n a e (by rw [← z]; exact hx)
  have := this l.length
  rwa [List.take_length] at this
theorem bars_nodup {n : Nat} (h : n ≤ 7) : (barsL n).Nodup := nodup_iff fun i a e => bars_new h e
theorem bars_all {n : Nat} {q : Nat × Nat} (h : n ≤ 7) (h1 : q.1 ≤ q.2) (h2 : q.2 < n) : q ∈ barsL n := by
  unfold barsL preL partL
  refine List.mem_flatMap.mpr ⟨q.1, List.mem_range.mpr (by omega), List.mem_map.mpr ⟨q.2, ?_, rfl⟩⟩
  rw [List.mem_filter, List.mem_range]
  exact ⟨h2, decide_eq_true h1⟩
theorem nodup_map {α β : Type} (f : α → β) : ∀ {l : List α}, (l.map f).Nodup → l.Nodup
  | [], _ => List.nodup_nil
  | a :: l, h => by
    rw [List.map_cons, List.nodup_cons] at h
    exact List.nodup_cons.mpr ⟨fun z => h.1 (List.mem_map_of_mem z), nodup_map f h.2⟩
theorem whole_pos {n h : Nat} {T : Nums} (n6 : n ≤ 6) (d : DrawN n h T) : (posN (wholeN n T)).Perm T := by
  have nd1 : (posN (wholeN n T)).Nodup := by
    have h1 : (wholeN n T).Nodup := by
      have := bars_nodup (n := n + 1) (by omega)
      rw [← whole_keys n T] at this
      exact nodup_map (·.1) this
    exact h1.filter _
  have nd2 : T.Nodup := nodup_map (·.1) d.nd
  refine (List.perm_ext_iff_of_nodup nd1 nd2).mpr fun q => ?_
  unfold posN wholeN
  rw [List.mem_filter, List.mem_map]
  constructor
  · rintro ⟨⟨r, hr, rfl⟩, z⟩
    have z2 : 0 < getN T r := of_decide_eq_true z
    by_cases c : r ∈ T.map (·.1)
    · obtain ⟨⟨r', m⟩, hm, e⟩ := List.mem_map.mp c
      have e : r' = r := e
      subst e
      rw [getN_of d.nd hm]
      exact hm
    · rw [getN_none c] at z2
      omega
  · intro hq
    obtain ⟨q1, q2⟩ := d.ok q hq
    have e := getN_of d.nd (show (q.1, q.2) ∈ T from hq)
    exact ⟨⟨q.1, bars_all (by omega) q1 (by omega), by rw [e]⟩, decide_eq_true (by have := d.one q hq; omega)⟩
end Rw

set_option Elab.async false
set_option linter.all false
set_option maxRecDepth 100000
set_option maxHeartbeats 1500000
set_option exponentiation.threshold 3000
/-! TkWJ: the same numbers in three forms. -/
namespace Rw
open PySem PySem.Spec PyProof.Rows L2
theorem NumAt.grow {H H' : Hp} {d p : Addr} {T : Nums} {n : Nat} (h : NumAt H d T) (b : Bx H p n) (g : Grow p H H') : NumAt H' d T := by
  obtain ⟨o, e⟩ := h
  obtain ⟨_, _, _, e1, _⟩ := b
  exact ⟨o, g _ _ (ne_of e e1 (fun z => by cases z)) e⟩
/-- the same numbers but for order and zeros -/
structure Form (n : Nat) (T M : Nums) : Prop where
  low : LowM n M
  pm : (posN M).Perm T
theorem Form.keep {n p : Nat} {T M : Nums} {L : Lds} (f : Form n T M) : keepN L p (posN M) = keepN L p T := keep_perm f.pm
theorem Form.sz {n : Nat} {T M : Nums} (f : Form n T M) (i : Nat) : szN M i = szN T i := by rw [← sz_pos, sz_perm f.pm]
theorem Form.coats {n p : Nat} {T M : Nums} (f : Form n T M) : coatsN p n M = coatsN p n T := by
  unfold coatsN
  exact congrArg prodN (List.map_congr_left fun i _ => by rw [f.sz])
theorem form_of {n : Nat} {T M : Nums} (d : DrawN n 6 T) (lT : T.length ≤ 900) (pm : (posN M).Perm T) (ok : ∀ q ∈ M, q.1.1 ≤ q.1.2 ∧ q.1.2 ≤ n) (l : M.length ≤ 900) : Form n T M := by
  have low := d.low lT
  refine ⟨⟨⟨ok, fun q hq => ?_⟩, fun i hi => ?_, l⟩, pm⟩
  · by_cases c : 0 < q.2
    · exact low.g.lo q (pm.mem_iff.mp (List.mem_filter.mpr ⟨hq, decide_eq_true c⟩))
    · omega
  · rw [← sz_pos, sz_perm pm]
    exact d.s i hi
theorem form_self {n : Nat} {T : Nums} (d : DrawN n 6 T) (lT : T.length ≤ 900) : Form n T T := form_of d lT (by rw [d.pos]) d.ok lT
theorem form_perm {n : Nat} {T U : Nums} (d : DrawN n 6 T) (lT : T.length ≤ 900) (pm : U.Perm T) : Form n T U := by
  have e : posN U = U := by
    unfold posN
    exact List.filter_eq_self.mpr fun q hq => decide_eq_true (by have := d.one q (pm.mem_iff.mp hq); omega)
  exact form_of d lT (by rw [e]; exact pm) (fun q hq => d.ok q (pm.mem_iff.mp hq)) (by rw [pm.length_eq]; exact lT)
theorem form_whole {n : Nat} {T : Nums} (n6 : n ≤ 6) (d : DrawN n 6 T) (lT : T.length ≤ 900) : Form n T (wholeN n T) := by
  refine form_of d lT (whole_pos n6 d) (fun q hq => ?_) ?_
  · unfold wholeN at hq
    obtain ⟨r, hr, rfl⟩ := List.mem_map.mp hq
    obtain ⟨h1, h2⟩ := bars_mem hr
    exact ⟨h1, Nat.le_of_lt_succ h2⟩
  · unfold wholeN
    rw [List.length_map]
    have := bars_len (n := n + 1) (by omega)
    omega
def sizesN (n : Nat) (T : Nums) : List Nat := (List.range (n + 1)).map fun i => szN T i
theorem sizesN_eq (n : Nat) (T : Nums) : (sizesT n T).map V.int = (sizesN n T).map fun s => V.int ((s : Nat) : Int) := by
  unfold sizesT sizesN
  rw [List.map_map, List.map_map] <;> rfl
/-- the sum over all arrows -/
theorem zip_fst {α β : Type} : ∀ {l : List α} {m : List β}, l.length = m.length → (l.zip m).map (·.1) = l
  | [], _, _ => by simp
  | a :: l, [], h => by cases h
  | a :: l, b :: m, h => by
    rw [List.zip_cons_cons, List.map_cons, zip_fst (by simpa using h)]
theorem zip_snd {α β : Type} : ∀ {l : List α} {m : List β}, l.length = m.length → (l.zip m).map (·.2) = m
  | [], [], _ => rfl
  | [], b :: m, h => by cases h
  | a :: l, [], h => by cases h
  | a :: l, b :: m, h => by
    rw [List.zip_cons_cons, List.map_cons, zip_snd (by simpa using h)]
def spRightN : Sp := fun vs H Q _ => ∃ (p : Addr) (x : Str) (q n : Nat), vs = [.ref p, .str x, .int ((q : Nat) : Int)] ∧ Pat x 6 ∧ PrN q ∧ Bx H p n ∧ n ≤ 300000 ∧ ∀ H', Grow p H H' → Bx H' p (n + 1000) → Q (.bl true) H'
end Rw

set_option Elab.async false
set_option linter.all false
set_option maxRecDepth 100000
set_option maxHeartbeats 1500000
/-! TkXA: a key that is an int or a text, put into a dict whose keys are tuples. -/
namespace Rw
open PySem PySem.Spec PyProof.Rows L2
section
variable {prog : Program} {w : World} {A : Around} {E : Value → Shared → Prop} {s : Shared}
theorem leaf_byValue {k : L2.Key} {u : Value} (h : keyIs k u = true) : carriedByValue u = true := by
  rcases keyIs_shape h with ⟨i, t, rfl, rfl⟩ | ⟨x, t, rfl, rfl⟩ <;> rfl
theorem tell_mix {k : L2.Key} {u : Value} {stored : List Value} {Q : Bool → Shared → Prop} (hkey : keyIs k u = true)
    (hst : ∀ v ∈ stored, ∃ (k' : List L2.Key) (b : Addr), v = .ref b ∧ (tupleKind (mixKind prog w)).is s.heap k' b) (h : Q false s) : wpAny (model prog w) A (tableMayTell u stored) Q E s := by
  unfold tableMayTell
  split
  · exact wpAny_pure h
  · rw [eqIsQuiet_byValue 8 (leaf_byValue hkey)]
    refine wpAny_bind (wpAny_pure ?_)
    simp only [Bool.not_true, Bool.false_eq_true, if_false]
    refine wpAny_bind ?_
    refine wpAny_forIn_list _ (fun rest r s' => s' = s ∧ r = (none, ()) ∧ ∀ v ∈ rest, ∃ (k' : List L2.Key) (b : Addr), v = .ref b ∧ (tupleKind (mixKind prog w)).is s.heap k' b) _ ?_ ?_ _ _ ⟨rfl, rfl, hst⟩
    · rintro x rest r s' ⟨rfl, rfl, hr⟩
      obtain ⟨k', b, rfl, hb⟩ := hr x List.mem_cons_self
      refine wpAny_bind ((tupleKind (mixKind prog w)).quiet hb ?_)
      simp only [Bool.not_true, Bool.false_eq_true, if_false]
      exact wpAny_pure ⟨rfl, rfl, fun v hv => hr v (List.mem_cons_of_mem _ hv)⟩
    · rintro r s' ⟨rfl, rfl, _⟩
      exact wpAny_pure h
theorem eq_mix {k : L2.Key} {u : Value} {ks : List L2.Key} {b : Addr} {Q : Bool → Shared → Prop} (hu : A.units < cLine) (hkey : keyIs k u = true) (hb : (tupleKind (mixKind prog w)).is s.heap ks b) (h : Q false s) : wpAny (model prog w) A (eqBool (.ref b) u) Q E s := by
  obtain ⟨o, items, n, ho, hc, hd, _⟩ := hb
  rcases keyIs_shape hkey with ⟨i, t, rfl, rfl⟩ | ⟨x, t, rfl, rfl⟩
  · exact SeqAt.EqAt.tuple_int i t ⟨o, ho, hc, n, hd⟩ hu prog w E Q h
  · exact SeqAt.EqAt.tuple_str x t ⟨o, ho, hc, n, hd⟩ hu prog w E Q h
theorem find_mix {d : Addr} {o : Obj} {es : Array DictEntry} {ep : Nat} {xs : List (List L2.Key × Addr × Value)} {k : L2.Key} {u : Value} {hh : Int} {Q : Option Nat → Shared → Prop} (hu : A.units < cLine) (hkey : keyIs k u = true)
    (ho : s.heap.get? d = some o) (hd : o.data = .dict es ep) (he : es.toList = xs.map (entryOfKey (tupleKind (mixKind prog w)))) (his : ∀ x ∈ xs, (tupleKind (mixKind prog w)).is s.heap x.1 x.2.1) (hne : xs ≠ []) (h : Q none s) :
    wpAny (model prog w) A (dictFind d u hh) Q E s := by
  have hmem : ∀ e ∈ es, ∃ x ∈ xs, e = entryOfKey (tupleKind (mixKind prog w)) x := by
    intro e hin
    have : e ∈ xs.map (entryOfKey (tupleKind (mixKind prog w))) := he ▸ Array.mem_toList_iff.mpr hin
    obtain ⟨x, hx, rfl⟩ := List.mem_map.mp this
    exact ⟨x, hx, rfl⟩
  have hst : ∀ v ∈ (placesWithHash es.size (fun i => es[i]?.map (·.hash)) hh).filterMap (fun i => es[i]?.map (·.key)), ∃ (k' : List L2.Key) (b : Addr), v = .ref b ∧ (tupleKind (mixKind prog w)).is s.heap k' b := by
    intro v hv
    obtain ⟨i, _, hi⟩ := List.mem_filterMap.mp hv
    cases hei : es[i]? with
    | none => rw [hei] at hi; cases hi
    | some e =>
      rw [hei] at hi
      obtain rfl : e.key = v := by simpa using hi
      obtain ⟨x, hx, rfl⟩ := hmem e (Array.mem_of_getElem? hei)
      exact ⟨x.1, x.2.1, rfl, his x hx⟩
  have hall : ¬ (es.all fun e => isExactStrKey e.key) = true := by
    intro z
    cases xs with
    | nil => exact hne rfl
    | cons x xs =>
      have h0 : es[0]? = some (entryOfKey (tupleKind (mixKind prog w)) x) := by rw [entry_at he 0] <;> rfl
      have := (Array.all_eq_true'.mp z) _ (Array.mem_of_getElem? h0)
      cases this
  have core : wpAny (model prog w) A (do
      let places := placesWithHash es.size (fun i => es[i]?.map (·.hash)) hh
      let stored := places.filterMap fun i => es[i]?.map (·.key)
      if (u :: stored).all carriedByValue then return ← dictWalkPlain d u hh es places
      let tells ← if stored == [u] then pure false else tableMayTell u stored
      if tells && stored.length ≥ 2 then unsupported "dict.find:order-among-keys-of-one-hash"
      let mut hit : Option Nat := none
      for i in places do
        if let some e := es[i]? then
          if e.hash == hh then
            let before ← dictEpoch d (keyPart u)
            let same ← eqBool e.key u
            if (← dictEpoch d (keyPart u)) != before then unsupported "dict.changed-during-lookup"
            if same then
              if hit.isSome then unsupported "dict.find:order-among-keys-of-one-hash"
              rule "dict.find.hit"
              if stored.length < 2 then return some i
              hit := some i
            else
              rule "dict.find.same-hash-other-key"
              if tells && !(0 ≤ hh && hh < 32) then unsupported "dict.find:asked-again-or-not-hangs-on-the-table"
      return hit) Q E s := by
    dsimp only
    by_cases hc : ((u :: (placesWithHash es.size (fun i => es[i]?.map (·.hash)) hh).filterMap (fun i => es[i]?.map (·.key))).all carriedByValue) = true
    · -- no key of this hash
      have hp : placesWithHash es.size (fun i => es[i]?.map (·.hash)) hh = [] := by
        cases e : placesWithHash es.size (fun i => es[i]?.map (·.hash)) hh with
        | nil => rfl
        | cons i r =>
          exfalso
          rw [e] at hc hst
          have hi : i ∈ placesWithHash es.size (fun i => es[i]?.map (·.hash)) hh := by rw [e]; exact List.mem_cons_self
          unfold placesWithHash at hi
          have hlt : i < es.size := List.mem_range.mp (List.mem_filter.mp hi).1
          have hx : es[i]? = some es[i] := Array.getElem?_eq_getElem hlt
          rw [List.filterMap_cons, hx] at hc hst
          obtain ⟨k', b, e1, _⟩ := hst _ List.mem_cons_self
          have h2 := List.all_eq_true.mp hc es[i].key (List.mem_cons_of_mem _ List.mem_cons_self)
          have e1 : es[i].key = Value.ref b := e1
          rw [e1] at h2
          cases h2
      rw [if_pos hc, hp]
      unfold dictWalkPlain
      refine wpAny_bind ?_
      refine wpAny_forIn_list _ (fun rest r s' => s' = s ∧ r = (none, ()) ∧ rest = []) _ ?_ ?_ _ _ ⟨rfl, rfl, rfl⟩
      · rintro x rest r s' ⟨_, _, z⟩
        cases z
      · rintro r s' ⟨rfl, rfl, _⟩
        first | exact wpAny_pure h | exact wpAny_pure (wpAny_pure h)
    · rw [if_neg hc]
      by_cases hone : (((placesWithHash es.size (fun i => es[i]?.map (·.hash)) hh).filterMap (fun i => es[i]?.map (·.key))) == [u]) = true <;>
      (first | rw [if_pos hone] | rw [if_neg hone]) <;> (first | refine wpAny_bind (wpAny_pure ?_) | refine wpAny_bind (tell_mix hkey hst ?_)) <;> (
      rw [if_neg (by simp)]
      refine wpAny_bind ?_
      refine wpAny_forIn_list _ (fun rest b s' => s' = s ∧ b = (none, none)) _ ?_ ?_ _ _ ⟨rfl, rfl⟩
      · rintro x rest b s' ⟨rfl, rfl⟩
        cases hx : es[x]? with
        | none => exact wpAny_pure ⟨rfl, rfl⟩
        | some e =>
          dsimp only
          by_cases hq : (e.hash == hh) = true
          · rw [if_pos hq]
            obtain ⟨y, hy, rfl⟩ := hmem e (Array.mem_of_getElem? hx)
            refine wpAny_bind (wpAny_dictEpoch ho hd (wpAny_bind (eq_mix hu hkey (his y hy) (wpAny_bind (wpAny_dictEpoch ho hd ?_)))))
            show wpAny _ _ (if (ep != ep) = true then _ else _) _ E _
            rw [if_neg (by simp)]
            simp only [Bool.false_eq_true, if_false]
            refine wpAny_bind (wpAny_rule ?_)
            first | rw [if_neg (by simp)] | skip
            first
              | exact wpAny_pure ⟨rfl, rfl⟩
              | exact wpAny_bind (wpAny_pure (wpAny_pure ⟨rfl, rfl⟩))
          · rw [if_neg hq]
            exact wpAny_pure ⟨rfl, rfl⟩
      · rintro b s' ⟨rfl, rfl⟩
        exact wpAny_pure h)
  unfold dictFind
  try with_reducible refine wpAny_holding ?_
  refine wpAny_bind (wpAny_dictEntries ho hd ?_)
  rcases keyIs_shape hkey with ⟨i, t, rfl, rfl⟩ | ⟨x, t, rfl, rfl⟩
  · exact core
  · dsimp only
    rw [if_neg hall]
    exact core
end
end Rw

set_option Elab.async false
set_option linter.all false
set_option maxRecDepth 100000
set_option maxHeartbeats 1500000
/-! TkXB: dicts whose object is known: made by a store, walked, told by repr; isinstance; a copy of a dict with tuple keys. -/
namespace Rw
open PySem PySem.Spec PyProof.Rows L2
/-- the items of a dict's object, in order -/
def ItemsO (o : Obj) (its : List (V × V)) : Prop := ∃ (es : Array DictEntry) (ep : Nat), o.ExactDict ∧ o.data = .dict es ep ∧ Paired (fun (q : V × V) (e : DictEntry) => RelV q.1 e.key ∧ RelV q.2 e.val) its es.toList
/-- a dict whose object is known -/
def DicO (H : Hp) (d : Addr) (its : List (V × V)) : Prop := (d == sysModules) = false ∧ its.length ≤ 1000 ∧ ∃ o u, H d = some (.frz o u) ∧ ItemsO o its
theorem DicO.keep {H H' : Hp} {d : Addr} {its : List (V × V)} (h : DicO H d its) (k : Same H H') : DicO H' d its := by
  obtain ⟨a, b, o, u, e, i⟩ := h
  exact ⟨a, b, o, u, k _ _ e, i⟩
section
variable {X : Cx} {pins : List (Addr × Obj)} {σ : L2.St} {H : Hp} {s : Shared}
theorem DicO.at (I : Inv X pins σ H s) {d : Addr} {its : List (V × V)} (h : DicO H d its) : (d == sysModules) = false ∧ its.length ≤ 1000 ∧ ∃ (o : Obj) (es : Array DictEntry) (ep : Nat), s.heap.get? d = some o ∧ o.ExactDict ∧ o.data = .dict es ep ∧ Paired (fun (q : V × V) (e : DictEntry) => RelV q.1 e.key ∧ RelV q.2 e.val) its es.toList := by
  obtain ⟨a, b, o, u, e, es, ep, h1, h2, h3⟩ := h
  exact ⟨a, b, o, es, ep, (I.hok d _ e).1, h1, h2, h3⟩
end
/-! ### a store of a key of another kind -/
section
variable {prog : Program} {w : World} {A : Around} {E : Value → Shared → Prop} {s : Shared}
theorem setItem_mix {d : Addr} {o : Obj} {es : Array DictEntry} {ep : Nat} {xs : List (List L2.Key × Addr × Value)} {k : L2.Key} {u v : Value} {Q : Unit → Shared → Prop} (hu : A.units + 1 < cLine) (hkey : keyIs k u = true)
    (ho : s.heap.get? d = some o) (hc : o.ExactDict) (hd : o.data = .dict es ep) (he : es.toList = xs.map (entryOfKey (tupleKind (mixKind prog w)))) (his : ∀ x ∈ xs, (tupleKind (mixKind prog w)).is s.heap x.1 x.2.1) (hne : xs ≠ []) (hsz : xs.length ≤ sizeLine)
    (hQ : ∀ h' ob hh, h'.get? d = some ob → ob.ExactDict → ob.data = .dict (es.push ⟨hh, u, v⟩) (ep + 1) → Heap.SameBut d s.heap h' → Q () { s with heap := h', toks := s.toks + 1 }) :
    wpAny (model prog w) A (setItem (.ref d) u v) Q E s := by
  have ty : s.TypeIs (.ref d) "dict" := ⟨o, ho, hc.1⟩
  unfold setItem
  try with_reducible refine wpAny_holding ?_
  refine wpAny_bind (wpAny_sequenceKey ty (by decide) ?_)
  refine wpAny_bind (wpAny_callSpecial?_slot (name := Str.ofString "__setitem__") ty slot_dict_setitem
    (wpAny_call_entry slot_dict_setitem ty entry_dict_setitem ?_ (args_dict_setitem _ _ _)))
  show wpAny _ _ (Builtin.Dict.notOrdered "__setitem__" ⟨[.ref d, u, v], []⟩ >>= _) _ _ s
  refine wpAny_bind (wpAny_notOrdered_dict ty ?_)
  show wpAny _ _ (dictSet d u v >>= _) _ _ s
  refine wpAny_bind ?_
  unfold dictSet
  try with_reducible refine wpAny_holding ?_
  refine wpAny_bind ((mixKind prog w).pyHash (k := k) hkey ?_)
  unfold dictSetHashed
  try with_reducible refine wpAny_holding ?_
  refine wpAny_bind (find_mix (s := { s with toks := s.toks + 1 }) (xs := xs) (k := k) (show A.in1.units < cLine from hu) hkey ho hd he his hne ?_)
  refine wpAny_bind (wpAny_rule (wpAny_updateDictKeys (hz := by have e := size_of_entries he; omega) (s := { s with toks := s.toks + 1 }) ho hd ?_))
  refine wpAny_pure ⟨.none, rfl, wpAny_pure (hQ _ _ _ (Heap.get?_update_self _ ho (Obj.isFreed_of_dict (Obj.data_mapDictKeys hd _))) (hc.mapDictKeys _) (Obj.data_mapDictKeys hd _) (Heap.SameBut.update ..))⟩
end
theorem paired_app {α β : Type} {F : α → β → Prop} : ∀ {l : List α} {m : List β} {a : α} {b : β}, Paired F l m → F a b → Paired F (l ++ [a]) (m ++ [b])
  | _, _, _, _, .nil, h => .cons h .nil
  | _, _, _, _, .cons h t, k => .cons h (paired_app t k)
theorem kt_items {H : Hp} {knd : HeapKind P' w' (List L2.Key)} : ∀ {kvs : List (List L2.Key × V)} {xs : List (List L2.Key × Addr × Value)}, KT H kvs xs → Paired (fun (q : V × V) (e : DictEntry) => RelV q.1 e.key ∧ RelV q.2 e.val) (((xs.map fun x => x.2.1).zip kvs).map fun z => (V.ref z.1, z.2.2)) (xs.map (entryOfKey knd))
  | _, _, .nil => .nil
  | _, _, .cons h t => .cons ⟨rfl, h.2.2⟩ (kt_items t)
/-- the items of a dict with tuple keys, their addresses told -/
def itemsT (bs : List Addr) (kvs : List (List L2.Key × V)) : List (V × V) := (bs.zip kvs).map fun z => (V.ref z.1, z.2.2)
/-- d[k] = v, where k may be of another kind than d's keys; the dict then stays -/
def sDPutX (td ty tv : TE) : TS := fun D σ H => tv σ H fun v H1 => td σ H1 fun x H2 => ty σ H2 fun y H3 => ∃ a, x = .ref a ∧ ((∃ H4, DPut H3 a y v H4 ∧ D.nx σ H4) ∨
  ∃ kvs k, H3 a = some (.dT kvs) ∧ kvs ≠ [] ∧ kvs.length ≤ 900 ∧ y = kV k ∧ ∀ bs H4, IsKeys H3 kvs bs → (∀ b, b ≠ a → H4 b = H3 b) → DicO H4 a (itemsT bs kvs ++ [(kV k, v)]) → D.nx σ H4)
section
variable {X : Cx} {o i value : Expr} {pos pos' : Pos} {td ty tv : TE}
theorem ps_dputX (hu : X.A.units + 1 < cLine) (ho : PE X o td) (hi : PE X i ty) (hv : PE X value tv) (hs : swapsWith value (some (.Subscript o i pos')) pos.line X.env = pure false) :
    PS X (.Assign [.Subscript o i pos'] value pos) (sDPutX td ty tv) := by
  refine ⟨fun pins s σ H D I h => ?_⟩
  refine wpAny_Assign_Subscript (thn (hv.run pins s σ H _ I h) fun r s1 ⟨v, H1, I1, rv, q1⟩ => thn (ho.run pins s1 σ H1 _ I1 q1) fun u s2 ⟨x, H2, I2, rx, q2⟩ => thn (hi.run pins s2 σ H2 _ I2 q2) fun iv s3 ⟨y, H3, I3, ry, a, ex, g⟩ => ?_) hs
  subst ex
  obtain rfl : u = Value.ref a := rx
  rcases g with ⟨H4, g, q3⟩ | ⟨kvs, k, e, ne, l9, rfl, q3⟩
  · exact d_setItem hu I3 g ry rv fun s4 I4 => ⟨σ, H4, I4, q3⟩
  · obtain ⟨z, nm, xs, rel, ob, es, ep, h1, h2, h3, h4⟩ := (show ObjOk X.prog X.w H3 s3.heap a (.dT kvs) from I3.hok a _ e)
    obtain ⟨_, _, xs2, rel2, o2, es2, ep2, g1, g2, g3, g4, g5, g6⟩ := dt_of I3.hok e
    have hne : xs2 ≠ [] := fun y => by
      rw [y] at rel2
      cases rel2
      exact ne rfl
    have lx : xs2.length ≤ sizeLine := by rw [← Paired.length rel2]; exact z
    refine setItem_mix (xs := xs2) hu (kV_is (P := X.prog) (w := X.w) ry) g1 g2 g3 g4 g5 hne lx fun h' ob' hh e1 e2 e3 sb => ?_
    have mu : Mut (H3 a) := by rw [e]; exact True.intro
    refine ⟨σ, upd H3 a (.frz ob' (.ext fun h => h.get? a = some ob')), d_write I3 mu sb ⟨ob', e1⟩ ⟨e1, e1, ⟨ob', e1⟩, fun h1 h2 p k => k _ p⟩, q3 (xs2.map fun x => x.2.1) _ (isKeys_of rel2) (fun b hb => upd_ne hb) ⟨nm, ?_, ob', _, upd_same, _, _, e2, e3, ?_⟩⟩
    · have := Paired.length rel2
      unfold itemsT
      rw [List.length_append, List.length_map, List.length_zip, List.length_map]
      show _ + 1 ≤ 1000
      omega
    · have : (es2.push ⟨hh, iv, r⟩).toList = xs2.map (entryOfKey (tupleKind (mixKind X.prog X.w))) ++ [⟨hh, iv, r⟩] := by simp [g4]
      rw [this]
      exact paired_app (kt_items rel2) ⟨ry, rv⟩
/-- a dict with tuple keys is frozen ahead of a statement, its items told -/
theorem ps_frzO {st : Stmt} {t : TS} (h : PS X st t) : PS X st (fun D σ H => ∃ d kvs, H d = some (.dT kvs) ∧ kvs.length ≤ 900 ∧ ∀ o bs, IsKeys H kvs bs → DicO (upd H d (.frz o (.dT kvs))) d (itemsT bs kvs) → t D σ (upd H d (.frz o (.dT kvs)))) := by
  refine ⟨fun pins s σ H D I hw => ?_⟩
  obtain ⟨d, kvs, hd, l9, hw⟩ := hw
  obtain ⟨od, I1⟩ := I.lock hd True.intro
  obtain ⟨_, nm, xs, rel, o2, es, ep, g1, g2, g3, g4, g5, g6⟩ := dt_of I.hok hd
  have ge : s.heap.get? d = some od := (I1.hok d _ upd_same).1
  have eo : od = o2 := Option.some.inj (ge.symm.trans g1)
  subst eo
  refine h.run pins s σ _ _ I1 (hw od (xs.map fun x => x.2.1) (isKeys_of rel) ⟨nm, ?_, od, _, upd_same, es, ep, g2, g3, by rw [g4]; exact kt_items rel⟩)
  have := Paired.length rel
  unfold itemsT
  rw [List.length_map, List.length_zip, List.length_map]
  omega
end
end Rw

set_option Elab.async false
set_option linter.all false
set_option maxRecDepth 100000
set_option maxHeartbeats 1500000
/-! TkXC: lists of equal texts under !=; known dicts: isinstance, their items walked, data with dicts of all kinds told by repr; a copy of a dict of numbers. -/
namespace Rw
open PySem PySem.Spec PyProof.Rows L2
/-! ### xs != ys, item by item equal -/
section
open PySem.SeqAt AutoSeq1 MeetsSeq MeetsSeq2 MeetsSeq3 SeqRoads2
variable {prog : Program} {w : World} {A : Around} {R : Result → Shared → Prop}
theorem ne_turnsV {l b : Addr} {N : Nat} {I : Nat → Shared → Prop} (hl : GQ.ListI prog w A (fun e s' => R (.error e) s') l b N I) (fin : ∀ s, I N s → R (.ok (.ret (.bool false))) s) :
    ∀ (k i : Nat), N - i = k → i ≤ N → ∀ s, I i s → wpAny (model prog w) A.in1 (Builtin.«list.__eq__.loop» ⟨[.ref l, .ref b, rawInt i, rawInt 3], []⟩) (GQ.FinOf prog w A R) (fun e s' => R (.error e) s') s
  | 0, i, hk, hi, s, h => by
    obtain ⟨ys, zs, n, m, g1, g2, z1, z2, _⟩ := hl _ _ h
    have e : i = N := by omega
    have q : R (.ok (.ret (.bool false))) s := fin s (e ▸ h)
    obtain ⟨hp, g, d, tk, os⟩ := s
    wp_walk using wpAny_loadPart' g1, wpAny_loadPart' g2
    rw [show ys[((i : Nat) : Int).toNat]? = none by simp; omega, show zs[((i : Nat) : Int).toNat]? = none by simp; omega]
    wp_walk using wpAny_loadPart' g1, wpAny_loadPart' g2
    show R (.ok (.ret (.bool (ys.size != zs.size)))) _
    rw [z1, z2]; simpa using q
  | k + 1, i, hk, hi, s, h => by
    obtain ⟨ys, zs, n, m, g1, g2, z1, z2, turn⟩ := hl _ _ h
    have l1 : i < ys.size := by omega
    have l2 : i < zs.size := by omega
    have ht := turn l1 l2
    obtain ⟨hp, g, d, tk, os⟩ := s
    wp_walk using wpAny_loadPart' g1, wpAny_loadPart' g2
    rw [show ys[((i : Nat) : Int).toNat]? = some ys[i] by simp [l1], show zs[((i : Nat) : Int).toNat]? = some zs[i] by simp [l2]]
    refine wpAny_bind (wpAny_mono ht (fun r s2 y => ?_) fun _ _ x => x)
    obtain ⟨rfl, y⟩ := y
    have rec_ := ne_turnsV hl fin k (i + 1) (by omega) (by omega) s2 y
    obtain ⟨hp2, g2', d2, tk2, os2⟩ := s2
    wp_walk
    rw [show ((i : Int) + 1) = ((i + 1 : Nat) : Int) by omega]
    exact ⟨plainId_quiet plain_eq_loop _, codeAny_builtin entry_eq_loop (by rw [Around.under_plainId plain_eq_loop _]; exact rec_)⟩
theorem ne_runV {l b : Addr} {N : Nat} {I : Nat → Shared → Prop} (hl : GQ.ListI prog w A (fun e s' => R (.error e) s') l b N I) (fin : ∀ s, I N s → R (.ok (.ret (.bool false))) s) {s : Shared} (h : I 0 s) :
    wpAny (model prog w) A.in1 (Builtin.«list.__ne__» ⟨[.ref l, .ref b], []⟩) (GQ.FinOf prog w A R) (fun e s' => R (.error e) s') s := by
  obtain ⟨ys, zs, n, m, g1, g2, z1, z2, _⟩ := hl _ _ h
  have rec_ := ne_turnsV (A := A) (R := R) hl fin _ 0 rfl (Nat.zero_le _) s h
  obtain ⟨hp, g, d, tk, os⟩ := s
  have f3 := AutoSeq1.sub_list_list
  have ne : ¬ (ys.size != zs.size) = true := by simp [z1, z2]
  wp_walk using wpAny_loadPart' g1, wpAny_loadPart' g2
  exact ⟨plainId_quiet plain_eq_loop _, codeAny_builtin entry_eq_loop (by rw [Around.under_plainId plain_eq_loop _]; exact rec_)⟩
theorem ne_listsV {E : Value → Shared → Prop} {s : Shared} {l b : Addr} {N : Nat} {Q : Value → Shared → Prop} (hu : A.units < cLine) (I : Nat → Shared → Prop) (hl : GQ.ListI prog w A E l b N I)
    (fin : ∀ s, I N s → Q (.bool false) s) (h : I 0 s) : wpAny (model prog w) A (richCompare .NotEq (.ref l) (.ref b)) Q E s := by
  obtain ⟨ys, zs, n, m, g1, g2, _, _, _⟩ := hl _ _ h
  refine wpAny_richCompare_same_room (op := .NotEq) ⟨_, g1, rfl⟩ ⟨_, g2, rfl⟩ F.slot_list_ne (GQ.call_here F.slot_list_ne ⟨_, g1, rfl⟩ F.entry_list_ne (F.args_list_ne_2 _ _) ?_) hu
  exact ne_runV (R := wants (fun v s' => v ≠ .notImplemented ∧ Q v s') E) hl (fun s' q => ⟨(fun x => nomatch x), fin s' q⟩) h
end
section
variable {X : Cx}
/-- xs != ys of lists whose items are equal -/
def rNeV (K : PySem.W.Frag) : R2 := fun x y H Q => ∃ a b xs ys n, x = .ref a ∧ y = .ref b ∧ H a = some (.lst xs) ∧ H b = some (.lst ys) ∧ n ≤ 60 ∧ Paired (EqV K H n) xs ys ∧ Q (.bl false) H
theorem op_neV (hu : X.A.units + 64 < cLine) : OpR X (compareOp .NotEq) (rNeV X.K) := by
  intro pins s σ H x y v u Q I rx ry hq
  obtain ⟨a, b, xs, ys, n, rfl, rfl, ha, hb, hn, p, q⟩ := hq
  cases rx
  cases ry
  show wpAny (model X.prog X.w) X.A (richCompare .NotEq (.ref a) (.ref b)) (EP X pins σ Q) X.xe s
  refine ne_listsV (N := xs.length) (by omega) (fun _ s' => s' = s) (fun i s' y => ?_) (fun s' y => ?_) rfl
  · subst y
    obtain ⟨_, its, k, r, e⟩ := I.hok a _ ha
    obtain ⟨_, its2, k2, r2, e2⟩ := I.hok b _ hb
    refine ⟨its.toArray, its2.toArray, k, k2, e, e2, by rw [List.size_toArray, ← r.length], by rw [List.size_toArray, ← r2.length, ← Paired.length p], fun h1 h2 => ?_⟩
    have := items_run (eqV_run I n X.A.in1 (by show X.A.units + 1 + n < cLine; omega)) p r r2 i (by simpa using h1) (by simpa using h2)
    have h3 : (its.toArray)[i] = its[i]'(by simpa using h1) := by simp
    have h4 : (its2.toArray)[i] = its2[i]'(by simpa using h2) := by simp
    rw [h3, h4]
    exact this _ _ ⟨rfl, rfl⟩
  · subst y
    exact ⟨.bl false, H, I, rfl, q⟩
theorem eqv_flat {K : PySem.W.Frag} {H : Hp} {n : Nat} {v : V} (h : flatB v = true) : EqV K H (n + 1) v v := .inl ⟨rfl, h⟩
/-! ### isinstance of a known dict -/
theorem call_isiM : CallR X (.builtin "isinstance") (fun xs H Q => ∃ (d : Addr) (its : List (V × V)) (c : V) (u : Value) (b : Bool), xs = [.ref d, c] ∧ DicO H d its ∧ ClsV c u ∧ PySem.W.kitOne X.K (.type "dict") u = some b ∧ Q (.bl b) H) := by
  intro pins s σ H xs us Q I r h
  obtain ⟨d, its, c, u, b, rfl, hd, k, e, q⟩ := h
  obtain ⟨u1, u2, rfl, r1, r2⟩ := vals2 r
  have e2 := k.eq r2
  subst e2
  cases (show u1 = Value.ref d from r1)
  obtain ⟨_, _, o2, es, ep, h1, h2, _⟩ := hd.at I
  exact PySem.W.kia_one PySem.W.kitx_dict I.kIn ⟨o2, h1, h2.1⟩ e (fun z => nomatch z) fun tk => ⟨.bl b, H, I.tok tk, rfl, q⟩
/-- of data, or of a known dict -/
def rIsiX (K : PySem.W.Frag) : List V → Hp → VK → Prop := fun xs H Q => rIsi K xs H Q ∨ ∃ (d : Addr) (its : List (V × V)) (c : V) (u : Value) (b : Bool), xs = [.ref d, c] ∧ DicO H d its ∧ ClsV c u ∧ PySem.W.kitOne K (.type "dict") u = some b ∧ Q (.bl b) H
theorem call_isiX : CallR X (.builtin "isinstance") (rIsiX X.K) := by
  intro pins s σ H xs us Q I r h
  rcases h with h | h
  · exact call_isi pins s σ H xs us Q I r h
  · exact call_isiM pins s σ H xs us Q I r h
end
/-! ### the items of a known dict -/
def DicA (H : Hp) (d : Addr) (o : Obj) (its : List (V × V)) : Prop := (d == sysModules) = false ∧ its.length ≤ 1000 ∧ ItemsO o its ∧ ∃ u, H d = some (.frz o u)
theorem DicO.a {H : Hp} {d : Addr} {its : List (V × V)} (h : DicO H d its) : ∃ o, DicA H d o its := by
  obtain ⟨a, b, o, u, e, i⟩ := h
  exact ⟨o, a, b, i, u, e⟩
theorem DicA.keep {H H' : Hp} {d : Addr} {o : Obj} {its : List (V × V)} (h : DicA H d o its) (k : Same H H') : DicA H' d o its := by
  obtain ⟨a, b, i, u, e⟩ := h
  exact ⟨a, b, i, u, k _ _ e⟩
theorem DicA.o {H : Hp} {d : Addr} {o : Obj} {its : List (V × V)} (h : DicA H d o its) : DicO H d its := by
  obtain ⟨a, b, i, u, e⟩ := h
  exact ⟨a, b, o, u, e, i⟩
theorem ent_M {X : Cx} {pins : List (Addr × Obj)} {σ : L2.St} {H : Hp} {s : Shared} {d : Addr} {o : Obj} {its : List (V × V)} (I : Inv X pins σ H s) (h : DicA H d o its) :
    (d == sysModules) = false ∧ ∃ (es : Array DictEntry) (ep : Nat), DT.Raw s.heap d es ep ∧ o.data = .dict es ep ∧ es.size = its.length ∧ ∀ (i : Nat) (k v : V), its[i]? = some (k, v) → ∃ en : DictEntry, es[i]? = some en ∧ RelV k en.key ∧ RelV v en.val := by
  obtain ⟨nm, _, ⟨es, ep, ex, dat, pr⟩, u, e⟩ := h
  refine ⟨nm, es, ep, ⟨o, (I.hok d _ e).1, ex, dat⟩, dat, ?_, fun i k v hi => ?_⟩
  · rw [← Array.length_toList]
    exact (Paired.length pr).symm
  · obtain ⟨b, hb, h1, h2⟩ := paired_get pr hi
    exact ⟨b, by rw [← Array.getElem?_toList]; exact hb, h1, h2⟩
def Itm (d : Addr) (o : Obj) (its : List (V × V)) : It where
  go := fun i H => DicA H d o its ∧ i < its.length
  yld := fun i H x H' => ∃ T k v, its[i]? = some (k, v) ∧ x = .ref T ∧ H T = none ∧ H' = upd H T (.tup [k, v])
  stop := fun i H => DicA H d o its ∧ its.length ≤ i
theorem turn_m {P : Program} {w : World} {K : PySem.W.Frag} {d : Addr} {o : Obj} {es : Array DictEntry} {ep : Nat} {its : List (V × V)} {elts : List Expr} {kk : Nat} {tpos : Pos} (it : Addr) (hod : o.data = .dict es ep) :
    Turn P w K (.Tuple elts kk tpos) (Itm d o its) [it] it (fun i h => ∃ ok ov, IsItemIter h it d i its.length ep ok ov) := by
  have mem : it ∈ [it] := List.mem_singleton.mpr rfl
  refine { mem := mem, obj := ?_, keep := ?_, item := ?_, done := ?_, self := ?_ }
  · rintro i h ⟨ok, ov, e⟩ b hb
    cases List.mem_singleton.mp hb
    exact ⟨_, e, fun v z => nomatch z⟩
  · rintro i h h' ⟨ok, ov, e⟩ k
    exact ⟨ok, ov, k it mem _ e⟩
  · rintro X rfl rfl rfl hc i pins s σ H E I fp ⟨ok, ov, e⟩ ⟨hd, hi⟩
    obtain ⟨nm, es1, ep1, raw, dat, len, ents⟩ := ent_M I hd
    cases hod.symm.trans dat
    have hi2 : i < es.size := by rw [len]; exact hi
    obtain ⟨⟨k, v⟩, hkv⟩ : ∃ p, its[i]? = some p := ⟨_, List.getElem?_eq_getElem hi⟩
    obtain ⟨en, g1, g2, g3⟩ := ents i k v hkv
    have g5 : es[i] = en := by
      rw [Array.getElem?_eq_getElem hi2] at g1
      exact Option.some.inj g1
    rw [← len] at e
    have low : it < s.heap.objs.size := Heap.lt_size e
    refine DT.nextI e raw hi2 fun h1 out tup sz old => ?_
    refine ⟨_, rfl, wpAny_letOwnedTupleGo_items (s := { s with heap := h1 }) out fun h2 back sb => ?_⟩
    have tup2 : h2.get? s.heap.objs.size = some { cls := .type "tuple", data := .seq #[es[i].key, es[i].val] } := (sb.2 _ (Nat.ne_of_gt low)).trans tup
    rw [g5] at tup2 back
    have made : ObjOk X.prog X.w (upd H s.heap.objs.size (.tup [k, v])) h2 s.heap.objs.size (.tup [k, v]) :=
      ⟨by show 2 ≤ sizeLine; decide, [en.key, en.val], .cons g2 (.cons g3 .nil), ⟨_, tup2, rfl, _, rfl⟩⟩
    have J := I.turnedNew (t' := s.toks) (ch := [it]) (h' := h2) (fun b ob hb z => (sb.2 b (fun y => hb (by rw [y]; exact mem))).trans (old b ob (fun y => hb (by rw [y]; exact mem)) z)) fp (Nat.le_refl _) made
    refine ⟨.ref s.heap.objs.size, _, J, rfl, ⟨_, k, v, hkv, rfl, I.hok.fresh (Nat.le_refl _), rfl⟩, ⟨en.key, en.val, ?_⟩, fun b hb => ?_⟩
    · rw [← len]
      exact back
    · rw [List.mem_singleton.mp hb, upd_ne (Nat.ne_of_lt low)]
      exact (fp it mem).1
  · rintro X rfl rfl rfl hc i pins s σ H E I fp ⟨ok, ov, e⟩ ⟨hd, hi⟩
    obtain ⟨nm, es1, ep1, raw, dat, len, ents⟩ := ent_M I hd
    cases hod.symm.trans dat
    obtain ⟨f0, f1, f2, f3, f4, f5⟩ := fp it mem
    rw [← len] at e hi
    exact DT.endI (I.ok.hd hc) e raw hi fun h1 eb => ⟨rfl, I.turned (t' := s.toks) (fun b ob hb z => eb b ob hb z) f0 f1 f3 f4 f5⟩
  · rintro A i s Q E ⟨ok, ov, e⟩ hq
    exact PySem.W.kcp_self e hq
def iItm (td : TE) : TI := fun σ H R => td σ H fun x H1 => ∃ d o its, x = .ref d ∧ DicA H1 d o its ∧ R (Itm d o its) H1
theorem pi_itm {X : Cx} {e : Expr} {td : TE} {apos cpos : Pos} {elts : List Expr} {kk : Nat} {tpos : Pos} (he : PE X e td) (hb : attributeBase e "items" X.env (eval e X.env) = eval e X.env := by rfl) (hl : (apos.endLine == cpos.line) = true := by rfl) :
    PI X (.Tuple elts kk tpos) (.Call (.Attribute e "items" apos) [] [] cpos) (iItm td) := by
  constructor
  intro pins s σ H R I h
  refine wpAny_Call_method (T := "dict") (id := "dict.items") hb rfl hl F.plainAttrs_dict F.slot_dict_items F.type_dict_items (thn (he.run pins s σ H _ I h) ?_)
  rintro u s1 ⟨x, H1, J, rx, d, o, its, rfl, hd, q⟩
  cases rx
  obtain ⟨nm, es, ep, raw, dat, len, ents⟩ := ent_M J hd
  refine ⟨raw.typeIs, ?_, ?_⟩
  · intro a e
    cases e
    obtain ⟨oo, g, ed, _⟩ := raw
    exact ⟨oo, g, ed.2.1⟩
  have J2 : Inv X pins σ H1 { s1 with heap := s1.heap.push { cls := .type "dict_items", data := .fields #[.ref d] } } := J.kept (t' := s1.toks) fun b ob z => Heap.get?_push_of_some _ z
  show wpAny _ _ (callWith cpos (.builtin "dict.items") [.ref d] [] []) _ X.xe s1
  refine method_meetsIn F.slot_dict_items F.entry_dict_items rfl (PySem.evalArgs_none ⟨rfl, raw.typeIs, F.args_dict_items_1 _, _, DT.meetsItems (es := es) (ep := ep) nm, ⟨raw, ?_⟩⟩)
  refine DT.iterI (d := d) ⟨_, Heap.get?_push_size _ rfl, rfl, rfl⟩ (raw.push _) (pi_one (tk := s1.toks) J2 _ (turn_m _ dat) ⟨.none, .none, ?_⟩ q)
  rw [← len]
  exact Heap.get?_push_size _ rfl
theorem walk_itm {d : Addr} {o : Obj} {its : List (V × V)} : Walk (Itm d o its) its.length (fun H => DicA H d o its) (fun i H x H' => ∃ T k v, its[i]? = some (k, v) ∧ x = .ref T ∧ H T = none ∧ H' = upd H T (.tup [k, v])) :=
  ⟨fun i H hi q => ⟨q, hi⟩, fun H q => ⟨q, Nat.le_refl _⟩, fun i H x H' hi q y => y⟩
/-! ### data with such dicts -/
/-- lists of data and known dicts -/
inductive Ax (H : Hp) : V → PyData → Prop
  | any {v : V} {d : PyData} : Any H v d → Ax H v d
  | dic {a : Addr} {its : List (V × V)} {ks vs : List PyData} : DicO H a its → AnyL H (its.map (·.1)) ks → AnyL H (its.map (·.2)) vs → Ax H (.ref a) (.dict (ks.zip vs))
theorem Ax.keep {H H' : Hp} {v : V} {d : PyData} (h : Ax H v d) (k : Same H H') : Ax H' v d := by
  cases h with
  | any a => exact .any (a.keep k)
  | dic a b c => exact .dic (a.keep k) (anyL_keep k b) (anyL_keep k c)
/-- an item of a list, behind a text -/
def AxW (H : Hp) (a : Addr) (t : Str) (d : PyData) : Prop := ∃ v, H a = some (.lst [.str t, v]) ∧ Ax H v d
section
variable {X : Cx} {pins : List (Addr × Obj)} {σ : L2.St} {H : Hp} {s : Shared}
theorem zip_keys {α β : Type} : ∀ {l : List α} {m : List β}, l.length = m.length → (l.zip m).map (·.1) = l ∧ (l.zip m).map (·.2) = m := fun h => ⟨zip_fst h, zip_snd h⟩
theorem showsL_of (I : Inv X pins σ H s) : ∀ (vs : List V) (ds : List PyData) (us : List Value), AnyL H vs ds → Vals vs us → (∀ d ∈ ds, d.showable = true ∧ d.shown.length ≤ sizeLine) → ShowsL X.prog X.w s.heap us ds
  | _, _, _, .nil, .nil, _ => showsL_nil
  | _, _, _, .cons a1 a2, .cons r1 r2, h => showsL_cons (any_shows I _ _ _ a1 r1 (h _ List.mem_cons_self).1 (h _ List.mem_cons_self).2) (showsL_of I _ _ _ a2 r2 fun d hd => h d (List.mem_cons_of_mem _ hd))
theorem kv_parts : ∀ {kvs : List (PyData × PyData)}, PyData.showableKv kvs = true → (∀ t ∈ PyData.shownKv kvs, t.length ≤ sizeLine) → (∀ d ∈ kvs.map (·.1), d.showable = true ∧ d.shown.length ≤ sizeLine) ∧ ∀ d ∈ kvs.map (·.2), d.showable = true ∧ d.shown.length ≤ sizeLine
  | [], _, _ => ⟨(fun d h => by cases h), (fun d h => by cases h)⟩
  | (k, v) :: kvs, sh, sz => by
    have sh' : (k.showable = true ∧ v.showable = true) ∧ PyData.showableKv kvs = true := by simpa [PyData.showableKv] using sh
    simp only [PyData.shownKv] at sz
    have top := sz _ List.mem_cons_self
    rw [strLen_append, strLen_append] at top
    obtain ⟨x, y⟩ := kv_parts sh'.2 fun t ht => sz t (List.mem_cons_of_mem _ ht)
    refine ⟨fun d hd => ?_, fun d hd => ?_⟩
    · rcases List.mem_cons.mp (show d ∈ k :: kvs.map (·.1) from hd) with z | z
      · rw [z]; exact ⟨sh'.1.1, by omega⟩
      · exact x d z
    · rcases List.mem_cons.mp (show d ∈ v :: kvs.map (·.2) from hd) with z | z
      · rw [z]; exact ⟨sh'.1.2, by omega⟩
      · exact y d z
theorem vals_keys : ∀ {its : List (V × V)} {es : List DictEntry}, Paired (fun (q : V × V) (e : DictEntry) => RelV q.1 e.key ∧ RelV q.2 e.val) its es → Vals (its.map (·.1)) (es.map (·.key)) ∧ Vals (its.map (·.2)) (es.map (·.val))
  | _, _, .nil => ⟨.nil, .nil⟩
  | _, _, .cons h t => ⟨.cons h.1 (vals_keys t).1, .cons h.2 (vals_keys t).2⟩
theorem ax_shows (I : Inv X pins σ H s) {v : V} {d : PyData} {u : Value} (h : Ax H v d) (r : RelV v u) (sh : d.showable = true) (sz : d.shown.length ≤ sizeLine) : Shows X.prog X.w s.heap u d := by
  cases h with
  | any a => exact any_shows I d v u a r sh sz
  | @dic a its ks vs hd b c =>
    cases (show u = Value.ref a from r)
    obtain ⟨nm, _, o, es, ep, h1, h2, h3, pr⟩ := hd.at I
    have l1 := anyL_len b
    have l2 := anyL_len c
    rw [List.length_map] at l1 l2
    obtain ⟨z1, z2⟩ := zip_keys (l := ks) (m := vs) (by omega)
    have z : (dictText (PyData.shownKv (ks.zip vs))).length ≤ sizeLine := by simpa only [PyData.shown] using sz
    obtain ⟨p1, p2⟩ := kv_parts (kvs := ks.zip vs) (by simpa [PyData.showable] using sh) fun t ht => Nat.le_trans (dictText_mem_le ht) z
    rw [z1] at p1
    rw [z2] at p2
    obtain ⟨v1, v2⟩ := vals_keys pr
    exact shows_dict' ⟨h1, h2.1, h3, nm⟩ (by rw [z1]; exact showsL_of I _ _ _ b v1 p1) (by rw [z2]; exact showsL_of I _ _ _ c v2 p2)
end
section
variable {X : Cx}
/-- repr of a list of a text and of such data -/
def rReprW : List V → Hp → VK → Prop := fun xs H Q => ∃ (a : Addr) (t : Str) (d : PyData), xs = [.ref a] ∧ AxW H a t d ∧ (wD t d).showable = true ∧ (wD t d).depth ≤ 60 ∧ (wD t d).shown.length ≤ sizeLine ∧ Q (.str (wD t d).shown) H
theorem call_reprW (gu : X.A.guards = some []) (hu : X.A.units + 64 < cLine) : CallR X (.builtin "repr") rReprW := by
  intro pins s σ H xs us Q I r h
  obtain ⟨a, t, d, rfl, ⟨v, ea, ax⟩, sh, dp, sz, q⟩ := h
  unfold wD at sh dp sz q
  obtain ⟨u, rfl, ru⟩ := vals1 r
  cases (show u = Value.ref a from ru)
  have fin : ∀ h' u tk, (∀ b o, s.heap.get? b = some o → h'.get? b = some o) → EP X pins σ Q (.str (wD t d).shown u) { s with heap := h', toks := tk } := fun h' t tk keep => ⟨V.str _, H, Inv.kept I keep, ⟨t, rfl⟩, q⟩
  have gu1 : X.A.in1.guards = some [] := gu
  have un1 : X.A.in1.units = X.A.units + 1 := rfl
  obtain ⟨us, o, n, L, rv⟩ := lst_at I ea
  have z : (listText (PyData.shownAll [.str t, d])).length ≤ sizeLine := by simpa only [PyData.shown] using sz
  have sh2 : PyData.showableAll [.str t, d] = true := by simpa [PyData.showable] using sh
  have mem : ∀ e ∈ [PyData.str t, d], e.showable = true ∧ e.shown.length ≤ sizeLine := fun e he => by
    refine ⟨?_, ?_⟩
    · have h2 : PyData.showable (.str t) = true ∧ d.showable = true := by simpa [PyData.showableAll] using sh2
      simp only [List.mem_cons, List.not_mem_nil, or_false] at he
      rcases he with z | z <;> subst z
      · exact h2.1
      · exact h2.2
    · refine Nat.le_trans (listText_mem_le (ts := PyData.shownAll [.str t, d]) ?_) z
      rw [shownAll_map]
      exact List.mem_map_of_mem he
  have D : (PyData.list [.str t, d]).depth = PyData.depthAll [.str t, d] + 1 := by simp only [PyData.depth]
  have ty : s.TypeIs (.ref a) "list" := ⟨o, L.get, L.cls⟩
  cases rv with
  | @cons _ u1 _ us1 r1 r2 =>
    cases r2 with
    | @cons _ u2 _ us2 r2 r3 =>
      cases r3
      have m1 := mem (.str t) List.mem_cons_self
      have m2 := mem d (List.mem_cons_of_mem _ List.mem_cons_self)
      obtain ⟨as, rd, bs, m, k⟩ := showsL_cons (any_shows I _ _ _ (.str t) r1 m1.1 m1.2) (showsL_cons (ax_shows I ax r2 m2.1 m2.2) showsL_nil)
      refine call_repr_slot (by omega) ty F.slot_list_repr.toG ?_
      have fin2 := fin
      unfold wD at fin2
      simp only [PyData.shown] at fin2
      exact call_list_reprK L.get L.cls L.dat (off_of (list_reads L rd) D m) (by simpa using k.length_eq) (fun i y e => k.item i y (by simpa using e)) gu1 (fun b _ => Clear.nil b) (by have : (PyData.list [.str t, d]).depth ≤ 60 := dp; omega) (fun _ _ z => z) (fun h' t tk keep => ⟨_, _, rfl, fin2 h' t tk keep⟩) z
end
end Rw

set_option Elab.async false
set_option linter.all false
set_option maxRecDepth 100000
set_option maxHeartbeats 1500000
/-! TkXD: dict(d) of numbers of bars; rules that hold in either of two ways. -/
namespace Rw
open PySem PySem.Spec PyProof.Rows L2
/-! ### hashes of bars -/
section
variable {P : Program} {w : World}
theorem bar_hash_nodup : ((barsL 7).map fun q => (tupleKind (mixKind P w)).hash (keyT q)).Nodup := by
  have e : ∀ q : Nat × Nat, (tupleKind (mixKind P w)).hash (keyT q) = reduceHash (Builtin.Tuple.tupleHashOf [hashInt ((q.1 : Nat) : Int), hashInt ((q.2 : Nat) : Int)]) := fun q => rfl
  simp only [e]
  decide +kernel
theorem nm_hash {n : Nat} {T : Nums} (n6 : n ≤ 6) (nd : (T.map (·.1)).Nodup) (ok : ∀ q ∈ T, q.1.1 ≤ q.1.2 ∧ q.1.2 ≤ n) : (T.map fun q => (tupleKind (mixKind P w)).hash (keyT q.1)).Nodup := by
  have inj : ∀ q r : Nat × Nat, q ∈ barsL 7 → r ∈ barsL 7 → (tupleKind (mixKind P w)).hash (keyT q) = (tupleKind (mixKind P w)).hash (keyT r) → q = r := fun q r hq hr e => by
    obtain ⟨i, hi, rfl⟩ := List.mem_iff_getElem.mp hq
    obtain ⟨j, hj, rfl⟩ := List.mem_iff_getElem.mp hr
    have nd2 := List.pairwise_iff_getElem.mp (bar_hash_nodup (P := P) (w := w))
    have key : ∀ i j (hi : i < (barsL 7).length) (hj : j < (barsL 7).length), i < j → (tupleKind (mixKind P w)).hash (keyT (barsL 7)[i]) ≠ (tupleKind (mixKind P w)).hash (keyT (barsL 7)[j]) := fun i j hi hj l => by
      have := nd2 i j (by simpa using hi) (by simpa using hj) l
      rw [List.getElem_map, List.getElem_map] at this
      exact this
    rcases Nat.lt_trichotomy i j with l | l | l
    · exact (key i j hi hj l e).elim
    · subst l; rfl
    · exact (key j i hj hi l e.symm).elim
  induction T with
  | nil => exact List.nodup_nil
  | cons q T ih =>
    rw [List.map_cons, List.nodup_cons] at nd ⊢
    have mem : ∀ r ∈ q :: T, r.1 ∈ barsL 7 := fun r hr => bars_all (by decide) (ok r hr).1 (by have := (ok r hr).2; omega)
    refine ⟨fun hin => nd.1 ?_, ih nd.2 fun r hr => ok r (List.mem_cons_of_mem _ hr)⟩
    obtain ⟨r, hr, e⟩ := List.mem_map.mp hin
    have := inj _ _ (mem r (List.mem_cons_of_mem _ hr)) (mem q List.mem_cons_self) e
    rw [← this]
    exact List.mem_map.mpr ⟨r, hr, rfl⟩
end
/-! ### dict(d) -/
section
variable {X : Cx}
theorem call_dictC (hu : X.A.units + 64 < cLine) : CallR X (.type "dict") (fun xs H Q => ∃ (d : Addr) (T : Nums) (n : Nat), xs = [.ref d] ∧ NumAt H d T ∧ n ≤ 6 ∧ (T.map (·.1)).Nodup ∧ (∀ q ∈ T, q.1.1 ≤ q.1.2 ∧ q.1.2 ≤ n) ∧ T.length ≤ 900 ∧
    ∀ p, H p = none → Q (.ref p) (upd H p (.dT (nmT T)))) := by
  intro pins s σ H xs us Q I r q
  obtain ⟨d, T, n, rfl, ⟨o0, hd⟩, n6, nd, ok, l9, q⟩ := q
  obtain ⟨u, rfl, rx⟩ := vals1 r
  cases (show u = Value.ref d from rx)
  have big := I.big
  refine callType_codes (Q₁ := fun obj s₁ => obj = .ref s.heap.objs.size ∧ s₁ = { s with heap := s.heap.push { cls := .type "dict", data := .dict #[] } }) F.kt_called_dict (F.kt_typeCall_dict_1 _) F.entry_dict_init (kt_code_dict_new _ ⟨rfl, rfl⟩) ?_
  rintro obj s₁ ⟨rfl, rfl⟩
  have hnew : (s.heap.push { cls := .type "dict", data := .dict #[] }).DictOfH (tupleKind (mixKind X.prog X.w)) s.heap.objs.size [] := Heap.DictOfH.new s.heap
  have keep : ∀ b ob, s.heap.get? b = some ob → (s.heap.push { cls := .type "dict", data := .dict #[] }).get? b = some ob := fun b ob z => Heap.get?_push_of_some _ z
  have hlow : d < s.heap.objs.size := by
    obtain ⟨_, _, xs, rel, dh⟩ := dt_rd I.hok (.inr ⟨o0, hd⟩)
    obtain ⟨_, _, _, hg, _⟩ := dh
    exact Heap.lt_size hg
  have I1 : Inv X pins σ H { s with heap := s.heap.push { cls := .type "dict", data := .dict #[] } } := Inv.kept I (t' := s.toks) keep
  obtain ⟨z, hS, xs, rel, dh⟩ := dt_rd I1.hok (.inr ⟨o0, hd⟩)
  have ex : xs.map (fun x => (tupleKind (mixKind X.prog X.w)).hash x.1) = T.map fun q => (tupleKind (mixKind X.prog X.w)).hash (keyT q.1) := by
    have : ∀ {T : Nums} {xs : List (List L2.Key × Addr × Value)}, KT H (nmT T) xs → xs.map (fun x => (tupleKind (mixKind X.prog X.w)).hash x.1) = T.map fun q => (tupleKind (mixKind X.prog X.w)).hash (keyT q.1) := by
      intro T
      induction T with
      | nil => intro xs k; cases k; rfl
      | cons q T ih =>
        intro xs k
        cases k with
        | cons h t => rw [List.map_cons, List.map_cons, ih t, ← h.1] <;> rfl
    exact this rel
  have lx : xs.length = T.length := by rw [← Paired.length rel]; unfold nmT; rw [List.length_map]
  have tys : ∀ x ∈ xs, ({ s with heap := s.heap.push { cls := .type "dict", data := .dict #[] } } : Shared).TypeIs (.ref x.2.1) "tuple" := fun x hx => by
    have : ∀ {l : List (List L2.Key × V)} {m : List (List L2.Key × Addr × Value)}, KT H l m → ∀ x ∈ m, ({ s with heap := s.heap.push { cls := .type "dict", data := .dict #[] } } : Shared).TypeIs (.ref x.2.1) "tuple" := by
      intro l m k
      induction k with
      | nil => intro x hx; exact nomatch hx
      | @cons p q ps qs hq t ih =>
        intro x hx
        rcases List.mem_cons.mp hx with e | hx
        · subst e
          obtain ⟨_, its, rv, o, e1, e2, _⟩ := (show ObjOk X.prog X.w H (s.heap.push { cls := .type "dict", data := .dict #[] }) x.2.1 (.tup (p.1.map kV)) from I1.hok _ _ hq.2.1)
          exact ⟨o, e1, e2⟩
        · exact ih x hx
    exact this rel x hx
  refine ⟨hnew.typeIs, F.args_dict_init_2 _ _, ?_⟩
  unfold Builtin.«dict.__init__»
  refine wpAny_bind ?_
  unfold Builtin.Dict.selfAndRest
  refine wpAny_bind (wpAny_notOrdered_dict hnew.typeIs ?_)
  show wpAny _ _ (pure (s.heap.objs.size, [Value.ref d])) _ _ _
  refine wpAny_pure ?_
  refine updateFrom_dictH .none (show X.A.units + 1 + 1 < cLine by omega) (Ne.symm (Nat.ne_of_lt hlow)) hS hnew dh (.inr ⟨tys, by rw [ex]; exact nm_hash n6 nd ok⟩) (by rw [lx]; show 0 + T.length ≤ sizeLine; exact Nat.le_trans (by omega : _ ≤ 900) (by decide)) fun h' hd' ho' sb => ?_
  rw [storedAllH_nil_of_nodup xs dh.nodup] at hd'
  refine ⟨rfl, .ref s.heap.objs.size, upd H s.heap.objs.size (.dT (nmT T)), I.laid (t' := s.toks) (fun b ob e => (sb.2 b (Nat.ne_of_lt (Heap.lt_size e))).trans (keep b ob e)) (Nat.le_refl _) ?_, rfl, q _ (I.hok.fresh (Nat.le_refl _))⟩
  obtain ⟨o, es, ep, h1, h2, h3, h4, _, h5⟩ := hd'
  refine ⟨z, beq_eq_false_iff_ne.mpr (Nat.ne_of_gt I.big), xs, KT.keeps rel fun c ys ec => ?_, o, es, ep, h1, h2, h3, h4, h5⟩
  rw [upd_ne (ne_of_none ec (I.hok.fresh (Nat.le_refl _)))]
  exact ec
end
end Rw

set_option Elab.async false
set_option linter.all false
set_option maxRecDepth 100000
set_option maxHeartbeats 1500000
set_option exponentiation.threshold 3000
/-! TkXE: what is no dict of numbers; keepers, alike_count, row_count with all that they refuse. -/
namespace Rw
open PySem PySem.Spec PyProof.Rows L2
/-! ### rules in either of two ways -/
theorem pi_or {X : Cx} {tg e : Expr} {a b : TI} (h1 : PI X tg e a) (h2 : PI X tg e b) : PI X tg e (fun σ H R => a σ H R ∨ b σ H R) :=
  ⟨fun pins s σ H R I h => h.elim (h1.run pins s σ H R I) (h2.run pins s σ H R I)⟩
theorem cr_or {X : Cx} {f : Value} {a b : List V → Hp → VK → Prop} (h1 : CallR X f a) (h2 : CallR X f b) : CallR X f (fun xs H Q => a xs H Q ∨ b xs H Q) :=
  fun pins s σ H xs us Q I r h => h.elim (h1 pins s σ H xs us Q I r) (h2 pins s σ H xs us Q I r)
theorem pe_or2 {X : Cx} {e : Expr} {a b : TE} (h1 : PE X e a) (h2 : PE X e b) : PE X e (fun σ H Q => a σ H Q ∨ b σ H Q) :=
  ⟨fun pins s σ H Q I h => h.elim (h1.run pins s σ H Q I) (h2.run pins s σ H Q I)⟩
theorem ps_or {X : Cx} {st : Stmt} {a b : TS} (h1 : PS X st a) (h2 : PS X st b) : PS X st (fun D σ H => a D σ H ∨ b D σ H) :=
  ⟨fun pins s σ H D I h => h.elim (h1.run pins s σ H D I) (h2.run pins s σ H D I)⟩
/-! ### no numbers -/
theorem kit_dic {K : PySem.W.Frag} (d : PyData) : PySem.W.kitOne K (.type (kindS d)) (.type "dict") = some (match d with | .dict _ => true | _ => false) := by
  cases d with
  | none => exact kit_ty (show kitB "NoneType" "dict" = some false by decide +kernel)
  | bool b => exact kit_ty (show kitB "bool" "dict" = some false by decide +kernel)
  | int i => exact kit_ty (show kitB "int" "dict" = some false by decide +kernel)
  | str x => exact kit_ty (show kitB "str" "dict" = some false by decide +kernel)
  | list xs => exact kit_ty (show kitB "list" "dict" = some false by decide +kernel)
  | tuple xs => exact kit_ty (show kitB "tuple" "dict" = some false by decide +kernel)
  | dict kvs => exact kit_ty (show kitB "dict" "dict" = some true by decide +kernel)
def notDic : PyData → Bool
  | .dict _ => false
  | _ => true
/-- one item of numbers of a pattern -/
def numItm (n : Nat) (q : PyData × PyData) : Bool := isBarD n q.1 && inB q.2 (.int 0) (.int 6)
/-- no numbers of a pattern with n arrows -/
def BadN (n : Nat) (H : Hp) (v : V) : Prop := (∃ d, Any H v d ∧ notDic d = true) ∨
  ∃ a its ks vs, v = .ref a ∧ DicO H a its ∧ AnyL H (its.map (·.1)) ks ∧ AnyL H (its.map (·.2)) vs ∧ (ks.zip vs).all (numItm n) = false
theorem BadN.keep {n : Nat} {H H' : Hp} {v : V} (h : BadN n H v) (k : Same H H') : BadN n H' v := by
  rcases h with ⟨d, an, e⟩ | ⟨a, its, ks, vs, e, hd, a1, a2, b⟩
  · exact .inl ⟨d, an.keep k, e⟩
  · exact .inr ⟨a, its, ks, vs, e, hd.keep k, anyL_keep k a1, anyL_keep k a2, b⟩
def spCNumsG (CN : Addr) : Sp := fun vs H Q E => (∃ x v, vs = [.str x, v] ∧ x.length ≤ 6 ∧ BadN x.length H v ∧ Thrown CN v H E) ∨ spCNumsT CN vs H Q E
def spLowSzG (CN CG : Addr) : Sp := fun vs H Q E => (∃ x v, vs = [.str x, v] ∧ x.length ≤ 6 ∧ BadN x.length H v ∧ Thrown CN v H E) ∨ spLowSzT CN CG vs H Q E
/-- numbers of a pattern; some place may be great -/
structure NumM (n : Nat) (M : Nums) : Prop where
  g : GoodB n M
  l : M.length ≤ 900
/-- what keepers, alike_count tell of or refuse: pattern, prime, numbers, a place, told -/
def AskD (v1 v2 v3 : V) (H : Hp) (qt qp qn : Prop) (qg : Int → Prop) (qk : Prop) : Prop := ∃ d1, Any H v1 d1 ∧ Short d1 ∧ ((isPatD d1 = false ∧ qt) ∨
  ∃ x d2, v1 = .str x ∧ Pat x 6 ∧ Any H v2 d2 ∧ ((isPr d2 = false ∧ qp) ∨
    ∃ p : Nat, v2 = .int ((p : Nat) : Int) ∧ PrN p ∧ ((BadN x.length H v3 ∧ qn) ∨
      ∃ d M, v3 = .ref d ∧ NumAt H d M ∧ NumM x.length M ∧ ((∀ i, i ≤ x.length → szN M i ≤ 6) → qk) ∧
        (∀ i, i ≤ x.length → 6 < szN M i → (∀ j, j < i → szN M j ≤ 6) → qg ((szN M i : Nat) : Int)))))
theorem AskD.imp {v1 v2 v3 : V} {H : Hp} {qt qp qn : Prop} {qg : Int → Prop} {qk qt' qp' qn' : Prop} {qg' : Int → Prop} {qk' : Prop} (h : AskD v1 v2 v3 H qt qp qn qg qk) (ht : qt → qt') (hp : qp → qp') (hn : qn → qn') (hg : ∀ k, qg k → qg' k) (hk : qk → qk') : AskD v1 v2 v3 H qt' qp' qn' qg' qk' := by
  obtain ⟨d1, an1, sh, h⟩ := h
  refine ⟨d1, an1, sh, ?_⟩
  rcases h with ⟨e1, q⟩ | ⟨x, d2, e, px, an2, h⟩
  · exact .inl ⟨e1, ht q⟩
  refine .inr ⟨x, d2, e, px, an2, ?_⟩
  rcases h with ⟨e2, q⟩ | ⟨p, ep, pp, h⟩
  · exact .inl ⟨e2, hp q⟩
  refine .inr ⟨p, ep, pp, ?_⟩
  rcases h with ⟨bad, q⟩ | ⟨d, M, ed, nd, nm, q1, q2⟩
  · exact .inl ⟨bad, hn q⟩
  · exact .inr ⟨d, M, ed, nd, nm, fun z => hk (q1 z), fun i a b c => hg _ (q2 i a b c)⟩
/-- what row_count refuses -/
def AskR (v1 v2 v3 : V) (H : Hp) (qt qp qz : Prop) : Prop := ∃ d1, Any H v1 d1 ∧ Short d1 ∧ ((isPatD d1 = false ∧ qt) ∨
  ∃ x d2, v1 = .str x ∧ Pat x 6 ∧ Any H v2 d2 ∧ ((isPr d2 = false ∧ qp) ∨
    ∃ p : Nat, v2 = .int ((p : Nat) : Int) ∧ PrN p ∧ ∃ d3, Any H v3 d3 ∧ (itemsD d3).length ≤ 1000 ∧ sizesOk x.length d3 = false ∧ qz))
theorem AskR.imp {v1 v2 v3 : V} {H : Hp} {qt qp qz qt' qp' qz' : Prop} (h : AskR v1 v2 v3 H qt qp qz) (ht : qt → qt') (hp : qp → qp') (hz : qz → qz') : AskR v1 v2 v3 H qt' qp' qz' := by
  obtain ⟨d1, an1, sh, h⟩ := h
  refine ⟨d1, an1, sh, ?_⟩
  rcases h with ⟨e1, q⟩ | ⟨x, d2, e, px, an2, h⟩
  · exact .inl ⟨e1, ht q⟩
  refine .inr ⟨x, d2, e, px, an2, ?_⟩
  rcases h with ⟨e2, q⟩ | ⟨p, ep, pp, d3, an3, i3, bad, q⟩
  · exact .inl ⟨e2, hp q⟩
  · exact .inr ⟨p, ep, pp, d3, an3, i3, bad, hz q⟩
def spAsk (CT CP CN CG : Addr) : Sp := fun vs H Q E => ∃ v1 v2 v3, vs = [v1, v2, v3] ∧ AskD v1 v2 v3 H (Thrown CT v1 H E) (Thrown CP v2 H E) (Thrown CN v3 H E) (fun k => Thrown CG (.int k) H E) (∀ (k : Int) H', Same H H' → Q (.int k) H')
def spAskR (CT CP CZ : Addr) : Sp := fun vs H Q E => ∃ v1 v2 v3, vs = [v1, v2, v3] ∧ AskR v1 v2 v3 H (Thrown CT v1 H E) (Thrown CP v2 H E) (Thrown CZ v3 H E)
/-- a new list -/
def Out (H : Hp) (Q : VK) (xs : List V) : Prop := ∀ l H', H l = none → Same H H' → H' l = some (.lst xs) → Q (.ref l) H'
/-- what the law's own way round them tells -/
def spCau : Sp := fun vs H Q _ => ∃ way v1 v2 v3, vs = [.int way, v1, v2, v3] ∧
  (((way = 0 ∨ way = 1) ∧ AskD v1 v2 v3 H (Out H Q [.str "pattern", v1]) (Out H Q [.str "prime", v2]) (Out H Q [.str "numbers", v3]) (fun k => Out H Q [.str "large", .int k]) (Out H Q [.str "told"])) ∨
   (way = 2 ∧ AskR v1 v2 v3 H (Out H Q [.str "pattern", v1]) (Out H Q [.str "prime", v2]) (Out H Q [.str "sizes", v3])))
end Rw

set_option Elab.async false
set_option linter.all false
set_option maxRecDepth 100000
set_option maxHeartbeats 1500000
/-! TkXM: list(g(..)) of a generator in a try's body; statements that are never reached. -/
namespace Rw
open PySem PySem.Spec PyProof.Rows L2
/-- what a try's body wishes for, of classes that end no iterator -/
def wNs (K : PySem.W.Frag) (W : WX) (σ : L2.St) : XK := fun cls d H' => PySem.W.subIn K cls (.type "StopIteration") = some false ∧ W cls d σ H'
def tListS (K : PySem.W.Frag) (sp : SpG) (dvs : List V) (W : WX) (t : TA) : TE := fun σ H Q => t σ H fun vs H1 => sp (vs ++ dvs) H1 (fun out H2 => ∀ p, H2 p = none → Q (.ref p) (upd H2 p (.lst out))) (wNs K W σ)
section
variable {X : Cx} {k : Nat} {f : Addr} {fd : FuncData} {ps : List Str} {sp : SpG} {dvs : List V} {ds : List Value} {x nm : Str} {p q pos pos' : Pos} {e : Expr} {es : List Expr} {t : TA}
theorem pe_listS {W : WX} (F : GFn X.prog X.w X.K X.mg X.base k f fd ps sp) (hr : Room (k + 3) X.A) (hx : ∀ σ, PassesAt (L2.CX X.prog X.w) X σ (fun cls d H' => W cls d σ H')) (hg : Gl X x) (hm : X.mg x = some (.ref f)) (hk : PySem.W.keepIn X.K (.ref f) = true) (hb : Binds X.K fd ps ds) (hd : Vals dvs ds) (ha : PA X (e :: es) t)
    (hgl : Gl X nm) (hmg : X.mg nm = none) (hv : bootBuiltins nm = some (.type "list")) (hdb : (x == ("__debug__" : Str)) = false := by decide) (he : starEach (e :: es) X.env = (false, eval e X.env) :: starEach es X.env := by rfl) (hpl : (backTo pos' (starEach es X.env)).any (·.1) = false := by rfl)
    (hnm : nm ≠ "__name__" := by decide) (hdb2 : (nm == ("__debug__" : Str)) = false := by decide)
    (he2 : starEach [Expr.Call (.Name x p) (e :: es) [] pos'] X.env = (false, eval (Expr.Call (.Name x p) (e :: es) [] pos') X.env) :: starEach [] X.env := by rfl) : PE X (.Call (.Name nm q) [.Call (.Name x p) (e :: es) [] pos'] [] pos) (tListS X.K sp dvs W t) := by
  refine ⟨fun pins s σ H Q I hq => ?_⟩
  have h : PGen X k (.Call (.Name x p) (e :: es) [] pos') (tCallG sp dvs (wNs X.K W σ) t) (wNs X.K W σ) := pgen_call F (hr.mono (by omega)) hg hm hk hb hd ha hdb he hpl
  refine wpAny_Call_Name_kw (ld_blt I hgl hmg hv ?_ hnm hdb2)
  refine PyProof.Rows.callWith_type1 ?_ he2 rfl
  rw [he2]
  show wpAny _ _ (spliced ((false, eval (Expr.Call (.Name x p) (e :: es) [] pos') X.env) :: backTo pos (starEach [] X.env))) _ _ s
  refine Calls.spliced_cons (thn (h.run pins s σ H _ I hq) fun u s1 ⟨H1, sc, ex, I1, hex, hG⟩ => ?_)
  refine Calls.spliced_nil ?_
  have hsz : sc.heap.objs.size ≤ s1.heap.objs.size := by
    obtain ⟨a, g, c, _, h1, h2, _⟩ := hG
    exact Nat.le_trans h1 (Nat.le_of_lt h2)
  refine call_list_new hr I1.ok.frames hG (fun S s' acc c H' ys q0 q1 q2 hl q3 q4 q5 q6 q7 q8 => ?_) fun e s' g hc => ?_
  · exact ⟨.ref S, upd H' S (.lst ys), I1.drained (Nat.le_trans hsz q0) hl q1 q2 hex q3 q4 q5 q6 q7, rfl, q8 S q7⟩
  · have kin : X.K.In s'.heap := by
      obtain ⟨a, B, H', cls, d, _, fl, _, ub, _⟩ := id hc
      refine I1.ok.mod.kin.keeps fun b o eb => fl.1 b o (ub.keep b o (I1.bs b o eb).1 (I1.bs b o eb).2 fun hm => ?_)
      rcases List.mem_cons.mp (I1.stkSub b hm) with z | z
      · have h1 := Heap.lt_size eb
        have h2 := Nat.le_trans I1.ok.bsz I1.ok.above
        rw [z] at h1
        exact absurd (Nat.lt_of_lt_of_le h1 h2) (Nat.lt_irrefl _)
      · exact I1.ok.nofr eb z
    refine ⟨notStop_of (fun cls d H' z => z.1) kin hc, hx σ pins H1 sc e _ I1 ?_⟩
    obtain ⟨a, B, H', cls, d, z1, fl, z2, ub, z3, z4, z5, z6⟩ := hc
    exact ⟨a, B, H', cls, d, z1, fl, z2, ub, z3, z4, allBare_setGen z5 rfl, z6.2⟩
/-- what is never reached is right -/
theorem gss_never {rest : List Stmt} : GSs X rest (fun _ _ _ _ => False) := by
  constructor
  intros
  exact False.elim ‹False›
theorem pss_never {rest : List Stmt} : PSs X rest (fun _ _ _ => False) := ⟨fun _ _ _ _ _ _ h => h.elim⟩
end
end Rw

set_option Elab.async false
set_option linter.all false
set_option maxRecDepth 100000
set_option maxHeartbeats 1500000
/-! TkXN: refusals step by step: pattern, prime, numbers, arrow, size. -/
namespace Rw
open PySem PySem.Spec PyProof.Rows L2
def StT (v : V) (H : Hp) (qt : Prop) (k : Str → Prop) : Prop := ∃ d, Any H v d ∧ Short d ∧ ((isPatD d = false ∧ qt) ∨ ∃ x, v = .str x ∧ Pat x 6 ∧ k x)
def StP (v : V) (H : Hp) (qp : Prop) (k : Nat → Prop) : Prop := ∃ d, Any H v d ∧ ((isPr d = false ∧ qp) ∨ ∃ p : Nat, v = .int ((p : Nat) : Int) ∧ PrN p ∧ k p)
def StN (n : Nat) (v : V) (H : Hp) (qn : Prop) (qg : Int → Prop) (k : Addr → Nums → Prop) : Prop := (BadN n H v ∧ qn) ∨
  ∃ d M, v = .ref d ∧ NumAt H d M ∧ NumM n M ∧ ((∀ i, i ≤ n → szN M i ≤ 6) → k d M) ∧ (∀ i, i ≤ n → 6 < szN M i → (∀ j, j < i → szN M j ≤ 6) → qg ((szN M i : Nat) : Int))
def StA (n : Nat) (v : V) (H : Hp) (qw : Prop) (qg : Int → Prop) (k : Prop) : Prop := ∃ d, Any H v d ∧ ((isArD d = false ∧ qw) ∨ (isArD d = true ∧ n = 6 ∧ qg 7) ∨ (isArD d = true ∧ n < 6 ∧ k))
def StS (v : V) (H : Hp) (qs : Prop) : Prop := ∃ d, Any H v d ∧ isSzD d = false ∧ qs
theorem StT.imp {v : V} {H : Hp} {qt qt' : Prop} {k k' : Str → Prop} (h : StT v H qt k) (a : qt → qt') (b : ∀ x, k x → k' x) : StT v H qt' k' := by
  obtain ⟨d, an, sh, h | ⟨x, e, px, q⟩⟩ := h
  · exact ⟨d, an, sh, .inl ⟨h.1, a h.2⟩⟩
  · exact ⟨d, an, sh, .inr ⟨x, e, px, b x q⟩⟩
theorem StP.imp {v : V} {H : Hp} {qt qt' : Prop} {k k' : Nat → Prop} (h : StP v H qt k) (a : qt → qt') (b : ∀ x, k x → k' x) : StP v H qt' k' := by
  obtain ⟨d, an, h | ⟨x, e, px, q⟩⟩ := h
  · exact ⟨d, an, .inl ⟨h.1, a h.2⟩⟩
  · exact ⟨d, an, .inr ⟨x, e, px, b x q⟩⟩
theorem StN.imp {n : Nat} {v : V} {H : Hp} {qn qn' : Prop} {qg qg' : Int → Prop} {k k' : Addr → Nums → Prop} (h : StN n v H qn qg k) (a : qn → qn') (g : ∀ i, qg i → qg' i) (b : ∀ d M, k d M → k' d M) : StN n v H qn' qg' k' := by
  rcases h with h | ⟨d, M, e, nd, nm, q1, q2⟩
  · exact .inl ⟨h.1, a h.2⟩
  · exact .inr ⟨d, M, e, nd, nm, fun z => b _ _ (q1 z), fun i x y z => g _ (q2 i x y z)⟩
theorem StA.imp {n : Nat} {v : V} {H : Hp} {qw qw' : Prop} {qg qg' : Int → Prop} {k k' : Prop} (h : StA n v H qw qg k) (a : qw → qw') (g : ∀ i, qg i → qg' i) (b : k → k') : StA n v H qw' qg' k' := by
  obtain ⟨d, an, h | h | h⟩ := h
  · exact ⟨d, an, .inl ⟨h.1, a h.2⟩⟩
  · exact ⟨d, an, .inr (.inl ⟨h.1, h.2.1, g _ h.2.2⟩)⟩
  · exact ⟨d, an, .inr (.inr ⟨h.1, h.2.1, b h.2.2⟩)⟩
theorem StS.imp {v : V} {H : Hp} {q q' : Prop} (h : StS v H q) (a : q → q') : StS v H q' := by
  obtain ⟨d, an, e, h⟩ := h
  exact ⟨d, an, e, a h⟩
/-- what numbers_after refuses, iterated over -/
def AskG (v1 v2 v3 v4 : V) (H : Hp) (qt qn qw qs : Prop) (qg : Int → Prop) : Prop := StT v1 H qt fun x => StN x.length v2 H qn qg fun _ _ => StA x.length v3 H qw qg (StS v4 H qs)
theorem AskG.imp {v1 v2 v3 v4 : V} {H : Hp} {qt qn qw qs qt' qn' qw' qs' : Prop} {qg qg' : Int → Prop} (h : AskG v1 v2 v3 v4 H qt qn qw qs qg) (a : qt → qt') (b : qn → qn') (c : qw → qw') (d : qs → qs') (g : ∀ k, qg k → qg' k) : AskG v1 v2 v3 v4 H qt' qn' qw' qs' qg' :=
  StT.imp h a fun _ h => StN.imp h b g fun _ _ h => StA.imp h c g fun h => StS.imp h d
def spAfter (CT CN CW CG CZ : Addr) : SpG := fun vs H _ E => ∃ v1 v2 v3 v4, vs = [v1, v2, v3, v4] ∧ AskG v1 v2 v3 v4 H (Thrown CT v1 H E) (Thrown CN v2 H E) (Thrown CW v3 H E) (Thrown CZ v4 H E) (fun k => Thrown CG (.int k) H E)
end Rw

set_option Elab.async false
set_option linter.all false
set_option maxRecDepth 100000
set_option maxHeartbeats 1500000
set_option exponentiation.threshold 3000
/-! TkXO: ways behind one map more over a row with no bars: promises of what is asked there. -/
namespace Rw
open PySem PySem.Spec PyProof.Rows L2
/-- no number at a bar -/
def Nil0 (T : Nums) (n : Nat) : Prop := ∀ b e, b ≤ e → b ≤ n → e ≤ n + 1 → getN T (b, e) = 0
def spReach0 : Sp := fun vs H Q _ => ∃ (d : Addr) (T : Nums) (n m : Nat), vs = [.ref d, .int ((n : Nat) : Int), .int ((m : Nat) : Int)] ∧ n ≤ 6 ∧ NumAt H d T ∧ (∀ b, b ≤ n → getN T (b, m) = 0) ∧
  ∀ l H', H l = none → Same H H' → H' l = some (.lst (List.replicate (n + 1) (.int 0))) → Q (.ref l) H'
def spBegins0 : Sp := fun vs H Q _ => ∃ (x : Str) (d d2 : Addr) (M T : Nums), vs = [.str x, .ref d, .ref d2] ∧ Pat x 6 ∧ NumAt H d M ∧ NumAt H d2 T ∧ Nil0 T x.length ∧ ∀ H', Same H H' → Q (.bl ((barsL (x.length + 1)).all fun q => getN M q == 0)) H'
def spBirths0 : Sp := fun vs H Q _ => ∃ (x : Str), vs = [.str x, .int ((x.length : Nat) : Int)] ∧ Pat x 6 ∧ ∀ l (ks : List Int) H', H l = none → Same H H' → H' l = some (.lst (ks.map V.int)) → ks.length = x.length + 1 → (∀ k ∈ ks, 0 ≤ k ∧ k ≤ ((x.length : Nat) : Int)) → Q (.ref l) H'
def spPlace0 : Sp := fun vs H Q _ => ∃ (x : Str), vs = [.str x, .int ((x.length : Nat) : Int)] ∧ Pat x 6 ∧ ∀ H', Same H H' → Q .non H'
def spSpaces0 : Sp := fun vs H Q _ => ∃ p : Nat, vs = [.int ((p : Nat) : Int), .int 0, .int 0] ∧ 2 ≤ p ∧ p ≤ 13 ∧ Q (.int 1) H
def spPos0 : Sp := fun vs H Q _ => ∃ (p m : Nat) (a b : Addr), vs = [.int ((p : Nat) : Int), .ref a, .ref b] ∧ 2 ≤ p ∧ p ≤ 13 ∧ m ≤ 7 ∧ H a = some (.lst (List.replicate m (.int 0))) ∧ H b = some (.lst (List.replicate m (.int 0))) ∧ ∀ H', Same H H' → Q (.int 1) H'
/-- what ways_after refuses, and where it tells nothing of note -/
def AskW (v1 v2 v3 v4 v5 : V) (H : Hp) (qt qp qn qw qm : Prop) (qg : Int → Prop) (qk : Prop) : Prop := StT v1 H qt fun x => StP v2 H qp fun _ => StN x.length v3 H qn qg fun _ _ => StA x.length v4 H qw qg (StN (x.length + 1) v5 H qm qg fun _ T => Nil0 T x.length ∧ qk)
theorem AskW.imp {v1 v2 v3 v4 v5 : V} {H : Hp} {qt qp qn qw qm qt' qp' qn' qw' qm' : Prop} {qg qg' : Int → Prop} {qk qk' : Prop} (h : AskW v1 v2 v3 v4 v5 H qt qp qn qw qm qg qk) (a : qt → qt') (b : qp → qp') (c : qn → qn') (d : qw → qw') (e : qm → qm') (g : ∀ k, qg k → qg' k) (l : qk → qk') :
    AskW v1 v2 v3 v4 v5 H qt' qp' qn' qw' qm' qg' qk' := StT.imp h a fun _ h => StP.imp h b fun _ h => StN.imp h c g fun _ _ h => StA.imp h d g fun h => StN.imp h e g fun _ _ h => ⟨h.1, l h.2⟩
def spWays (CT CP CN CW CG : Addr) : Sp := fun vs H Q E => ∃ v1 v2 v3 v4 v5, vs = [v1, v2, v3, v4, v5] ∧ AskW v1 v2 v3 v4 v5 H (Thrown CT v1 H E) (Thrown CP v2 H E) (Thrown CN v3 H E) (Thrown CW v4 H E) (Thrown CN v5 H E) (fun k => Thrown CG (.int k) H E) (∀ (k : Int) H', Same H H' → Q (.int k) H')
end Rw

set_option Elab.async false
set_option linter.all false
set_option maxRecDepth 100000
set_option maxHeartbeats 4000000
set_option exponentiation.threshold 3000
/-! K53C: the program: counts, bars, births, places. -/
namespace K53
open PySem PySem.Spec PyProof.Rows L2 Rw
abbrev sPow : Stmt := top 1
abbrev NPow : List Str := ["base", "times", "total", "_"]
theorem scPow : FnScope NPow ["base", "times"] (defScope sPow) := ⟨rfl, rfl, rfl, by decide +kernel, rfl, by decide +kernel, by decide +kernel⟩
abbrev sInd : Stmt := top 2
abbrev NInd : List Str := ["prime", "many", "length", "count", "ahead"]
theorem scInd : FnScope NInd ["prime", "many", "length"] (defScope sInd) := ⟨rfl, rfl, rfl, by decide +kernel, rfl, by decide +kernel, by decide +kernel⟩
abbrev sSpaces : Stmt := top 3
theorem scSpaces : FnScope ["prime", "dimension", "whole"] ["prime", "dimension", "whole"] (defScope sSpaces) := ⟨rfl, rfl, rfl, by decide +kernel, rfl, by decide +kernel, by decide +kernel⟩
abbrev sBars : Stmt := top 24
abbrev NBars : List Str := ["pattern", "places", "first", "last"]
theorem scBars : FnScope NBars ["pattern"] (defScope sBars) := ⟨rfl, rfl, rfl, by decide +kernel, rfl, by decide +kernel, by decide +kernel⟩
abbrev sBirths : Stmt := top 31
abbrev NBirths : List Str := ["pattern", "place", "order", "newer"]
theorem scBirths : FnScope NBirths ["pattern", "place"] (defScope sBirths) := ⟨rfl, rfl, rfl, by decide +kernel, rfl, by decide +kernel, by decide +kernel⟩
abbrev sPlace : Stmt := top 32
theorem scPlace : FnScope ["pattern", "place"] ["pattern", "place"] (defScope sPlace) := ⟨rfl, rfl, rfl, by decide +kernel, rfl, by decide +kernel, by decide +kernel⟩
section
variable {P : Program} {w : World} {K : PySem.W.Frag} {mg : Str → Option Value} {base : Heap} {aI aT CP CT CZ CN CG CL : Addr} {kI : List (Int × Value)} {kT : List (Str × Value)}
theorem okPow {f : Addr} {fd : FuncData} (F : Fun K "power" "power" sPow f fd) (zr : mg "range" = none) : FnOk P w K mg base CX0 1 f fd ["base", "times"] spPower := by
  refine F.ok scPow (fun vs H Q E h => ?_) (fun cdv A outer s H vs Q E hr h => ?_)
  · obtain ⟨p, n, rfl, _⟩ := h
    rfl
  · obtain ⟨p, n, rfl, lp, ln, q⟩ := h
    refine ⟨_, (pss_cons (ps_set (i := 2) scPow.nd rfl (Or.inl rfl) pe_int)
      (pss_cons (ps_for PassesOwn.never rfl (pi_range1 rfl zr (pa_cons (pv 1) pa_nil)) (pg_name (i := 3) scPow.nd rfl (Or.inl rfl)) (pss_one (ps_set (i := 2) scPow.nd rfl (Or.inl rfl) (pe_op op_mul (pv 2) (pv 0)))))
      (pss_one (ps_ret (pv 2))))), ?_⟩
    refine ⟨_, rfl, _, rfl, by omega, by omega, ?_⟩
    rw [show ((n : Nat) : Int).toNat = n by omega]
    refine for_range (lo := 0) (n := n) (fun i σ' H' => (∃ y, σ' = [some (.int ((p : Nat) : Int)), some (.int ((n : Nat) : Int)), some (.int ((p ^ i : Nat) : Int)), y]) ∧ H' = H) ⟨⟨_, by rw [Nat.pow_zero] <;> rfl⟩, rfl⟩ ?_ ?_
    · rintro i σ' H1 hi ⟨⟨y, rfl⟩, rfl⟩
      have e : ((p ^ (i + 1) : Nat) : Int) = ((p ^ i : Nat) : Int) * ((p : Nat) : Int) := by rw [Nat.pow_succ, Int.natCast_mul]
      rw [e]
      exact ⟨_, rfl, _, rfl, _, _, rfl, rfl, .inr ⟨by omega, by omega⟩, ⟨_, rfl⟩, rfl⟩
    · rintro σ' H1 ⟨⟨y, rfl⟩, rfl⟩
      exact ⟨_, rfl, q⟩
theorem okInd {f : Addr} {fd : FuncData} (F : Fun K "independent_lists" "independent_lists" sInd f fd) (zr : mg "range" = none) (GP : Own P w K mg base CX0 1 "power" ["base", "times"] [] spPower) : FnOk P w K mg base CX0 2 f fd ["prime", "many", "length"] spIndep := by
  refine F.ok scInd (fun vs H Q E h => ?_) (fun cdv A outer s H vs Q E hr h => ?_)
  · obtain ⟨p, m, l, rfl, _⟩ := h
    rfl
  · obtain ⟨p, m, l, rfl, p2, p13, ml, l6, q⟩ := h
    refine ⟨_, (pss_cons (ps_set (i := 3) scInd.nd rfl (Or.inl rfl) pe_int)
      (pss_cons (ps_for PassesOwn.never rfl (pi_range1 rfl zr (pa_cons (pv 1) pa_nil)) (pg_name (i := 4) scInd.nd rfl (Or.inl rfl)) (pss_one (ps_set (i := 3) scInd.nd rfl (Or.inl rfl) (pe_op op_mulW (pv 3) (pe_op op_sub (pe_own GP hr pass0 (pa_cons (pv 0) (pa_cons (pv 2) pa_nil))) (pe_own GP hr pass0 (pa_cons (pv 0) (pa_cons (pv 4) pa_nil))))))))
      (pss_one (ps_ret (pv 3))))), ?_⟩
    refine ⟨_, rfl, _, rfl, by omega, by omega, ?_⟩
    rw [show ((m : Nat) : Int).toNat = m by omega]
    refine for_range (lo := 0) (n := m) (fun i σ' H' => (∃ y, σ' = [some (.int ((p : Nat) : Int)), some (.int ((m : Nat) : Int)), some (.int ((l : Nat) : Int)), some (.int ((indep p i l : Nat) : Int)), y]) ∧ H' = H) ⟨⟨_, rfl⟩, rfl⟩ ?_ ?_
    · rintro i σ' H1 hi ⟨⟨y, rfl⟩, rfl⟩
      rw [show (0 + (i : Int)) = ((i : Nat) : Int) by omega]
      have lt := pow_lt (p := p) p2 (show i < l by omega)
      refine ⟨_, rfl, _, rfl, _, rfl, p, l, rfl, p13, by omega, _, rfl, _, rfl, p, i, rfl, p13, by omega, _, _, rfl, rfl, ?_⟩
      have e : ((p ^ l : Nat) : Int) - ((p ^ i : Nat) : Int) = ((p ^ l - p ^ i : Nat) : Int) := by omega
      have e2 : ((indep p (i + 1) l : Nat) : Int) = ((indep p i l : Nat) : Int) * ((p ^ l - p ^ i : Nat) : Int) := by rw [indep_succ, Int.natCast_mul]
      dsimp only
      rw [e, e2]
      refine ⟨_, _, rfl, rfl, ?_, ⟨_, rfl⟩, rfl⟩
      · refine nat_wide (m := 145) (n := 24) (indep_lt2 (by omega) (by omega) l6) ?_ (by decide) (by decide) (by decide)
        have h1 : p ^ l < 16 ^ 6 := Nat.lt_of_lt_of_le (Nat.pow_lt_pow_left (show p < 16 by omega) (by omega)) (Nat.pow_le_pow_right (by decide) l6)
        have h2 : (16 ^ 6 : Nat) = 2 ^ 24 := by decide
        omega
    · rintro σ' H1 ⟨⟨y, rfl⟩, rfl⟩
      exact ⟨_, rfl, q⟩
theorem okSpaces {f : Addr} {fd : FuncData} (F : Fun K "spaces_within" "spaces_within" sSpaces f fd) (GI : Own P w K mg base CX0 2 "independent_lists" ["prime", "many", "length"] [] spIndep) : FnOk P w K mg base CX0 3 f fd ["prime", "dimension", "whole"] spSpaces0 := by
  refine F.ok scSpaces (fun vs H Q E h => ?_) (fun cdv A outer s H vs Q E hr h => ?_)
  · obtain ⟨p, rfl, _⟩ := h
    rfl
  · obtain ⟨p, rfl, p2, p13, q⟩ := h
    refine ⟨_, (pss_one (ps_ret (pe_op op_fdivW (pe_own GI hr pass0 (pa_cons (pv 0) (pa_cons (pv 1) (pa_cons (pv 2) pa_nil)))) (pe_own GI hr pass0 (pa_cons (pv 0) (pa_cons (pv 1) (pa_cons (pv 1) pa_nil))))))), ?_⟩
    exact ⟨_, rfl, _, rfl, _, rfl, p, 0, 0, rfl, p2, p13, Nat.le_refl _, by decide, _, rfl, _, rfl, _, rfl, p, 0, 0, rfl, p2, p13, Nat.le_refl _, by decide, _, _, rfl, rfl, nat_div (n := 10) (show 0 < indep p 0 0 from (by decide : (0 : Nat) < 1)) (show indep p 0 0 < 2 ^ 10 from (by decide : (1 : Nat) < 2 ^ 10)) (by decide) (by decide), by
      show Q (.int (((indep p 0 0 : Nat) : Int) / ((indep p 0 0 : Nat) : Int))) H
      rw [show indep p 0 0 = 1 from rfl]
      exact q⟩
theorem okPlace {f : Addr} {fd : FuncData} (F : Fun K "_check_place" "_check_place" sPlace f fd) (T : Txt K w mg aI aT CP CT CZ CN CG kI kT) (eL : Err K mg "InvalidPlace" CL) (GT : Own P w K mg base (L2.CX P w) 4 "check_pattern" ["pattern"] [] (spCPat CT)) (GI : Own P w K mg base CX0 2 "is_integer" ["value", "low", "high"] [] spInt) :
    FnOk P w K mg base (L2.CX P w) 5 f fd ["pattern", "place"] spPlace0 := by
  refine F.okX scPlace (fun vs H Q E h => ?_) (fun cdv A outer s H vs Q E hr h => ?_)
  · obtain ⟨x, rfl, _⟩ := h
    rfl
  · obtain ⟨x, rfl, px, q⟩ := h
    refine ⟨_, (pss_cons (ps_expr (pe_own (E := E) GT (hr.mono (by decide)) (passes_call (takes_of rfl rfl rfl rfl) (fun _ _ _ _ z => z)) (pa_cons (pv 0) pa_nil)))
      (pss_one (ps_if (pt_not (pt_val (pe_own GI (hr.mono (by decide)) pass0 (pa_cons (pv 1) (pa_cons pe_int (pa_cons (pe_callB call_len_str (by rfl) T.len (by decide +kernel) (pa_cons (pv 0) pa_nil)) pa_nil)))))) (pss_one (ps_throw eL rfl (hr.mono (by decide)) (takes_of rfl rfl rfl rfl) (pv 1))) pss_nil))), ?_⟩
    refine ⟨_, rfl, .str x, .str x, rfl, .str x, (fun y e => by cases e; exact Nat.le_trans px.l (by decide)), fun _ H1 k1 => ?_, fun e => by rw [isPat_of px] at e; cases e⟩
    refine ⟨_, rfl, _, rfl, x, rfl, Nat.le_trans px.l (by decide), _, _, _, _, _, _, rfl, .int _, .int _, .int _, _, rfl, ?_⟩
    rw [show inB (.int ((x.length : Nat) : Int)) (.int 0) (.int ((x.length : Nat) : Int)) = true from inB_yes (by omega) (by omega)]
    exact iteF (q _ k1)
theorem okBars {f : Addr} {fd : FuncData} (F : Fun K "bars" "bars" sBars f fd) (T : Txt K w mg aI aT CP CT CZ CN CG kI kT) (GT : Own P w K mg base (L2.CX P w) 4 "check_pattern" ["pattern"] [] (spCPat CT)) : FnOk P w K mg base (L2.CX P w) 5 f fd ["pattern"] (spBars CT) := by
  refine F.okX scBars (fun vs H Q E h => ?_) (fun cdv A outer s H vs Q E hr h => ?_)
  · obtain ⟨v, d, rfl, _⟩ := h
    rfl
  · obtain ⟨v, d, rfl, an, sh, xf, q⟩ := h
    refine ⟨_, (pss_cons (ps_expr (pe_own (E := E) GT (hr.mono (by decide)) (passes_call (takes_of rfl rfl rfl rfl) (fun _ _ _ _ z => z)) (pa_cons (pv 0) pa_nil)))
      (pss_cons (ps_set (i := 1) scBars.nd rfl (Or.inr rfl) (pe_callTy cr_range1 (by rfl) T.range boot_range (pa_cons (pe_op op_add (pe_callB call_len_str (by rfl) T.len (by decide +kernel) (pa_cons (pv 0) pa_nil)) pe_int) pa_nil)))
      (pss_one (ps_ret (pe_lc2 (own := [("first", 2), ("last", 3)]) (g := gName 2) (tt := tYes) (g1 := gName 3) (vs1 := [3]) rfl scBars.nd (pi_rngV (pv 1)) (blkOk_by (N := NBars) (sc := defScope sBars) (by decide +kernel)) (by decide) (fun _ _ _ _ _ => (pg_name (i := 2) scBars.nd rfl (Or.inl rfl))) (fun _ _ _ _ _ => pts_nil) (fun _ _ _ _ _ => (pi_rngV (pv 1))) (fun _ _ _ _ _ => (pg_name (i := 3) scBars.nd rfl (Or.inl rfl))) (fun _ _ _ _ _ => pts_one (pt_cmpR op_le (pv 2) (pv 3) (nomark _))) (fun _ _ _ _ _ => (pe_tup (pa_cons (pv 2) (pa_cons (pv 3) pa_nil))))))))), ?_⟩
    refine ⟨_, rfl, v, d, rfl, an, sh, fun ep H1 k1 => ?_, xf⟩
    obtain ⟨x, rfl⟩ : ∃ x, d = .str x := by
      cases d with
      | str x => exact ⟨x, rfl⟩
      | _ => cases ep
    cases an
    have lx : x.length ≤ 6 := by
      have h1 : (decide (x.length ≤ 6) && x.cps.toList.all isArr) = true := ep
      rw [Bool.and_eq_true] at h1
      exact of_decide_eq_true h1.1
    refine ⟨_, rfl, x, rfl, Nat.le_trans lx (by decide), _, _, rfl, rfl, _, rfl, fun r hr1 => ?_⟩
    have k2 := k1.trans (same_new (o := .rng 0 ((x.length : Int) + 1)) hr1)
    have er : (upd H1 r (.rng 0 ((x.length : Int) + 1))) r = some (.rng 0 ((x.length : Int) + 1)) := upd_same
    generalize upd H1 r (.rng 0 ((x.length : Int) + 1)) = H2 at k2 er ⊢
    have en : (((x.length : Int) + 1) - 0).toNat = x.length + 1 := by omega
    refine ⟨_, rfl, r, _, _, rfl, er, ⟨by decide, by decide, by omega, by omega⟩, fun D hD => ?_⟩
    rw [en]
    have hn : x.length + 1 ≤ 7 := by omega
    generalize hN : x.length + 1 = n at hn ⊢
    refine ⟨fun i m H' => m = n - i ∧ i ≤ n ∧ Same H2 H' ∧ ∃ acc, H' D = some (.lst acc) ∧ AnyL (del H' D) acc ((preL n i).map barD), ⟨n, by simp, Nat.zero_le _, same_new hD, [], upd_same, .nil⟩, ?_⟩
    rintro i m H3 ⟨rfl, hi, k3, acc, ha, al⟩
    by_cases hlt : i < n
    · refine .inr ⟨hlt, fun H' => (i + 1 ≤ n) ∧ Same H2 H' ∧ ∃ acc, H' D = some (.lst acc) ∧ AnyL (del H' D) acc ((preL n (i + 1)).map barD), fun H' z => ⟨n - (i + 1), by omega, rfl, z⟩, ?_⟩
      rintro y H4 ⟨rfl, rfl⟩
      refine ⟨rfl, ?_⟩
      unfold tYes
      refine Eq.mpr (if_pos (rfl : true = true)) ?_
      refine ⟨_, rfl, r, _, _, rfl, k3 _ _ er, ⟨by decide, by decide, by omega, by omega⟩, ?_⟩
      rw [en, hN]
      refine ⟨fun j k H' => k = n - j ∧ j ≤ n ∧ Same H2 H' ∧ ∃ acc, H' D = some (.lst acc) ∧ AnyL (del H' D) acc ((preL n i ++ partL i j).map barD), ⟨n, by simp, Nat.zero_le _, k3, acc, ha, by simpa [partL] using al⟩, ?_⟩
      rintro j k H5 ⟨rfl, hj, k5, acc5, ha5, al5⟩
      by_cases hlt2 : j < n
      · refine .inr ⟨hlt2, fun H' => (j + 1 ≤ n) ∧ Same H2 H' ∧ ∃ acc, H' D = some (.lst acc) ∧ AnyL (del H' D) acc ((preL n i ++ partL i (j + 1)).map barD), fun H' z => ⟨n - (j + 1), by omega, rfl, z⟩, ?_⟩
        rintro y H6 ⟨rfl, rfl⟩
        refine ⟨rfl, ?_⟩
        refine ⟨_, rfl, _, rfl, _, _, rfl, rfl, _, rfl, ?_⟩
        refine ite2 (fun z => ?_) (fun z => ?_)
        · have z2 : i ≤ j := by
            have := of_decide_eq_true z
            omega
          refine ⟨_, rfl, _, rfl, (by show 2 ≤ sizeLine; decide), fun t ht => ?_⟩
          have h5 := same_new (o := .tup [.int (0 + (i : Int)), .int (0 + (j : Int))]) ht _ _ ha5
          have lb : acc5.length ≤ 100 := by
            rw [anyL_len al5, List.length_map, List.length_append]
            have h1 := pre_len n i
            have h2 := part_len i j
            have h3 : i * n ≤ 7 * 7 := Nat.mul_le_mul (by omega) hn
            omega
          refine ⟨acc5, h5, Nat.lt_of_le_of_lt lb (by decide), by omega, fun b o e => ?_, acc5 ++ [.ref t], upd_same, ?_⟩
          · have ne : b ≠ D := ne_of_none e hD
            rw [upd_ne ne]
            exact same_new ht _ _ (k5 _ _ e)
          · rw [del_upd, part_succ, if_pos z2, ← List.append_assoc, List.map_append]
            refine anyL_snoc (anyL_keep (del_new ht) al5) (any_noL h5 _ _ (.tup upd_same ?_) rfl)
            have e1 : (0 + (i : Int)) = ((i : Nat) : Int) := by omega
            have e2 : (0 + (j : Int)) = ((j : Nat) : Int) := by omega
            rw [e1, e2]
            exact .cons (.int _) (.cons (.int _) .nil)
        · have z2 : ¬ i ≤ j := fun y => z (decide_eq_true (by omega))
          refine ⟨by omega, k5, acc5, ha5, ?_⟩
          rw [part_succ, if_neg z2]
          exact al5
      · have ej : j = n := by omega
        subst ej
        refine .inl ⟨Nat.le_refl _, by omega, k5, acc5, ha5, ?_⟩
        rw [pre_succ]
        exact al5
    · have ei : i = n := by omega
      subst ei
      refine .inl ⟨Nat.le_refl _, q x rfl ep D acc H3 (k2.free hD) (k2.trans k3) ha ?_⟩
      rw [hN]
      exact al
theorem okBirths {f : Addr} {fd : FuncData} (F : Fun K "births" "births" sBirths f fd) (T : Txt K w mg aI aT CP CT CZ CN CG kI kT) (GP : Own P w K mg base (L2.CX P w) 5 "_check_place" ["pattern", "place"] [] spPlace0) : FnOk P w K mg base (L2.CX P w) 6 f fd ["pattern", "place"] spBirths0 := by
  refine F.okX scBirths (fun vs H Q E h => ?_) (fun cdv A outer s H vs Q E hr h => ?_)
  · obtain ⟨x, rfl, _⟩ := h
    rfl
  · obtain ⟨x, rfl, px, q⟩ := h
    have lx := px.l
    refine ⟨_, (pss_cons (ps_expr (pe_own (E := E) GP (hr.mono (by decide)) (passes_call (takes_of rfl rfl rfl rfl) (fun _ _ _ _ z => z)) (pa_cons (pv 0) (pa_cons (pv 1) pa_nil))))
      (pss_cons (ps_set (i := 2) scBirths.nd rfl (Or.inl rfl) (pe_lst (pa_cons pe_int pa_nil)))
      (pss_cons (ps_for (passes_of rfl) rfl (pi_range2 rfl T.range (pa_cons pe_int (pa_cons (pe_op op_add (pv 1) pe_int) pa_nil))) (pg_name (i := 3) scBirths.nd rfl (Or.inl rfl)) (pss_one (ps_set (i := 2) scBirths.nd rfl (Or.inl rfl) (pe_ifExp (pt_cmpR op_eq (pe_ix ix_str (pv 0) (pe_op op_sub (pv 3) pe_int) (fun _ _ => rfl)) pe_str (nomark _)) (pe_op op_cat (pv 2) (pe_lst (pa_cons (pv 3) pa_nil))) (pe_op op_cat (pe_lst (pa_cons (pv 3) pa_nil)) (pv 2))))))
      (pss_one (ps_ret (pv 2)))))), ?_⟩
    refine ⟨_, rfl, _, rfl, x, rfl, px, fun H1 k1 => ⟨by show 1 ≤ sizeLine; decide, fun l0 hl0 => ?_⟩⟩
    have lz : x.length ≤ sizeLine := Nat.le_trans lx (by decide)
    have kl := same_new (o := .lst [.int 0]) hl0
    have hlH : H l0 = none := k1.free hl0
    have el0 := upd_same (H := H1) (a := l0) (o := .lst [.int 0])
    have k2 := k1.trans kl
    generalize upd H1 l0 (.lst [.int 0]) = H2 at kl el0 k2 ⊢
    refine ⟨_, rfl, _, _, rfl, rfl, (1 : Int), _, rfl, ⟨by decide, by decide, by omega, by omega⟩, ?_⟩
    rw [show (((x.length : Nat) : Int) + 1 - 1).toNat = x.length by omega]
    refine for_range (lo := 1) (n := x.length) (fun i σ' H' => ∃ (l : Addr) (ks : List Int) (y3 : Option V), σ' = [some (.str x), some (.int ((x.length : Nat) : Int)), some (.ref l), y3] ∧ Same H H' ∧ H l = none ∧ H' l = some (.lst (ks.map V.int)) ∧ ks.length = i + 1 ∧ ∀ k ∈ ks, 0 ≤ k ∧ k ≤ ((i : Nat) : Int))
      ⟨l0, [0], _, rfl, k2, hlH, el0, rfl, fun k hk => by rw [List.mem_singleton.mp hk]; omega⟩ ?_ ?_
    · rintro i σ' H3 hi ⟨l, ks, y3, rfl, k3, hl, el, lk, bk⟩
      obtain ⟨d, hd, ad⟩ := arr_at px hi
      have fin : ∀ (l2 : Addr) (H4 H5 : Hp) (ks2 : List Int), H4 l2 = none → Same H3 H4 → H5 = upd H4 l2 (.lst (ks2.map V.int)) → ks2.length = i + 2 → (∀ k ∈ ks2, k ∈ ks ∨ k = 1 + ((i : Nat) : Int)) → ∃ (l : Addr) (ks : List Int) (y3 : Option V), [some (V.str x), some (.int ((x.length : Nat) : Int)), some (.ref l2), some (V.int (1 + ((i : Nat) : Int)))] = [some (.str x), some (.int ((x.length : Nat) : Int)), some (.ref l), y3] ∧ Same H H5 ∧ H l = none ∧ H5 l = some (.lst (ks.map V.int)) ∧ ks.length = (i + 1) + 1 ∧ ∀ k ∈ ks, 0 ≤ k ∧ k ≤ ((i + 1 : Nat) : Int) := fun l2 H4 H5 ks2 h2 k4 e5 l5 m5 => by
        subst e5
        refine ⟨l2, ks2, _, rfl, (k3.trans k4).trans (same_new h2), (k3.trans k4).free h2, upd_same, by omega, fun k hk => ?_⟩
        rcases m5 k hk with z | z
        · have := bk k z
          omega
        · omega
      have fit : (ks.map V.int).length + 1 ≤ sizeLine := by
        rw [List.length_map]
        exact Nat.le_trans (by omega : _ ≤ 9) (by decide)
      refine ⟨_, rfl, _, rfl, _, _, rfl, rfl, x, _, d, rfl, rfl, lz, ?_, ?_⟩
      · rw [show (1 : Int) + ((i : Nat) : Int) - 1 = ((i : Nat) : Int) by omega]
        exact atI_nat hd
      refine ⟨rfl, _, rfl, ite2 (fun _ => ?_) (fun _ => ?_)⟩
      · refine ⟨_, rfl, _, rfl, by show 1 ≤ sizeLine; decide, fun b hb => ⟨l, b, _, _, rfl, rfl, same_new hb _ _ el, upd_same, fit, fun l2 hl2 => ?_⟩⟩
        refine fin l2 _ _ (ks ++ [1 + ((i : Nat) : Int)]) hl2 (same_new hb) (by rw [List.map_append] <;> rfl) (by rw [List.length_append]; show _ + 1 = _; omega) fun k hk => ?_
        rcases List.mem_append.mp hk with z | z
        · exact .inl z
        · exact .inr (List.mem_singleton.mp z)
      · refine ⟨_, rfl, by show 1 ≤ sizeLine; decide, fun b hb => ⟨_, rfl, b, l, _, _, rfl, rfl, upd_same, same_new hb _ _ el, (by rw [Nat.add_comm] at fit; exact fit), fun l2 hl2 => ?_⟩⟩
        refine fin l2 _ _ ([1 + ((i : Nat) : Int)] ++ ks) hl2 (same_new hb) (by rw [List.map_append] <;> rfl) (by rw [List.length_append]; show 1 + _ = _; omega) fun k hk => ?_
        rcases List.mem_append.mp hk with z | z
        · exact .inr (List.mem_singleton.mp z)
        · exact .inl z
    · rintro σ' H3 ⟨l, ks, y3, rfl, k3, hl, el, lk, bk⟩
      exact ⟨_, rfl, q l ks H3 hl k3 el lk bk⟩
end
end K53

set_option Elab.async false
set_option linter.all false
set_option maxRecDepth 100000
set_option maxHeartbeats 4000000
/-! K53B: the program: numbers of bars, sizes of their rows. -/
namespace K53
open PySem PySem.Spec PyProof.Rows L2 Rw
abbrev sCNum : Stmt := top 27
abbrev NCNum : List Str := ["pattern", "numbers", "bar", "number"]
theorem scCNum : FnScope NCNum ["pattern", "numbers"] (defScope sCNum) := ⟨rfl, rfl, rfl, by decide +kernel, rfl, by decide +kernel, by decide +kernel⟩
abbrev sLowSz : Stmt := top 29
abbrev NLowSz : List Str := ["pattern", "numbers", "sizes", "place", "number", "first", "last"]
theorem scLowSz : FnScope NLowSz ["pattern", "numbers"] (defScope sLowSz) := ⟨rfl, rfl, rfl, by decide +kernel, rfl, by decide +kernel, by decide +kernel⟩
abbrev gBN (K : PySem.W.Frag) : TG := gTup K 2 (gCons (gName 2) (gCons (gName 3) gNil))
abbrev gFLN (K : PySem.W.Frag) : TG := gTup K 2 (gCons (gTup K 2 (gCons (gName 5) (gCons (gName 6) gNil))) (gCons (gName 4) gNil))
section
variable {P : Program} {w : World} {K : PySem.W.Frag} {mg : Str → Option Value} {base : Heap} {aI aT CP CT CZ CN CG : Addr} {kI : List (Int × Value)} {kT : List (Str × Value)}
theorem okCNum {f : Addr} {fd : FuncData} (F : Fun K "check_numbers" "check_numbers" sCNum f fd) (T : Txt K w mg aI aT CP CT CZ CN CG kI kT) (GB : Own P w K mg base CX0 3 "is_bar" ["pattern", "value"] [] spBarP)
    (GI : Own P w K mg base CX0 2 "is_integer" ["value", "low", "high"] [] spInt) : FnOk P w K mg base (L2.CX P w) 5 f fd ["pattern", "numbers"] (spCNumsG CN) := by
  refine F.okX scCNum (fun vs H Q E h => ?_) (fun cdv A outer s H vs Q E hr h => ?_)
  · rcases h with ⟨x, v, rfl, _⟩ | ⟨x, d, o, kvs, ds, rfl, _⟩ <;> rfl
  · obtain ⟨tM, gM⟩ := T.gM
    refine ⟨_, (pss_cons (ps_if (pt_not (pt_val (pe_callB (cr_or call_isiX call_isiZ) (by rfl) T.isi (by decide +kernel) (pa_cons (pv 1) (pa_cons (pe_bltn (v := .ty "dict") rfl T.dict (by decide +kernel) rfl) pa_nil))))) (pss_one (ps_throw T.eN rfl (hr.mono (by decide)) (takes_of rfl rfl rfl rfl) (pv 1))) pss_nil)
      (pss_one (ps_if (pt_not (pt_val (pe_callB (cr_all rfl) (by rfl) T.all (by decide +kernel) (pa_cons (pe_lc (own := [("bar", 2), ("number", 3)]) (g := gBN K) (tt := tYes) rfl scCNum.nd (pi_or (pi_itp (pv 1)) (pi_itm (pv 1))) (blkOk_by (N := NCNum) (sc := defScope sCNum) (by decide +kernel)) (fun _ _ _ _ _ => (pg_tup rfl (pgs_cons (pg_name (i := 2) scCNum.nd rfl (Or.inl rfl)) (pgs_cons (pg_name (i := 3) scCNum.nd rfl (Or.inl rfl)) pgs_nil)))) (fun _ _ _ _ _ => pts_nil) (fun _ _ _ _ _ => (pe_and (pe_own GB (hr.mono (by decide)) pass0 (pa_cons (pv 0) (pa_cons (pv 2) pa_nil))) (pe_one (pe_own GI (hr.mono (by decide)) pass0 (pa_cons (pv 3) (pa_cons pe_int (pa_cons (pe_glob (v := .int 6) rfl gM ⟨_, rfl⟩) pa_nil)))))))) pa_nil)))) (pss_one (ps_throw T.eN rfl (hr.mono (by decide)) (takes_of rfl rfl rfl rfl) (pv 1))) pss_nil))), ?_⟩
    rcases h with ⟨x, v, rfl, lx, bad, qf⟩ | ⟨x, d, o, kvs, ds, rfl, lx, hd, al, ln, qt, qf⟩
    · rcases bad with ⟨d, an, nd⟩ | ⟨a, its, ks, ws, rfl, hd, ak, aw, bad⟩
      · refine ⟨_, rfl, .inl (.inl ⟨v, .ty "dict", _, _, _, rfl, .ty _, any_ty an, kit_dic d, _, rfl, ?_⟩)⟩
        cases an with
        | dct _ _ => cases nd
        | _ => exact iteT ⟨_, rfl, thrown_go qf⟩
      · refine ⟨_, rfl, .inl (.inr ⟨a, its, .ty "dict", _, _, rfl, hd, .ty _, kit_ty (show kitB "dict" "dict" = some true by decide +kernel), _, rfl, iteF ?_⟩)⟩
        obtain ⟨o, hA⟩ := hd.a
        refine .inr ⟨_, rfl, a, o, its, rfl, hA, fun D2 hD2 => ?_⟩
        have lk := anyL_len ak
        have lw := anyL_len aw
        rw [List.length_map] at lk lw
        refine lc_it walk_itm (Pv := fun k H' => Same H H' ∧ H' D2 = some (.lst ((((ks.zip ws).take k).map (numItm x.length)).map V.bl))) ⟨same_new hD2, upd_same⟩ (fun k H' _ z => hA.keep z.1) ?_ ?_
        · rintro k y H2 H3 hk ⟨s2, e2⟩ ⟨T1, k', v, hkv, rfl, hT, rfl⟩
          have kT : Same H2 (upd H2 T1 (.tup [k', v])) := same_new hT
          have eT : (upd H2 T1 (.tup [k', v])) T1 = some (.tup [k', v]) := upd_same
          generalize upd H2 T1 (.tup [k', v]) = H3 at kT eT ⊢
          obtain ⟨dk, hdk, av1⟩ := anyL_at ak (show (its.map (·.1))[k]? = some k' by rw [List.getElem?_map, hkv] <;> rfl)
          obtain ⟨dv, hdv, av2⟩ := anyL_at aw (show (its.map (·.2))[k]? = some v by rw [List.getElem?_map, hkv] <;> rfl)
          have ak3 := av1.keep (s2.trans kT)
          have av3 := av2.keep (s2.trans kT)
          refine ⟨T1, _, rfl, SqT.of eT, rfl, _, _, rfl, _, _, rfl, rfl, rfl, ?_⟩
          unfold tYes
          refine Eq.mpr (if_pos (rfl : true = true)) ?_
          have hz : (ks.zip ws)[k]? = some (dk, dv) := by
            rw [List.getElem?_zip_eq_some]
            exact ⟨hdk, hdv⟩
          have fin : ∀ b, b = numItm x.length (dk, dv) → ∃ acc, H3 D2 = some (.lst acc) ∧ acc.length < sizeLine ∧ Same H (upd H3 D2 (.lst (acc ++ [.bl b]))) ∧ (upd H3 D2 (.lst (acc ++ [.bl b]))) D2 = some (.lst ((((ks.zip ws).take (k + 1)).map (numItm x.length)).map V.bl)) := fun b eb => by
            refine ⟨_, kT _ _ e2, ?_, fun y o ey => ?_, ?_⟩
            · have := hd.2.1
              refine Nat.lt_of_le_of_lt (?_ : _ ≤ 1000) (by decide)
              rw [List.length_map, List.length_map, List.length_take]
              omega
            · rw [upd_ne (ne_of_none ey hD2)]
              exact kT _ _ (s2 _ _ ey)
            · rw [upd_same, List.take_add_one, hz, eb]
              simp
          refine ⟨_, rfl, _, rfl, x, k', _, rfl, Nat.le_trans lx (by decide), ak3, _, rfl, ?_⟩
          cases e1 : isBarD x.length dk with
          | false => exact iteF (fin false (by unfold numItm; rw [e1, Bool.false_and]))
          | true => exact iteT ⟨_, rfl, _, _, _, dv, _, _, rfl, av3, .int _, .int _, fin _ (by unfold numItm; rw [e1, Bool.true_and])⟩
        · rintro H2 ⟨s2, e2⟩
          have lz : (ks.zip ws).length = its.length := by rw [List.length_zip]; omega
          rw [← lz, List.take_length] at e2
          refine ⟨D2, _, rfl, .inl (.inl e2), _, rfl, ?_⟩
          have e3 : ((ks.zip ws).map (numItm x.length)).all id = false := by
            rw [List.all_map]
            exact bad
          rw [e3]
          exact iteT ⟨_, rfl, thrown_go (qf.mono s2)⟩
    · refine ⟨_, rfl, .inr ⟨d, o, kvs, .ty "dict", _, _, rfl, hd, .ty _, kit_ty (show kitB "dict" "dict" = some true by decide +kernel), _, rfl, iteF ?_⟩⟩
      refine .inl ⟨_, rfl, d, o, kvs, rfl, hd, fun D2 hD2 => ?_⟩
      have lal := anyL_len al
      rw [List.length_map] at lal
      refine lc_it walk_itp (Pv := fun k H' => Same H H' ∧ H' D2 = some (.lst ((((kvs.zip ds).take k).map fun q => numOkB x.length q.1.1 q.2).map V.bl))) ⟨same_new hD2, upd_same⟩ (fun k H' _ z => z.1 _ _ hd) ?_ ?_
      · rintro k y H2 H3 hk ⟨s2, e2⟩ ⟨T1, k', v, t, hkv, ht, rfl, hT, rfl⟩
        have kT : Same H2 (upd H2 T1 (.tup [.ref t, v])) := same_new hT
        have eT : (upd H2 T1 (.tup [.ref t, v])) T1 = some (.tup [.ref t, v]) := upd_same
        generalize upd H2 T1 (.tup [.ref t, v]) = H3 at kT eT ⊢
        obtain ⟨dv, hdv, av⟩ := anyL_at al (show (kvs.map (·.2))[k]? = some v by rw [List.getElem?_map, hkv] <;> rfl)
        have av3 := av.keep (s2.trans kT)
        refine ⟨T1, _, rfl, SqT.of eT, rfl, _, _, rfl, _, _, rfl, rfl, rfl, ?_⟩
        unfold tYes
        refine Eq.mpr (if_pos (rfl : true = true)) ?_
        have hz : (kvs.zip ds)[k]? = some ((k', v), dv) := by
          rw [List.getElem?_zip_eq_some]
          exact ⟨hkv, hdv⟩
        have fin : ∀ b, b = numOkB x.length k' dv → ∃ acc, H3 D2 = some (.lst acc) ∧ acc.length < sizeLine ∧ Same H (upd H3 D2 (.lst (acc ++ [.bl b]))) ∧ (upd H3 D2 (.lst (acc ++ [.bl b]))) D2 = some (.lst ((((kvs.zip ds).take (k + 1)).map fun q => numOkB x.length q.1.1 q.2).map V.bl)) := fun b eb => by
          refine ⟨_, kT _ _ e2, ?_, fun y o ey => ?_, ?_⟩
          · refine Nat.lt_of_le_of_lt (?_ : _ ≤ 900) (by decide)
            rw [List.length_map, List.length_map, List.length_take]
            omega
          · rw [upd_ne (ne_of_none ey hD2)]
            exact kT _ _ (s2 _ _ ey)
          · rw [upd_same, List.take_add_one, hz, eb]
            simp
        refine ⟨_, rfl, _, rfl, x, .ref t, _, rfl, Nat.le_trans lx (by decide), any_tupK (kT _ _ ht), _, rfl, ?_⟩
        cases e1 : isBarD x.length (tupK k') with
        | false => exact iteF (fin false (by unfold numOkB; rw [e1, Bool.false_and]))
        | true => exact iteT ⟨_, rfl, _, _, _, dv, _, _, rfl, av3, .int _, .int _, fin _ (by unfold numOkB; rw [e1, Bool.true_and])⟩
      · rintro H2 ⟨s2, e2⟩
        have lz : (kvs.zip ds).length = kvs.length := by rw [List.length_zip]; omega
        rw [← lz, List.take_length] at e2
        refine ⟨D2, _, rfl, .inl (.inl e2), _, rfl, ?_⟩
        have e3 : ((kvs.zip ds).map fun q => numOkB x.length q.1.1 q.2).all id = numsOk x.length kvs ds := by
          unfold numsOk
          rw [List.all_map]
          rfl
        rw [e3]
        cases e4 : numsOk x.length kvs ds with
        | true => exact iteF (qt e4 _ s2)
        | false => exact iteT ⟨_, rfl, thrown_go ((qf e4).mono s2)⟩
theorem okLowSz {f : Addr} {fd : FuncData} (F : Fun K "low_sizes" "low_sizes" sLowSz f fd) (T : Txt K w mg aI aT CP CT CZ CN CG kI kT) (GC : Own P w K mg base (L2.CX P w) 5 "check_numbers" ["pattern", "numbers"] [] (spCNumsG CN)) (GL : Own P w K mg base (L2.CX P w) 4 "check_low" ["sizes"] [] (spLow K CG)) :
    FnOk P w K mg base (L2.CX P w) 6 f fd ["pattern", "numbers"] (spLowSzG CN CG) := by
  refine F.okX scLowSz (fun vs H Q E h => ?_) (fun cdv A outer s H vs Q E hr h => ?_)
  · rcases h with ⟨x, v, rfl, _⟩ | ⟨x, d, o, kvs, ds, rfl, _⟩ <;> rfl
  · refine ⟨_, (pss_cons (ps_expr (pe_own (E := E) GC (hr.mono (by decide)) (passes_call (takes_of rfl rfl rfl rfl) (fun _ _ _ _ z => z)) (pa_cons (pv 0) (pa_cons (pv 1) pa_nil))))
      (pss_cons (ps_setLc (i := 2) (own := [("place", 3)]) (g := gName 3) (tt := tYes) (te := tCB (rSum K) (tCons (tLc (iItp (tVar 1)) (gFLN K) (tTest (tChain _ _ (tVar 5) (tVar 3) (tVar 6))) (tVar 4) [4, 5, 6]) tNil)) rfl scLowSz.nd rfl rfl (sw_true rfl rfl rfl (by decide +kernel)) (pi_range1 rfl T.range (pa_cons (pe_op op_add (pe_callB call_len_str (by rfl) T.len (by decide +kernel) (pa_cons (pv 0) pa_nil)) pe_int) pa_nil)) (blkOk_by (N := NLowSz) (sc := defScope sLowSz) (by decide +kernel)) (fun _ _ _ _ _ => (pg_name (i := 3) scLowSz.nd rfl (Or.inr rfl))) (fun _ _ _ _ _ => pts_nil) (fun _ _ _ _ _ => (pe_callB (cr_sum rfl) (by rfl) T.sum (by decide +kernel) (pa_cons (pe_lc (own := [("number", 4), ("first", 5), ("last", 6)]) (g := gFLN K) rfl scLowSz.nd (pi_itp (pv 1)) (blkOk_by (N := NLowSz) (by rfl)) (fun _ _ _ _ _ => (pg_tup rfl (pgs_cons (pg_tup rfl (pgs_cons (pg_name (i := 5) scLowSz.nd rfl (Or.inl rfl)) (pgs_cons (pg_name (i := 6) scLowSz.nd rfl (Or.inl rfl)) pgs_nil))) (pgs_cons (pg_name (i := 4) scLowSz.nd rfl (Or.inl rfl)) pgs_nil)))) (fun _ _ _ _ _ => (pts_one (pt_chain op_le op_le (pv 5) (pv 3) (pv 6)))) (fun _ _ _ _ _ => (pv 4))) pa_nil))))
      (pss_cons (ps_expr (pe_own (E := E) GL (hr.mono (by decide)) (passes_call (takes_of rfl rfl rfl rfl) (fun _ _ _ _ z => z)) (pa_cons (pv 2) pa_nil)))
      (pss_one (ps_ret (pv 2)))))), ?_⟩
    rcases h with ⟨x, v, rfl, lx, bad, qf⟩ | ⟨x, d, o, kvs, ds, rfl, lx, hd, al, ln, qf, q⟩
    · exact ⟨_, rfl, _, rfl, .inl ⟨x, v, rfl, lx, bad, qf⟩⟩
    refine ⟨_, rfl, _, rfl, .inr ⟨x, d, o, kvs, ds, rfl, lx, hd, al, ln, fun ok H1 k1 => ?_, qf⟩⟩
    obtain ⟨M, rfl, gM⟩ := nums_of al ok
    obtain ⟨q1, q2⟩ := q M rfl gM
    have lM : M.length ≤ 900 := by unfold nmT at ln; rw [List.length_map] at ln; exact ln
    refine ⟨_, rfl, _, rfl, Nat.le_trans lx (by decide), _, _, rfl, rfl, ((x.length + 1 : Nat) : Int), (by show [V.int (((x.length : Nat) : Int) + 1)] = _; rw [show ((x.length : Nat) : Int) + 1 = ((x.length + 1 : Nat) : Int) by omega]), by omega, by omega, fun l hl => ?_⟩
    have e1 := k1 _ _ hd
    rw [show ((x.length + 1 : Nat) : Int).toNat = x.length + 1 by omega]
    refine lc_it (walk_rng (n := x.length + 1)) (Pv := fun i H' => Same H1 H' ∧ H' l = some (.lst (((List.range i).map fun i => ((szN M i : Nat) : Int)).map V.int))) ⟨same_new hl, upd_same⟩ (fun _ _ _ _ => trivial) ?_ ?_
    · rintro i y H3 H2 hi ⟨s2, e2⟩ ⟨rfl, rfl⟩
      refine ⟨rfl, ?_⟩
      unfold tYes
      refine Eq.mpr (if_pos (rfl : true = true)) ?_
      have ef := s2 _ _ e1
      refine ⟨_, rfl, d, o, _, rfl, ef, fun D2 hD2 => ?_⟩
      have nD : l ≠ D2 := ne_of_none e2 hD2
      refine lc_it walk_itp (Pv := fun k H' => Same H2 H' ∧ H' D2 = some (.lst ((((M.take k).filter fun q => covB q.1 i).map fun q => ((q.2 : Nat) : Int)).map V.int))) ⟨same_new hD2, upd_same⟩ (fun k H' _ z => z.1 _ _ ef) ?_ ?_
      · rintro k y H3 H4 hk ⟨s3, e3⟩ ⟨T1, k', v, t, hkv, ht, rfl, hT, rfl⟩
        obtain ⟨b, hb, rfl, rfl⟩ := nm_get hkv
        have kT : Same H3 (upd H3 T1 (.tup [.ref t, .int ((b.2 : Nat) : Int)])) := same_new hT
        have eT : (upd H3 T1 (.tup [.ref t, .int ((b.2 : Nat) : Int)])) T1 = some (.tup [.ref t, .int ((b.2 : Nat) : Int)]) := upd_same
        generalize upd H3 T1 (.tup [.ref t, .int ((b.2 : Nat) : Int)]) = H4 at kT eT ⊢
        refine ⟨T1, _, rfl, SqT.of eT, rfl, _, _, rfl, ⟨t, _, rfl, SqT.of (kT _ _ ht), rfl, _, _, rfl, _, _, rfl, rfl, ?_⟩⟩
        refine ⟨_, _, rfl, rfl, rfl, ?_⟩
        refine ⟨_, rfl, _, rfl, _, _, rfl, rfl, _, rfl, ?_⟩
        have keep : covB b.1 i = false → Same H2 H4 ∧ H4 D2 = some (.lst ((((M.take (k + 1)).filter fun q => covB q.1 i).map fun q => ((q.2 : Nat) : Int)).map V.int)) := fun z => ⟨s3.trans kT, by rw [take_flt hb, z, if_neg (by decide), List.append_nil]; exact kT _ _ e3⟩
        refine ite2 (fun z => ?_) (fun z => ?_)
        · refine ⟨_, rfl, _, _, rfl, rfl, _, rfl, ?_⟩
          refine ite2 (fun y => ?_) (fun y => ?_)
          · have hh : covB b.1 i = true := by
              unfold covB
              have z1 := of_decide_eq_true z
              have y1 := of_decide_eq_true y
              rw [decide_eq_true (by omega), decide_eq_true (by omega)] <;> rfl
            refine ⟨_, rfl, _, kT _ _ e3, ?_, ?_, ?_⟩
            · refine Nat.lt_of_le_of_lt (?_ : _ ≤ 900) (by decide)
              rw [List.length_map, List.length_map]
              exact Nat.le_trans (List.length_filter_le _ _) (by rw [List.length_take]; omega)
            · exact fun y o ey => by
                rw [upd_ne (ne_of_none ey hD2)]
                exact kT _ _ (s3 _ _ ey)
            · rw [upd_same, take_flt hb, hh, if_pos rfl, List.map_append, List.map_append] <;> rfl
          · refine keep ?_
            unfold covB
            have y1 : ¬ _ := fun x => y (decide_eq_true x)
            rw [decide_eq_false (p := i ≤ b.1.2) (by omega), Bool.and_false]
        · refine ⟨_, rfl, keep ?_⟩
          unfold covB
          have y1 : ¬ _ := fun x => z (decide_eq_true x)
          rw [decide_eq_false (p := b.1.1 ≤ i) (by omega), Bool.false_and]
      · rintro H3 ⟨s3, e3⟩
        rw [show (nmT M).length = M.length by unfold nmT; rw [List.length_map], List.take_length] at e3
        refine ⟨D2, _, rfl, SqL.of e3, ?_⟩
        rw [sz_filter]
        refine ⟨_, s3 _ _ e2, Nat.lt_of_le_of_lt (by rw [List.length_map, List.length_map, List.length_range]; omega : _ ≤ 49) (by decide), fun y o ey => ?_, ?_⟩
        · rw [upd_ne (ne_of_none ey hl)]
          exact s3 _ _ (s2 _ _ ey)
        · rw [upd_same, List.range_succ, List.map_append, List.map_append] <;> rfl
    · rintro H2 ⟨s2, e2⟩
      have at_ : ∀ (i : Nat) (n : Int), (sizesT x.length M)[i]? = some n → i ≤ x.length ∧ n = ((szN M i : Nat) : Int) := fun i n h => by
        have hi : i < x.length + 1 := by
          have := (List.getElem?_eq_some_iff.mp h).1
          unfold sizesT at this
          rw [List.length_map, List.length_range] at this
          exact this
        unfold sizesT at h
        rw [List.getElem?_map, List.getElem?_range hi] at h
        exact ⟨by omega, (Option.some.inj h).symm⟩
      have there : ∀ i, i ≤ x.length → (sizesT x.length M)[i]? = some ((szN M i : Nat) : Int) := fun i hi => by
        unfold sizesT
        rw [List.getElem?_map, List.getElem?_range (by omega)] <;> rfl
      refine ⟨_, rfl, l, sizesT x.length M, rfl, SqL.of e2, by unfold sizesT; rw [List.length_map, List.length_range]; omega, fun low => ?_, fun i n hn h6 lo => ?_⟩
      · exact ⟨_, rfl, q1 (fun i hi => by have := low i _ (there i hi); omega) l H2 (k1.free hl) (k1.trans s2) e2⟩
      · obtain ⟨hi, rfl⟩ := at_ i n hn
        exact q2 i hi (by omega) (fun j hj => by have := lo j _ hj (there j (by omega)); omega) _ (k1.trans s2)
end
end K53

set_option Elab.async false
set_option linter.all false
set_option maxRecDepth 100000
set_option maxHeartbeats 4000000
/-! K53D: the program: numbers behind one map more, where it refuses. -/
namespace K53
open PySem PySem.Spec PyProof.Rows L2 Rw
abbrev sAfter : Stmt := top 34
abbrev NAfter : List Str := ["pattern", "numbers", "arrow", "size", "reaching", "ended", "room"]
theorem scAfter : GScope NAfter ["pattern", "numbers", "arrow", "size"] (defScope sAfter) := ⟨rfl, rfl, rfl, by decide +kernel, rfl, by decide +kernel, by decide +kernel⟩
section
variable {P : Program} {w : World} {K : PySem.W.Frag} {mg : Str → Option Value} {base : Heap} {CP CT CZ CN CG CW : Addr}
theorem bodyAfter (GT : Own P w K mg base (L2.CX P w) 4 "check_pattern" ["pattern"] [] (spCPat CT)) (GL : Own P w K mg base (L2.CX P w) 6 "low_sizes" ["pattern", "numbers"] [] (spLowSzG CN CG)) (GA : Own P w K mg base (L2.CX P w) 4 "_check_arrow" ["pattern", "arrow"] [] (spCArrow CW CG))
    (GS : Own P w K mg base (L2.CX P w) 4 "check_size" ["size"] [] (spCSize CZ)) {qual : Str} {scope : Scope} {f : Addr} {cdv : Value} (hsc : scope = defScope sAfter) (A : Around) (outer : List Env) (s : Shared) (H : Hp) (vs : List V) (Q : List V → Hp → Prop) (E : XK) (pn : List (Addr × Obj))
    (hr : Room 6 (A.deeper (envOfC qual scope s.heap.objs.size f cdv))) (h : spAfter CT CN CW CG CZ vs H Q E) :
    ∃ t, GSs (gcxOf P w K mg base NAfter qual scope f cdv A outer s H E pn) (defBody sAfter) t ∧ t { nx := fun ys _ H' => Q ys H', rt := fun ys v H' => v = .non ∧ Q ys H' } [] (start NAfter vs) H := by
  subst hsc
  obtain ⟨v1, v2, v3, v4, rfl, h⟩ := h
  refine ⟨_, gss_cons (gs_ps (ps_expr (pe_own (E := E) GT (hr.mono (by decide)) (passes_call takes_gcx (fun _ _ _ _ z => z)) (pa_cons (pv 0) pa_nil))))
    (gss_cons (gs_ps (ps_expr (pe_own (E := E) GL (hr.mono (by decide)) (passes_call takes_gcx (fun _ _ _ _ z => z)) (pa_cons (pv 0) (pa_cons (pv 1) pa_nil)))))
    (gss_cons (gs_ps (ps_expr (pe_own (E := E) GA (hr.mono (by decide)) (passes_call takes_gcx (fun _ _ _ _ z => z)) (pa_cons (pv 0) (pa_cons (pv 2) pa_nil)))))
    (gss_cons (gs_ps (ps_expr (pe_own (E := E) GS (hr.mono (by decide)) (passes_call takes_gcx (fun _ _ _ _ z => z)) (pa_cons (pv 3) pa_nil)))) gss_never))), ?_⟩
  obtain ⟨d1, an1, sh, h⟩ := h
  rcases h with ⟨e1, q⟩ | ⟨x, rfl, px, h⟩
  · exact ⟨_, rfl, v1, d1, rfl, an1, sh, (fun e => by rw [e1] at e; cases e), fun _ => q⟩
  refine ⟨_, rfl, .str x, .str x, rfl, .str x, (fun y e => by cases e; exact Nat.le_trans px.l (by decide)), fun _ H1 k1 => ?_, fun e => by rw [isPat_of px] at e; cases e⟩
  rcases h with ⟨bad, q⟩ | ⟨d, M, rfl, nd, nm, q1, q2⟩
  · exact ⟨_, rfl, _, rfl, .inl ⟨x, v2, rfl, px.l, bad.keep k1, q.mono k1⟩⟩
  obtain ⟨o, hd⟩ := nd.keep k1
  refine ⟨_, rfl, _, rfl, .inr ⟨x, d, o, nmT M, nmD M, rfl, px.l, hd, nm_any M, by unfold nmT; rw [List.length_map]; exact nm.l, (fun e => by rw [nums_ok nm.g] at e; cases e), fun T eT gT => ?_⟩⟩
  obtain rfl := nmT_inj eT
  refine ⟨fun sT l H2 hl k2 e2 => ?_, fun i hi h6 lo H' k' => (q2 i hi h6 lo).mono (k1.trans k')⟩
  have k12 := k1.trans k2
  obtain ⟨d3, an3, h⟩ := q1 sT
  rcases h with ⟨e3, q⟩ | ⟨e3, n6, q⟩ | ⟨e3, n6, d4, an4, e4, q⟩
  · exact ⟨_, rfl, _, rfl, x, v3, d3, rfl, px.l, an3.keep k12, (fun _ => q.mono k12), (fun e => by rw [e3] at e; cases e), fun e => by rw [e3] at e; cases e⟩
  · exact ⟨_, rfl, _, rfl, x, v3, d3, rfl, px.l, an3.keep k12, (fun e => by rw [e3] at e; cases e), (fun _ _ => q.mono k12), fun _ z => by omega⟩
  · exact ⟨_, rfl, _, rfl, x, v3, d3, rfl, px.l, an3.keep k12, (fun e => by rw [e3] at e; cases e), (fun _ z => by omega), fun _ _ => ⟨_, rfl, v4, d4, rfl, an4.keep k12, (fun e => by rw [e4] at e; cases e), fun _ => q.mono k12⟩⟩
end
end K53

set_option Elab.async false
set_option linter.all false
set_option maxRecDepth 100000
set_option maxHeartbeats 4000000
set_option exponentiation.threshold 3000
/-! K53G: the program: what reaches a place, whether numbers begin others. -/
namespace K53
open PySem PySem.Spec PyProof.Rows L2 Rw
abbrev sReach : Stmt := top 37
abbrev NReach : List Str := ["numbers", "place", "end", "birth"]
theorem scReach : FnScope NReach ["numbers", "place", "end"] (defScope sReach) := ⟨rfl, rfl, rfl, by decide +kernel, rfl, by decide +kernel, by decide +kernel⟩
abbrev sBegins : Stmt := top 40
abbrev NBegins : List Str := ["pattern", "numbers", "after", "last", "birth", "end", "found"]
theorem scBegins : FnScope NBegins ["pattern", "numbers", "after"] (defScope sBegins) := ⟨rfl, rfl, rfl, by decide +kernel, rfl, by decide +kernel, by decide +kernel⟩
section
variable {P : Program} {w : World} {K : PySem.W.Frag} {mg : Str → Option Value} {base : Heap} {aI aT CP CT CZ CN CG CL : Addr} {kI : List (Int × Value)} {kT : List (Str × Value)}
theorem okReach {f : Addr} {fd : FuncData} (F : Fun K "_reaching" "_reaching" sReach f fd) (zr : mg "range" = none) : FnOk P w K mg base CX0 1 f fd ["numbers", "place", "end"] spReach0 := by
  refine F.ok scReach (fun vs H Q E h => ?_) (fun cdv A outer s H vs Q E hr h => ?_)
  · obtain ⟨d, T, n, m, rfl, _⟩ := h
    rfl
  · obtain ⟨d, T, n, m, rfl, n6, nd, zz, q⟩ := h
    refine ⟨_, (pss_one (ps_ret (pe_lc (own := [("birth", 3)]) (g := gName 3) (tt := tYes) (te := tDGet2 (tVar 0) (tTup (tCons (tVar 3) (tCons (tVar 2) tNil))) (tC (.int 0))) rfl scReach.nd (pi_range1 rfl zr (pa_cons (pe_op op_add (pv 1) pe_int) pa_nil)) (blkOk_by (N := NReach) (sc := defScope sReach) (by decide +kernel)) (fun _ _ _ _ _ => (pg_name (i := 3) scReach.nd rfl (Or.inl rfl))) (fun _ _ _ _ _ => pts_nil) (fun _ _ _ _ _ => (pe_dget2 (hu_of hr) (pv 0) (pe_tup (pa_cons (pv 3) (pa_cons (pv 2) pa_nil))) pe_int ⟨rfl, rfl, rfl, rfl⟩))))), ?_⟩
    refine ⟨_, rfl, _, _, rfl, rfl, ((n + 1 : Nat) : Int), (by show [V.int (((n : Nat) : Int) + 1)] = _; rw [show ((n : Nat) : Int) + 1 = ((n + 1 : Nat) : Int) by omega]), by omega, by omega, fun D hD => ?_⟩
    rw [show ((n + 1 : Nat) : Int).toNat = n + 1 by omega]
    refine lc_it (walk_rng (n := n + 1)) (Pv := fun i H' => Same H H' ∧ H' D = some (.lst (List.replicate i (.int 0)))) ⟨same_new hD, upd_same⟩ (fun _ _ _ _ => trivial) ?_ ?_
    · rintro i y H3 H2 hi ⟨s2, e2⟩ ⟨rfl, rfl⟩
      refine ⟨rfl, ?_⟩
      unfold tYes
      refine Eq.mpr (if_pos (rfl : true = true)) ?_
      have nd2 := nd.keep s2
      obtain ⟨o, hd⟩ := id nd2
      refine ⟨_, rfl, d, rfl, .inr ⟨_, .inr ⟨o, hd⟩⟩, _, rfl, _, rfl, by show 2 ≤ sizeLine; decide, fun t ht => ?_⟩
      have kt := same_new (o := .tup [.int ((i : Nat) : Int), .int ((m : Nat) : Int)]) ht
      refine ⟨_, .inr ⟨_, keyT (i, m), t, .inr ⟨o, kt _ _ hd⟩, rfl, upd_same, rfl⟩, ?_⟩
      rw [val_nm, zz i (by omega)]
      refine ⟨_, kt _ _ e2, Nat.lt_of_le_of_lt (by rw [List.length_replicate]; omega : _ ≤ 7) (by decide), fun b o e => ?_, ?_⟩
      · rw [upd_ne (ne_of_none e hD)]
        exact kt _ _ (s2 _ _ e)
      · rw [upd_same, List.replicate_succ'] <;> rfl
    · rintro H2 ⟨s2, e2⟩
      exact q D H2 hD s2 e2
theorem okBegins {f : Addr} {fd : FuncData} (F : Fun K "_begins" "_begins" sBegins f fd) (zl : mg "len" = none) (GB : Own P w K mg base (L2.CX P w) 5 "bars" ["pattern"] [] (spBars CT)) : FnOk P w K mg base (L2.CX P w) 6 f fd ["pattern", "numbers", "after"] spBegins0 := by
  refine F.okX scBegins (fun vs H Q E h => ?_) (fun cdv A outer s H vs Q E hr h => ?_)
  · obtain ⟨x, d, d2, M, T, rfl, _⟩ := h
    rfl
  · obtain ⟨x, d, d2, M, T, rfl, px, ndM, ndT, zz, q⟩ := h
    have lx := px.l
    refine ⟨_, (pss_cons (ps_set (i := 3) scBegins.nd rfl (Or.inl rfl) (pe_callB call_len_str (by rfl) zl (by decide +kernel) (pa_cons (pv 0) pa_nil)))
      (pss_cons (ps_for (passes_of rfl) rfl (pi_list (pe_own (E := E) GB (hr.mono (by decide)) (passes_call (takes_of rfl rfl rfl rfl) (fun _ _ _ _ z => z)) (pa_cons (pv 0) pa_nil))) (pg_tup rfl (pgs_cons (pg_name (i := 4) scBegins.nd rfl (Or.inl rfl)) (pgs_cons (pg_name (i := 5) scBegins.nd rfl (Or.inl rfl)) pgs_nil)))
        (pss_cons (ps_set (i := 6) scBegins.nd rfl (Or.inl rfl) (pe_dget2 (hu_of hr) (pv 2) (pe_tup (pa_cons (pv 4) (pa_cons (pv 5) pa_nil))) pe_int ⟨rfl, rfl, rfl, rfl⟩))
        (Evl.pss_cut (ps_if (pt_cmpR op_eq (pv 5) (pv 3) (nomark _)) (pss_one (ps_set (i := 6) scBegins.nd rfl (Or.inl rfl) (pe_op op_add (pv 6) (pe_dget2 (hu_of hr) (pv 2) (pe_tup (pa_cons (pv 4) (pa_cons (pe_op op_add (pv 3) pe_int) pa_nil))) pe_int ⟨rfl, rfl, rfl, rfl⟩)))) pss_nil)
        (pss_one (ps_if (pt_cmpR op_ne (pv 6) (pe_dget2 (hu_of hr) (pv 1) (pe_tup (pa_cons (pv 4) (pa_cons (pv 5) pa_nil))) pe_int ⟨rfl, rfl, rfl, rfl⟩) (nomark _)) (pss_one (ps_ret pe_bl)) pss_nil)))))
      (pss_one (ps_ret pe_bl)))), ?_⟩
    refine ⟨_, rfl, x, rfl, Nat.le_trans lx (by decide), ?_⟩
    refine ⟨_, rfl, .str x, .str x, rfl, .str x, (fun y e => by cases e; exact Nat.le_trans lx (by decide)), (fun e => by rw [isPat_of px] at e; cases e), fun x' ex _ l acc H1 hl k1 el al => ?_⟩
    cases ex
    have lacc := anyL_len al
    rw [List.length_map] at lacc
    refine ⟨l, rfl, ⟨_, SqL.of el⟩, ?_⟩
    refine for_list (K := K) (a := l) (xs := acc) (fun i σ' H' => (∃ y4 y5 y6, σ' = [some (.str x), some (.ref d), some (.ref d2), some (.int ((x.length : Nat) : Int)), y4, y5, y6]) ∧ Same H1 H' ∧ ∀ j, j < i → ∀ r, (barsL (x.length + 1))[j]? = some r → getN M r = 0) ⟨⟨_, _, _, rfl⟩, Same.refl _, fun j h => absurd h (Nat.not_lt_zero j)⟩ (fun i σ H' _ h => SqL.of (h.2.1 _ _ el)) ?_ ?_
    · rintro i v σ' H2 hv ⟨⟨y4, y5, y6, rfl⟩, k2, lo⟩
      obtain ⟨dd, h1, h2⟩ := anyL_at al hv
      rw [List.getElem?_map] at h1
      obtain ⟨r, h3, rfl⟩ := Option.map_eq_some_iff.mp h1
      obtain ⟨b, rfl, h4⟩ := bar_at (b := r.1) (e := r.2) h2
      obtain ⟨r1, r2⟩ := bars_mem (List.mem_of_getElem? h3)
      have hp : PairAt H2 b r.1 r.2 := (h4.keep same_del).keep k2
      have k12 := k1.trans k2
      obtain ⟨oM, hM⟩ := ndM.keep k12
      obtain ⟨oT, hT⟩ := ndT.keep k12
      refine ⟨b, _, rfl, SqT.of hp, rfl, _, _, rfl, _, _, rfl, rfl, ?_⟩
      refine ⟨_, rfl, d2, rfl, .inr ⟨_, .inr ⟨oT, hT⟩⟩, _, rfl, _, rfl, by show 2 ≤ sizeLine; decide, fun t ht => ?_⟩
      have kt := same_new (o := .tup [.int ((r.1 : Nat) : Int), .int ((r.2 : Nat) : Int)]) ht
      refine ⟨_, .inr ⟨_, keyT r, t, .inr ⟨oT, kt _ _ hT⟩, rfl, upd_same, rfl⟩, ?_⟩
      rw [val_nm, zz r.1 r.2 r1 (by omega) (by omega)]
      refine ⟨fun σ' H' => σ' = [some (.str x), some (.ref d), some (.ref d2), some (.int ((x.length : Nat) : Int)), some (.int ((r.1 : Nat) : Int)), some (.int ((r.2 : Nat) : Int)), some (.int 0)] ∧ Same H2 H', ?_, ?_⟩
      · refine ⟨_, rfl, _, rfl, rfl, _, rfl, ite2 (fun _ => ?_) (fun _ => ⟨rfl, kt⟩)⟩
        refine ⟨_, rfl, _, rfl, d2, rfl, .inr ⟨_, .inr ⟨oT, kt _ _ hT⟩⟩, _, rfl, _, rfl, _, _, rfl, rfl, by show 2 ≤ sizeLine; decide, fun t2 ht2 => ?_⟩
        have kt2 := same_new (o := .tup [.int ((r.1 : Nat) : Int), .int (((x.length : Nat) : Int) + 1)]) ht2
        refine ⟨_, .inr ⟨_, keyT (r.1, x.length + 1), t2, .inr ⟨oT, kt2 _ _ (kt _ _ hT)⟩, rfl, upd_same, rfl⟩, ?_⟩
        rw [val_nm, zz r.1 (x.length + 1) (by omega) (by omega) (by omega)]
        exact ⟨_, _, rfl, rfl, rfl, kt.trans kt2⟩
      · rintro σ3 H3 ⟨rfl, k3⟩
        refine ⟨_, rfl, _, rfl, d, rfl, .inr ⟨_, .inr ⟨oM, k3 _ _ hM⟩⟩, _, rfl, _, rfl, by show 2 ≤ sizeLine; decide, fun t3 ht3 => ?_⟩
        have kt3 := same_new (o := .tup [.int ((r.1 : Nat) : Int), .int ((r.2 : Nat) : Int)]) ht3
        refine ⟨_, .inr ⟨_, keyT r, t3, .inr ⟨oM, kt3 _ _ (k3 _ _ hM)⟩, rfl, upd_same, rfl⟩, ?_⟩
        rw [val_nm]
        refine ⟨rfl, _, rfl, ?_⟩
        by_cases z : getN M r = 0
        · rw [z, show (!decide (V.int 0 = V.int ((0 : Nat) : Int))) = false from rfl]
          refine iteF ⟨⟨_, _, _, rfl⟩, (k2.trans k3).trans kt3, fun j hj s hs => ?_⟩
          by_cases e : j = i
          · subst e
            rw [h3] at hs
            cases hs
            exact z
          · exact lo j (by omega) s hs
        · rw [show decide (V.int 0 = V.int ((getN M r : Nat) : Int)) = false from decide_eq_false fun y => z (by injection y with y; omega)]
          refine iteT ?_
          have e0 : ((barsL (x.length + 1)).all fun q => getN M q == 0) = false := by
            rw [List.all_eq_false]
            exact ⟨r, List.mem_of_getElem? h3, by simp [z]⟩
          have := q _ ((k12.trans k3).trans kt3)
          rw [e0] at this
          exact this
    · rintro σ' H2 ⟨⟨y4, y5, y6, rfl⟩, k2, lo⟩
      have e1 : ((barsL (x.length + 1)).all fun q => getN M q == 0) = true := by
        rw [List.all_eq_true]
        intro r hr
        obtain ⟨j, hj⟩ := List.getElem?_of_mem hr
        have hj2 := (List.getElem?_eq_some_iff.mp hj).1
        simp [lo j (by omega) r hj]
      have := q _ (k1.trans k2)
      rw [e1] at this
      exact this
end
end K53

set_option Elab.async false
set_option linter.all false
set_option maxRecDepth 100000
set_option maxHeartbeats 4000000
set_option exponentiation.threshold 3000
/-! K53I: the program: positions where nothing is; ways behind one map more. -/
namespace K53
open PySem PySem.Spec PyProof.Rows L2 Rw
abbrev sPos : Stmt := top 41
abbrev NPos : List Str := ["prime", "inside", "left", "count", "at", "more", "free"]
theorem scPos : FnScope NPos ["prime", "inside", "left"] (defScope sPos) := ⟨rfl, rfl, rfl, by decide +kernel, rfl, by decide +kernel, by decide +kernel⟩
section
variable {P : Program} {w : World} {K : PySem.W.Frag} {mg : Str → Option Value} {base : Heap}
theorem zeros_sum : ∀ c : Nat, (List.replicate c (0 : Int)).sum = 0
  | 0 => rfl
  | c + 1 => by rw [List.replicate_succ, List.sum_cons, zeros_sum c] <;> rfl
theorem zeros_take {m c : Nat} (h : c ≤ m) : (List.replicate m (V.int 0)).take c = (List.replicate c (0 : Int)).map V.int := by
  rw [List.take_replicate, Nat.min_eq_left h, List.map_replicate]
theorem okPos {f : Addr} {fd : FuncData} (F : Fun K "_positions" "_positions" sPos f fd) (ze : mg "enumerate" = none) (zs : mg "sum" = none) (GS : Own P w K mg base CX0 3 "spaces_within" ["prime", "dimension", "whole"] [] spSpaces0) (GP : Own P w K mg base CX0 1 "power" ["base", "times"] [] spPower) :
    FnOk P w K mg base CX0 4 f fd ["prime", "inside", "left"] spPos0 := by
  refine F.ok scPos (fun vs H Q E h => ?_) (fun cdv A outer s H vs Q E hr h => ?_)
  · obtain ⟨p, m, a, b, rfl, _⟩ := h
    rfl
  · obtain ⟨p, m, a, b, rfl, p2, p13, m7, ea, eb, q⟩ := h
    refine ⟨_, (pss_cons (ps_set (i := 3) scPos.nd rfl (Or.inl rfl) pe_int)
      (pss_cons (ps_for PassesOwn.never rfl (pi_enumB (by rfl) ze (pa_cons (pv 1) pa_nil)) (pg_tup rfl (pgs_cons (pg_name (i := 4) scPos.nd rfl (Or.inl rfl)) (pgs_cons (pg_name (i := 5) scPos.nd rfl (Or.inl rfl)) pgs_nil)))
        (pss_cons (ps_set (i := 6) scPos.nd rfl (Or.inl rfl) (pe_op op_mul (pv 5) (pe_callB (cr_sum rfl) (by rfl) zs (by decide +kernel) (pa_cons (pe_slice sl_list (pv 2) po_none (po_some (pv 4))) pa_nil))))
        (pss_one (ps_set (i := 3) scPos.nd rfl (Or.inl rfl) (pe_op op_mul (pe_op op_mul (pv 3) (pe_own GS (hr.mono (by decide)) pass0 (pa_cons (pv 0) (pa_cons (pv 5) (pa_cons (pe_op op_add (pv 5) (pe_ix ix_list (pv 2) (pv 4) (fun _ _ => rfl))) pa_nil))))) (pe_own GP (hr.mono (by decide)) pass0 (pa_cons (pv 0) (pa_cons (pv 6) pa_nil))))))))
      (pss_one (ps_ret (pv 3))))), ?_⟩
    refine ⟨_, rfl, a, true, _, rfl, SqL.of ea, ?_⟩
    refine for_it walk_enumB (fun i σ' H' => (∃ y4 y5 y6, σ' = [some (.int ((p : Nat) : Int)), some (.ref a), some (.ref b), some (.int 1), y4, y5, y6]) ∧ Same H H') ⟨⟨_, _, _, rfl⟩, Same.refl _⟩ (fun i σ' H' _ z => SqL.of (z.2 _ _ ea)) ?_ ?_
    · rintro i y σ' H1 H2 hi ⟨⟨y4, y5, y6, rfl⟩, k1⟩ ⟨T1, v1, v2, rfl, hT, rfl, h1, h2⟩
      cases h1
      rw [List.length_replicate] at hi
      have hv2 : v2 = .int 0 := by
        have h3 : (List.replicate m (V.int 0))[i]? = some v2 := h2
        rw [List.getElem?_replicate, if_pos hi] at h3
        exact (Option.some.inj h3).symm
      subst hv2
      have kT : Same H1 (upd H1 T1 (.tup [.int (i : Nat), .int 0])) := same_new hT
      have eT := upd_same (H := H1) (a := T1) (o := .tup [.int (i : Nat), .int 0])
      generalize upd H1 T1 (.tup [.int (i : Nat), .int 0]) = H3 at kT eT ⊢
      refine ⟨T1, _, rfl, SqT.of eT, rfl, _, _, rfl, _, _, rfl, rfl, ?_⟩
      have eb3 := (k1.trans kT) _ _ eb
      refine ⟨_, rfl, _, rfl, _, rfl, _, rfl, b, _, rfl, SqL.of eb3, fun S hS => ?_⟩
      rw [cutV_take (by rw [List.length_replicate]; omega), zeros_take (by omega)]
      have kS := same_new (o := .lst ((List.replicate i (0 : Int)).map V.int)) hS
      refine ⟨S, _, rfl, SqL.of upd_same, ?_⟩
      rw [zeros_sum]
      refine ⟨_, _, rfl, rfl, .inl ⟨by decide, by decide⟩, ?_⟩
      refine ⟨_, rfl, _, rfl, _, rfl, _, rfl, _, rfl, _, rfl, b, _, _, .int 0, rfl, rfl, SqL.of (kS _ _ eb3), atI_nat (by rw [List.getElem?_replicate, if_pos hi]), _, _, rfl, rfl, p, rfl, p2, p13, _, _, rfl, rfl, .inl ⟨by decide, by decide⟩, ?_⟩
      refine ⟨_, rfl, _, rfl, p, 0, rfl, p13, by decide, _, _, rfl, rfl, .inl ⟨by decide, by decide⟩, ⟨some (.int ((i : Nat) : Int)), some (.int 0), some (.int 0), rfl⟩, (k1.trans kT).trans kS⟩
    · rintro σ' H1 ⟨⟨y4, y5, y6, rfl⟩, k1⟩
      exact ⟨_, rfl, q _ k1⟩
end
end K53

set_option Elab.async false
set_option linter.all false
set_option maxRecDepth 100000
set_option maxHeartbeats 4000000
set_option exponentiation.threshold 3000
/-! K53J: the program: ways behind one map more. -/
namespace K53
open PySem PySem.Spec PyProof.Rows L2 Rw
abbrev sWays : Stmt := top 35
abbrev NWays : List Str := ["pattern", "prime", "numbers", "arrow", "after", "size", "last", "ended", "kept", "order", "inside", "left", "positions", "birth"]
theorem scWays : FnScope NWays ["pattern", "prime", "numbers", "arrow", "after"] (defScope sWays) := ⟨rfl, rfl, rfl, by decide +kernel, rfl, by decide +kernel, by decide +kernel⟩
abbrev tAt (K : PySem.W.Frag) (i : Nat) : TE := tOp (rIxL K) (tVar i) (tVar 13)
section
variable {P : Program} {w : World} {K : PySem.W.Frag} {mg : Str → Option Value} {base : Heap} {CP CT CZ CN CG CW : Addr}
theorem okWays {f : Addr} {fd : FuncData} (F : Fun K "ways_after" "ways_after" sWays f fd) (zl : mg "len" = none) (zs : mg "sum" = none) (GT : Own P w K mg base (L2.CX P w) 4 "check_pattern" ["pattern"] [] (spCPat CT)) (GP : Own P w K mg base (L2.CX P w) 4 "check_prime" ["prime"] [] (spCheck CP))
    (GL : Own P w K mg base (L2.CX P w) 6 "low_sizes" ["pattern", "numbers"] [] (spLowSzG CN CG)) (GA : Own P w K mg base (L2.CX P w) 4 "_check_arrow" ["pattern", "arrow"] [] (spCArrow CW CG)) (GB : Own P w K mg base (L2.CX P w) 6 "_begins" ["pattern", "numbers", "after"] [] spBegins0)
    (GR : Own P w K mg base CX0 1 "_reaching" ["numbers", "place", "end"] [] spReach0) (GH : Own P w K mg base (L2.CX P w) 6 "births" ["pattern", "place"] [] spBirths0) (GO : Own P w K mg base CX0 4 "_positions" ["prime", "inside", "left"] [] spPos0) (GI : Own P w K mg base CX0 2 "independent_lists" ["prime", "many", "length"] [] spIndep) :
    FnOk P w K mg base (L2.CX P w) 7 f fd ["pattern", "prime", "numbers", "arrow", "after"] (spWays CT CP CN CW CG) := by
  refine F.okX scWays (fun vs H Q E h => ?_) (fun cdv A outer s H vs Q E hr h => ?_)
  · obtain ⟨v1, v2, v3, v4, v5, rfl, _⟩ := h
    rfl
  · obtain ⟨v1, v2, v3, v4, v5, rfl, h⟩ := h
    refine ⟨_, (pss_cons (ps_expr (pe_own (E := E) GT (hr.mono (by decide)) (passes_call (takes_of rfl rfl rfl rfl) (fun _ _ _ _ z => z)) (pa_cons (pv 0) pa_nil)))
      (pss_cons (ps_expr (pe_own (E := E) GP (hr.mono (by decide)) (passes_call (takes_of rfl rfl rfl rfl) (fun _ _ _ _ z => z)) (pa_cons (pv 1) pa_nil)))
      (pss_cons (ps_expr (pe_own (E := E) GL (hr.mono (by decide)) (passes_call (takes_of rfl rfl rfl rfl) (fun _ _ _ _ z => z)) (pa_cons (pv 0) (pa_cons (pv 2) pa_nil))))
      (pss_cons (ps_expr (pe_own (E := E) GA (hr.mono (by decide)) (passes_call (takes_of rfl rfl rfl rfl) (fun _ _ _ _ z => z)) (pa_cons (pv 0) (pa_cons (pv 3) pa_nil))))
      (pss_cons (ps_set (i := 5) scWays.nd rfl (Or.inl rfl) (pe_ix ix_list (pe_own (E := E) GL (hr.mono (by decide)) (passes_call (takes_of rfl rfl rfl rfl) (fun _ _ _ _ z => z)) (pa_cons (pe_op op_add_str (pv 0) (pv 3)) (pa_cons (pv 4) pa_nil))) (pe_un un_neg pe_int) (fun _ _ => rfl)))
      (pss_cons (ps_if (pt_not (pt_val (pe_own (E := E) GB (hr.mono (by decide)) (passes_call (takes_of rfl rfl rfl rfl) (fun _ _ _ _ z => z)) (pa_cons (pv 0) (pa_cons (pv 2) (pa_cons (pv 4) pa_nil)))))) (pss_one (ps_ret pe_int)) pss_nil)
      (pss_cons (ps_set (i := 6) scWays.nd rfl (Or.inl rfl) (pe_callB call_len_str (by rfl) zl (by decide +kernel) (pa_cons (pv 0) pa_nil)))
      (pss_cons (ps_par (i := 7) (j := 8) (by rfl) scWays.nd rfl rfl (by decide) rfl rfl (pa_cons (pe_own GR (hr.mono (by decide)) pass0 (pa_cons (pv 4) (pa_cons (pv 6) (pa_cons (pv 6) pa_nil)))) (pa_cons (pe_own GR (hr.mono (by decide)) pass0 (pa_cons (pv 4) (pa_cons (pv 6) (pa_cons (pe_op op_add (pv 6) pe_int) pa_nil)))) pa_nil)) (by rfl))
      (pss_cons (ps_set (i := 9) scWays.nd rfl (Or.inl rfl) (pe_own (E := E) GH (hr.mono (by decide)) (passes_call (takes_of rfl rfl rfl rfl) (fun _ _ _ _ z => z)) (pa_cons (pv 0) (pa_cons (pv 6) pa_nil))))
      (Evl.pss_cut (ps_asg (pe_ifExp (pt_cmpR op_eq (pv 3) pe_str (nomark _)) (pe_tup (pa_cons (pv 7) (pa_cons (pv 8) pa_nil))) (pe_tup (pa_cons (pv 8) (pa_cons (pv 7) pa_nil)))) (pg_tup rfl (pgs_cons (pg_name (i := 10) scWays.nd rfl (Or.inr rfl)) (pgs_cons (pg_name (i := 11) scWays.nd rfl (Or.inr rfl)) pgs_nil))))
      (pss_cons (ps_set (i := 12) scWays.nd rfl (Or.inl rfl) (pe_own GO (hr.mono (by decide)) pass0 (pa_cons (pv 1) (pa_cons (pe_lc (own := [("birth", 13)]) (g := gName 13) (tt := tYes) (te := tAt K 10) rfl scWays.nd (pi_list (pv 9)) (blkOk_by (N := NWays) (sc := defScope sWays) (by decide +kernel)) (fun _ _ _ _ _ => (pg_name (i := 13) scWays.nd rfl (Or.inl rfl))) (fun _ _ _ _ _ => pts_nil) (fun _ _ _ _ _ => (pe_ix ix_list (pv 10) (pv 13) (fun _ _ => rfl)))) (pa_cons (pe_lc (own := [("birth", 13)]) (g := gName 13) (tt := tYes) (te := tAt K 11) rfl scWays.nd (pi_list (pv 9)) (blkOk_by (N := NWays) (sc := defScope sWays) (by decide +kernel)) (fun _ _ _ _ _ => (pg_name (i := 13) scWays.nd rfl (Or.inl rfl))) (fun _ _ _ _ _ => pts_nil) (fun _ _ _ _ _ => (pe_ix ix_list (pv 11) (pv 13) (fun _ _ => rfl)))) pa_nil)))))
      (pss_one (ps_ret (pe_op op_mul (pv 12) (pe_own GI (hr.mono (by decide)) pass0 (pa_cons (pv 1) (pa_cons (pe_callB (cr_sum rfl) (by rfl) zs (by decide +kernel) (pa_cons (pv 8) pa_nil)) (pa_cons (pv 5) pa_nil)))))))))))))))))), ?_⟩
    obtain ⟨d1, an1, sh, h⟩ := h
    rcases h with ⟨e1, q⟩ | ⟨x, rfl, px, h⟩
    · exact ⟨_, rfl, v1, d1, rfl, an1, sh, (fun e => by rw [e1] at e; cases e), fun _ => q⟩
    have lx := px.l
    have lz : x.length ≤ sizeLine := Nat.le_trans lx (by decide)
    refine ⟨_, rfl, .str x, .str x, rfl, .str x, (fun y e => by cases e; exact Nat.le_trans px.l (by decide)), fun _ H1 k1 => ?_, fun e => by rw [isPat_of px] at e; cases e⟩
    obtain ⟨d2, an2, h⟩ := h
    rcases h with ⟨e2, q⟩ | ⟨p, rfl, pp, h⟩
    · exact ⟨_, rfl, v2, d2, rfl, an2.keep k1, (fun e => by rw [e2] at e; cases e), fun _ => q.mono k1⟩
    refine ⟨_, rfl, _, _, rfl, .int _, fun _ => ?_, fun e => by rw [pp.d] at e; cases e⟩
    rcases h with ⟨bad, q⟩ | ⟨d, M, rfl, nd, nm, q1, q2⟩
    · exact ⟨_, rfl, _, rfl, .inl ⟨x, v3, rfl, px.l, bad.keep k1, q.mono k1⟩⟩
    obtain ⟨o, hd⟩ := nd.keep k1
    refine ⟨_, rfl, _, rfl, .inr ⟨x, d, o, nmT M, nmD M, rfl, px.l, hd, nm_any M, by unfold nmT; rw [List.length_map]; exact nm.l, (fun e => by rw [nums_ok nm.g] at e; cases e), fun T eT gT => ?_⟩⟩
    obtain rfl := nmT_inj eT
    refine ⟨fun sT l H2 hl k2 e2 => ?_, fun i hi h6 lo H' k' => (q2 i hi h6 lo).mono (k1.trans k')⟩
    have k12 := k1.trans k2
    obtain ⟨d4, an4, h⟩ := q1 sT
    rcases h with ⟨e4, q⟩ | ⟨e4, n6, q⟩ | ⟨e4, n6, h⟩
    · exact ⟨_, rfl, _, rfl, x, v4, d4, rfl, px.l, an4.keep k12, (fun _ => q.mono k12), (fun e => by rw [e4] at e; cases e), fun e => by rw [e4] at e; cases e⟩
    · exact ⟨_, rfl, _, rfl, x, v4, d4, rfl, px.l, an4.keep k12, (fun e => by rw [e4] at e; cases e), (fun _ _ => q.mono k12), fun _ z => by omega⟩
    refine ⟨_, rfl, _, rfl, x, v4, d4, rfl, px.l, an4.keep k12, (fun e => by rw [e4] at e; cases e), (fun _ z => by omega), fun _ _ => ?_⟩
    obtain ⟨r, rfl⟩ := arD_of e4
    cases an4
    have l1 : (arrS r).length = 1 := by cases r <;> rfl
    have ln : (x ++ arrS r).length = x.length + 1 := by
      rw [← len_toList, cat_list, List.length_append, len_toList, len_toList, l1]
    refine ⟨_, rfl, _, rfl, x, arrS r, rfl, rfl, (by rw [l1]; exact Nat.le_trans (by omega : _ ≤ 8) (by decide)), ?_⟩
    generalize x ++ arrS r = xz at ln ⊢
    rw [← ln] at h
    rcases h with ⟨bad, q⟩ | ⟨dT, T, rfl, ndT, nmT', r1, r2⟩
    · exact ⟨_, rfl, .inl ⟨xz, v5, rfl, by omega, bad.keep k12, q.mono k12⟩⟩
    obtain ⟨oT, hT⟩ := ndT.keep k12
    refine ⟨_, rfl, .inr ⟨xz, dT, oT, nmT T, nmD T, rfl, by omega, hT, nm_any T, by unfold nmT; rw [List.length_map]; exact nmT'.l, (fun e => by rw [nums_ok nmT'.g] at e; cases e), fun U eU gU => ?_⟩⟩
    obtain rfl := nmT_inj eU
    refine ⟨fun sU l5 H3 hl5 k3 e5 => ?_, fun i hi h6 lo H' k' => (r2 i hi h6 lo).mono (k12.trans k')⟩
    obtain ⟨n0, qk⟩ := r1 sU
    have k13 := k12.trans k3
    have at5 : ((sizesT xz.length T).map V.int)[((sizesT xz.length T).map V.int).length - 1]? = some (.int ((szN T xz.length : Nat) : Int)) := by
      unfold sizesT
      rw [List.length_map, List.length_map, List.length_range, Nat.add_sub_cancel, List.getElem?_map, List.getElem?_map, List.getElem?_range (by omega)] <;> rfl
    refine ⟨_, rfl, l5, _, _, _, rfl, rfl, SqL.of e5, atI_neg1 at5, ?_⟩
    have s6 := sU xz.length (Nat.le_refl _)
    refine ⟨_, rfl, _, rfl, _, rfl, x, d, dT, M, T, rfl, px, nd.keep k13, ndT.keep k13, n0, fun H4 k4 => ⟨_, rfl, ?_⟩⟩
    have k14 := k13.trans k4
    cases ((barsL (x.length + 1)).all fun q => getN M q == 0) with
    | false => exact iteT (qk _ _ k14)
    | true =>
      refine iteF ⟨_, rfl, x, rfl, lz, ?_⟩
      refine ⟨_, rfl, _, rfl, _, rfl, dT, T, x.length, x.length, rfl, lx, ndT.keep k14, (fun b hb => n0 b x.length hb hb (by omega)), fun l7 H5 h7 k5 e7 => ?_⟩
      refine ⟨_, rfl, _, rfl, _, rfl, _, _, rfl, rfl, dT, T, x.length, x.length + 1, (by show [_, _, V.int (((x.length : Nat) : Int) + 1)] = _; rw [show ((x.length : Nat) : Int) + 1 = ((x.length + 1 : Nat) : Int) by omega]), lx, (ndT.keep k14).keep k5, (fun b hb => n0 b (x.length + 1) (by omega) hb (by omega)), fun l8 H6 h8 k6 e8 => ?_⟩
      refine ⟨_, _, rfl, ?_⟩
      refine ⟨_, rfl, _, rfl, x, rfl, px, fun l9 ks H7 h9 k7 e9 lk bk => ?_⟩
      have k17 := ((k14.trans k5).trans k6).trans k7
      have e77 := (k6.trans k7) _ _ e7
      have e87 := k7 _ _ e8
      refine ⟨fun σ' H' => ∃ a b : Addr, σ' = [some (.str x), some (.int ((p : Nat) : Int)), some (.ref d), some (.str (arrS r)), some (.ref dT), some (.int ((szN T xz.length : Nat) : Int)), some (.int ((x.length : Nat) : Int)), some (.ref l7), some (.ref l8), some (.ref l9), some (.ref a), some (.ref b), none, none] ∧
        H' a = some (.lst (List.replicate (x.length + 1) (.int 0))) ∧ H' b = some (.lst (List.replicate (x.length + 1) (.int 0))) ∧ Same H7 H', ?_, ?_⟩
      · refine ⟨_, rfl, rfl, _, rfl, ite2 (fun _ => ?_) (fun _ => ?_)⟩
        · refine ⟨_, rfl, _, rfl, by show 2 ≤ sizeLine; decide, fun t ht => ⟨t, _, rfl, SqT.of upd_same, rfl, _, _, rfl, _, _, rfl, rfl, l7, l8, rfl, same_new ht _ _ e77, same_new ht _ _ e87, same_new ht⟩⟩
        · refine ⟨_, rfl, _, rfl, by show 2 ≤ sizeLine; decide, fun t ht => ⟨t, _, rfl, SqT.of upd_same, rfl, _, _, rfl, _, _, rfl, rfl, l8, l7, rfl, same_new ht _ _ e87, same_new ht _ _ e77, same_new ht⟩⟩
      · rintro σ8 H8 ⟨a, b, rfl, ea, eb, k8⟩
        have e98 := k8 _ _ e9
        have at0 : ∀ k ∈ ks, atI (List.replicate (x.length + 1) (V.int 0)) k = some (.int 0) := fun k hk => by
          obtain ⟨b1, b2⟩ := bk k hk
          obtain ⟨j, rfl⟩ : ∃ j : Nat, k = ((j : Nat) : Int) := ⟨k.toNat, by omega⟩
          exact atI_nat (by rw [List.getElem?_replicate, if_pos (by omega)])
        refine ⟨_, rfl, _, rfl, l9, rfl, ⟨_, SqL.of e98⟩, fun D hD => ?_⟩
        refine lc_it walk_list (Pv := fun i H' => Same H8 H' ∧ H' D = some (.lst (List.replicate i (.int 0)))) ⟨same_new hD, upd_same⟩ (fun i H' _ z => SqL.of (z.1 _ _ e98)) ?_ ?_
        · rintro i y H9 H9' hi ⟨s9, f9⟩ ⟨rfl, hy⟩
          obtain ⟨k, hk, rfl⟩ := ints_at hy
          refine ⟨rfl, ?_⟩
          unfold tYes
          refine Eq.mpr (if_pos (rfl : true = true)) ?_
          refine ⟨_, rfl, _, rfl, a, _, k, .int 0, rfl, rfl, SqL.of (s9 _ _ ea), at0 k (List.mem_of_getElem? hk), ?_⟩
          refine ⟨_, f9, Nat.lt_of_le_of_lt (by rw [List.length_replicate]; rw [List.length_map] at hi; omega : _ ≤ 7) (by decide), fun b o e => ?_, ?_⟩
          · rw [upd_ne (ne_of_none e hD)]
            exact s9 _ _ e
          · rw [upd_same, List.replicate_succ'] <;> rfl
        · rintro H9 ⟨s9, f9⟩
          rw [List.length_map, lk] at f9
          have e99 := s9 _ _ e98
          have eb9 := s9 _ _ eb
          refine ⟨_, rfl, l9, rfl, ⟨_, SqL.of e99⟩, fun D2 hD2 => ?_⟩
          refine lc_it walk_list (Pv := fun i H' => Same H9 H' ∧ H' D2 = some (.lst (List.replicate i (.int 0)))) ⟨same_new hD2, upd_same⟩ (fun i H' _ z => SqL.of (z.1 _ _ e99)) ?_ ?_
          · rintro i y H10 H10' hi ⟨s10, f10⟩ ⟨rfl, hy⟩
            obtain ⟨k, hk, rfl⟩ := ints_at hy
            refine ⟨rfl, ?_⟩
            unfold tYes
            refine Eq.mpr (if_pos (rfl : true = true)) ?_
            refine ⟨_, rfl, _, rfl, b, _, k, .int 0, rfl, rfl, SqL.of (s10 _ _ eb9), at0 k (List.mem_of_getElem? hk), ?_⟩
            refine ⟨_, f10, Nat.lt_of_le_of_lt (by rw [List.length_replicate]; rw [List.length_map] at hi; omega : _ ≤ 7) (by decide), fun b o e => ?_, ?_⟩
            · rw [upd_ne (ne_of_none e hD2)]
              exact s10 _ _ e
            · rw [upd_same, List.replicate_succ'] <;> rfl
          · rintro H10 ⟨s10, f10⟩
            rw [List.length_map, lk] at f10
            refine ⟨p, x.length + 1, D, D2, rfl, pp.l, pp.h, by omega, s10 _ _ f9, f10, fun H11 k11 => ?_⟩
            have kk := ((k8.trans s9).trans s10).trans k11
            have e811 := kk _ _ e87
            rw [← List.map_replicate (f := V.int) (a := (0 : Int))] at e811
            refine ⟨_, rfl, _, rfl, _, rfl, l8, _, rfl, SqL.of e811, ?_⟩
            rw [zeros_sum]
            refine ⟨_, rfl, p, 0, szN T xz.length, rfl, pp.l, pp.h, Nat.zero_le _, s6, _, _, rfl, rfl, .inl ⟨by decide, by decide⟩, qk _ _ (k17.trans kk)⟩
end
end K53

set_option Elab.async false
set_option linter.all false
set_option maxRecDepth 100000
set_option maxHeartbeats 4000000
/-! K53E: the law: draws, bars, the look at each arrow, another order, counts. -/
namespace K53
open PySem PySem.Spec PyProof.Rows L2 Rw
abbrev sCell : Stmt := top 43
abbrev sBox : Stmt := top 44
abbrev sTake : Stmt := top 45
abbrev sPatL : Stmt := top 46
abbrev sBarsL : Stmt := top 47
abbrev sPrimeL : Stmt := top 50
abbrev NPrimeL : List Str := ["_law_box_here"]
theorem scPrimeL : FnScope NPrimeL ["_law_box_here"] (defScope sPrimeL) := ⟨rfl, rfl, rfl, by decide +kernel, rfl, by decide +kernel, by decide +kernel⟩
abbrev sMix : Stmt := top 48
abbrev NMix : List Str := ["_law_box_here", "_law_some", "_law_left", "_law_k"]
theorem scMix : FnScope NMix ["_law_box_here", "_law_some"] (defScope sMix) := ⟨rfl, rfl, rfl, by decide +kernel, rfl, by decide +kernel, by decide +kernel⟩
abbrev tLenK (K : PySem.W.Frag) (i : Nat) : TE := tCB (fun xs H Q => ∃ p ys, xs = [.ref p] ∧ (SqL K H p ys ∨ SqT K H p ys) ∧ Q (.int ys.length) H) (tCons (tVar i) tNil)
theorem ixn2 {n j : Nat} (hj : j < n) : seqIndex? ((j : Nat) : Int) n = some j := by
  have h : ixN n (j : Int) = some j := by
    unfold ixN
    rw [if_pos (by omega), if_pos (by omega)]
    simp
  exact (ixN_seq h).1
abbrev tPop (K : PySem.W.Frag) : TE := tBM K "list" rPopAt (tVar 2) (tCons (tCall spTakeR [] E0 (tCons (tVar 0) (tCons (tLenK K 2) tNil))) tNil)
abbrev NCell : List Str := ["_law_script", "_law_k"]
theorem scCell : FnScope NCell ["_law_script", "_law_k"] (defScope sCell) := ⟨rfl, rfl, rfl, by decide +kernel, rfl, by decide +kernel, by decide +kernel⟩
abbrev NBox : List Str := ["_law_cell_here"]
theorem scBox : FnScope NBox ["_law_cell_here"] (defScope sBox) := ⟨rfl, rfl, rfl, by decide +kernel, rfl, by decide +kernel, by decide +kernel⟩
abbrev NTake : List Str := ["_law_box_here", "_law_many", "_law_digit", "_law_blend"]
theorem scTake : FnScope NTake ["_law_box_here", "_law_many"] (defScope sTake) := ⟨rfl, rfl, rfl, by decide +kernel, rfl, by decide +kernel, by decide +kernel⟩
abbrev NPatL : List Str := ["_law_box_here", "_law_most", "_law_k"]
theorem scPatL : FnScope NPatL ["_law_box_here", "_law_most"] (defScope sPatL) := ⟨rfl, rfl, rfl, by decide +kernel, rfl, by decide +kernel, by decide +kernel⟩
abbrev NBarsL : List Str := ["_law_arrows_here", "_law_found", "_law_first", "_law_last"]
theorem scBarsL : FnScope NBarsL ["_law_arrows_here"] (defScope sBarsL) := ⟨rfl, rfl, rfl, by decide +kernel, rfl, by decide +kernel, by decide +kernel⟩
theorem part_rng (a : Nat) : ∀ n, partL a n = (List.range (n - a)).map fun j => (a, a + j)
  | 0 => by simp [partL]
  | n + 1 => by
    rw [part_succ, part_rng a n]
    by_cases h : a ≤ n
    · rw [if_pos h, show n + 1 - a = (n - a) + 1 by omega, List.range_succ, List.map_append]
      show _ ++ [(a, n)] = _ ++ [(a, a + (n - a))]
      rw [show a + (n - a) = n by omega]
    · rw [if_neg h, show n + 1 - a = n - a by omega]
abbrev rInt1 : List V → Hp → VK → Prop := fun xs H Q => (∃ i, xs = [.int i] ∧ Q (.int i) H) ∨ ∃ k, xs = [.bl k] ∧ Q (.int (if k then 1 else 0)) H
abbrev tHeld (K : PySem.W.Frag) : TE := tCB rInt1 (tCons (tAndV (tChain rLe rLe (tOp (rIxT K) (tVar 1) (tC (.int 0))) (tVar 9) (tOp (rIxT K) (tVar 1) (tC (.int 1)))) (tChain rLe rLe (tOp (rIxT K) (tVar 2) (tC (.int 0))) (tVar 9) (tOp (rIxT K) (tVar 2) (tC (.int 1))))) tNil)
section
variable {P : Program} {w : World} {K : PySem.W.Frag} {mg : Str → Option Value} {base : Heap}
theorem okCell {f : Addr} {fd : FuncData} (F : Fun K "_law_cell" "_law_cell" sCell f fd) (zl : mg "len" = none) : FnOk P w K mg base CX0 1 f fd ["_law_script", "_law_k"] (spCellR K) := by
  refine F.ok scCell (fun vs H Q E h => ?_) (fun cdv A outer s H vs Q E hr h => ?_)
  · obtain ⟨a, ns, j, rfl, _⟩ := h
    rfl
  · obtain ⟨a, ns, j, rfl, hs, hj, q⟩ := h
    refine ⟨_, (pss_cons (ps_if (pt_cmpR op_lt (pv 1) (pe_callB call_len_seq (by rfl) zl PySem.boot_len (pa_cons (pv 0) pa_nil)) (nomark _)) (pss_one (ps_ret (pe_ix ix_list (pv 0) (pv 1) (fun _ _ => rfl)))) pss_nil)
      (pss_one (ps_ret (pe_op op_add (pe_op op_mul pe_int (pv 1)) pe_int)))), ?_⟩
    refine ⟨_, rfl, _, rfl, a, _, rfl, .inl hs, _, _, rfl, rfl, _, rfl, ?_⟩
    refine ite2 (fun z => ?_) (fun z => ?_)
    · have z2 := of_decide_eq_true z
      have z3 : j < ns.length := by
        rw [List.length_map] at z2
        omega
      exact ⟨_, rfl, _, rfl, a, _, _, _, rfl, rfl, hs, atI_nat (j := j) (v := .int ns[j]) (by rw [List.getElem?_map, List.getElem?_eq_getElem z3] <;> rfl), q _⟩
    · exact ⟨_, rfl, _, _, rfl, rfl, .inr ⟨by omega, by omega⟩, _, _, rfl, rfl, q _⟩
theorem okBox {f : Addr} {fd : FuncData} (F : Fun K "_law_box" "_law_box" sBox f fd) (zm : mg "max" = none) (zi : mg "int" = none) : FnOk P w K mg base CX0 1 f fd ["_law_cell_here"] spBoxR := by
  refine F.ok scBox (fun vs H Q E h => ?_) (fun cdv A outer s H vs Q E hr h => ?_)
  · obtain ⟨z, rfl, _⟩ := h
    rfl
  · obtain ⟨z, rfl, q⟩ := h
    refine ⟨_, (pss_one (ps_ret (pe_lst (pa_cons (pe_callB (call_max2 rfl) (by rfl) zm (by decide +kernel) (pa_cons pe_int (pa_cons (pe_op op_sub (pv 0) (pe_op op_pow pe_int pe_int)) pa_nil))) (pa_cons (pe_op op_modN (pe_callTy call_int1 (by rfl) zi (by decide +kernel) (pa_cons (pv 0) pa_nil)) pe_int) (pa_cons pe_int pa_nil)))))), ?_⟩
    refine ⟨_, rfl, _, _, rfl, rfl, ⟨by decide, by decide, by decide⟩, _, _, rfl, rfl, _, _, rfl, _, rfl, .inl ⟨_, rfl, _, _, rfl, rfl, (by dsimp only; omega), (by show 3 ≤ sizeLine; decide), fun p hp => ?_⟩⟩
    refine q p _ hp (same_new hp) ⟨_, _, _, upd_same, ?_, ?_, ?_, by omega, by omega⟩
    · split <;> omega
    · rw [fmod_pos (by decide)]
      exact Int.emod_nonneg _ (by decide)
    · rw [fmod_pos (by decide)]
      exact Int.emod_lt_of_pos _ (by decide)
theorem okTake {f : Addr} {fd : FuncData} (F : Fun K "_law_take" "_law_take" sTake f fd) (zi : mg "int" = none) : FnOk P w K mg base CX0 1 f fd ["_law_box_here", "_law_many"] spTakeR := by
  refine F.ok scTake (fun vs H Q E h => ?_) (fun cdv A outer s H vs Q E hr h => ?_)
  · obtain ⟨p, m, n, rfl, _⟩ := h
    rfl
  · obtain ⟨p, m, n, rfl, m0, m1, ⟨a, b, c, hp, a0, b0, b1, c0, c1⟩, hn, q⟩ := h
    refine ⟨_, (pss_cons (ps_if (pt_cmpR op_gt (pe_ix ix_list (pv 0) pe_int (fun _ _ => rfl)) pe_int (nomark _)) (pss_cons (ps_set (i := 2) scTake.nd rfl (Or.inl rfl) (pe_op op_modN (pe_callTy call_int1 (by rfl) zi (by decide +kernel) (pa_cons (pe_ix ix_list (pv 0) pe_int (fun _ _ => rfl)) pa_nil)) (pv 1)))
        (pss_cons (ps_asg (pe_op op_fdivW (pe_ix ix_list (pv 0) pe_int (fun _ _ => rfl)) (pv 1)) (pg_sub (pv 0) pe_int set_list))
        (pss_one (ps_ret (pv 2))))) pss_nil)
      (pss_cons (ps_asg (pe_op op_add (pe_ix ix_list (pv 0) pe_int (fun _ _ => rfl)) pe_int) (pg_sub (pv 0) pe_int set_list))
      (pss_cons (ps_set (i := 3) scTake.nd rfl (Or.inl rfl) (pe_op op_modN (pe_op op_pow (pe_callTy call_int1 (by rfl) zi (by decide +kernel) (pa_cons (pe_op op_add (pe_op op_add (pe_ix ix_list (pv 0) pe_int (fun _ _ => rfl)) (pe_op op_mul pe_int (pe_ix ix_list (pv 0) pe_int (fun _ _ => rfl)))) pe_int) pa_nil)) pe_int) pe_int))
      (pss_cons (ps_set (i := 3) scTake.nd rfl (Or.inl rfl) (pe_op op_modN (pe_op op_pow (pe_callTy call_int1 (by rfl) zi (by decide +kernel) (pa_cons (pe_op op_add (pv 3) (pe_op op_mul pe_int (pe_ix ix_list (pv 0) pe_int (fun _ _ => rfl)))) pa_nil)) pe_int) pe_int))
      (pss_one (ps_ret (pe_op op_modN (pe_callTy call_int1 (by rfl) zi (by decide +kernel) (pa_cons (pe_op op_fdivW (pv 3) pe_int) pa_nil)) (pv 1)))))))), ?_⟩
    refine ⟨_, rfl, p, _, 0, _, rfl, rfl, SqL.of hp, atI_nat (j := 0) rfl, _, _, rfl, rfl, _, rfl, ?_⟩
    refine ite2 (fun z => ?_) (fun z => ?_)
    · refine ⟨_, rfl, p, _, 0, _, rfl, rfl, SqL.of hp, atI_nat (j := 0) rfl, .inl ⟨_, rfl, _, rfl, _, _, rfl, rfl, (by show m ≠ 0; omega), ?_⟩⟩
      refine ⟨_, rfl, p, _, 0, _, rfl, rfl, SqL.of hp, atI_nat (j := 0) rfl, _, rfl, _, _, rfl, rfl, wide_div (b := 200) m0 (by omega) (by decide) (by decide), _, rfl, p, _, 0, 0, rfl, rfl, hp, rfl, ?_⟩
      refine ⟨_, rfl, ?_⟩
      show Q (.int (a.fmod m)) _
      rw [fmod_pos m0]
      exact q _ _ (Int.emod_nonneg _ (by omega)) (Int.emod_lt_of_pos _ m0) Grow.put ⟨_, b, c, upd_same, fdiv_nonneg' a0 m0, b0, b1, c0, by omega⟩
    · refine ⟨_, rfl, p, _, 2, _, rfl, rfl, SqL.of hp, atI_nat (j := 2) rfl, _, _, rfl, rfl, _, rfl, p, _, 2, 2, rfl, rfl, hp, rfl, ?_⟩
      have hp2 : (upd H p (.lst ([V.int a, V.int b, V.int c].set 2 (.int (c + 1))))) p = some (.lst [.int a, .int b, .int (c + 1)]) := upd_same
      refine ⟨_, rfl, p, _, 1, _, rfl, rfl, SqL.of hp2, atI_nat (j := 1) rfl, _, rfl, p, _, 2, _, rfl, rfl, SqL.of hp2, atI_nat (j := 2) rfl, _, _, rfl, rfl, .inl ⟨by omega, by omega⟩, _, _, rfl, rfl, _, _, rfl, rfl, .inl ⟨_, rfl, _, _, rfl, rfl, ⟨by decide, by decide, by omega⟩, _, _, rfl, rfl, (by dsimp only; omega), ?_⟩⟩
      generalize ((b + _ * (c + 1) + _) ^ _ : Int) = y1
      have y2 : 0 ≤ y1.fmod 2147483647 ∧ y1.fmod 2147483647 < 2147483647 := by
        rw [fmod_pos (by decide)]
        exact ⟨Int.emod_nonneg _ (by decide), Int.emod_lt_of_pos _ (by decide)⟩
      refine ⟨_, rfl, _, rfl, p, _, 2, _, rfl, rfl, SqL.of hp2, atI_nat (j := 2) rfl, _, _, rfl, rfl, .inl ⟨by omega, by omega⟩, _, _, rfl, rfl, .inl ⟨_, rfl, _, _, rfl, rfl, ⟨by decide, by decide, by omega⟩, _, _, rfl, rfl, (by dsimp only; omega), ?_⟩⟩
      generalize ((y1.fmod 2147483647 + _ * (c + 1)) ^ _ : Int) = y4
      refine ⟨_, rfl, _, _, rfl, rfl, ⟨by decide, by decide +kernel⟩, .inl ⟨_, rfl, _, rfl, _, _, rfl, rfl, (by show m ≠ 0; omega), ?_⟩⟩
      show Q (.int (Int.fmod _ m)) _
      rw [fmod_pos m0]
      exact q _ _ (Int.emod_nonneg _ (by omega)) (Int.emod_lt_of_pos _ m0) Grow.put ⟨a, b, c + 1, hp2, a0, b0, b1, by omega, by omega⟩
theorem okPatL {f : Addr} {fd : FuncData} (F : Fun K "_law_arrows" "_law_arrows" sPatL f fd) (zr : mg "range" = none) (GT : Own P w K mg base CX0 1 "_law_take" ["_law_box_here", "_law_many"] [] spTakeR) : FnOk P w K mg base CX0 2 f fd ["_law_box_here", "_law_most"] spPatR := by
  refine F.ok scPatL (fun vs H Q E h => ?_) (fun cdv A outer s H vs Q E hr h => ?_)
  · obtain ⟨p, n, m, rfl, _⟩ := h
    rfl
  · obtain ⟨p, n, m, rfl, hm, bx, hn, q⟩ := h
    refine ⟨_, (pss_one (ps_ret (pe_join pe_str (pe_lc (own := [("_law_k", 2)]) (g := gName 2) (tt := tYes) rfl scPatL.nd (pi_range1 rfl zr (pa_cons (pe_own GT hr pass0 (pa_cons (pv 0) (pa_cons (pe_op op_add (pv 1) pe_int) pa_nil))) pa_nil)) (blkOk_by (N := NPatL) (sc := defScope sPatL) (by decide +kernel)) (fun _ _ _ _ _ => (pg_name (i := 2) scPatL.nd rfl (Or.inl rfl))) (fun _ _ _ _ _ => pts_nil) (fun _ _ _ _ _ => (pe_ix ix_str pe_str (pe_own GT hr pass0 (pa_cons (pv 0) (pa_cons pe_int pa_nil))) (fun _ _ => rfl))))))), ?_⟩
    refine ⟨⟨_, rfl⟩, ?_⟩
    refine ⟨_, rfl, _, rfl, _, _, rfl, rfl, p, _, n, rfl, by omega, by omega, bx, by omega, fun r H1 r0 r1 G1 B1 => ?_⟩
    refine ⟨r, rfl, by omega, by omega, fun D hD => ?_⟩
    have pD := B1.ne hD
    refine lc_boxN (walk_rng (n := r.toNat)) (by omega) hD B1 (fun _ _ => trivial) (t := 1) (fun d => ∃ c, isArr c = true ∧ d = .str (sg c)) (by rintro d ⟨c, _, rfl⟩; rfl) ?_ ?_
    · rintro i x H2 hi rfl g2 b2
      refine ⟨rfl, fun k hk => ?_⟩
      refine ⟨_, rfl, p, 2, n + 1 + i * 1, rfl, by decide, by decide, b2, by omega, fun r2 H3 a0 a1 G3 B3 => ?_⟩
      rcases (by omega : r2 = 0 ∨ r2 = 1) with e | e
      · subst e
        exact ⟨_, _, 62, rfl, rfl, (by decide), rfl, hk _ _ _ G3 B3 ⟨62, rfl, rfl⟩ (.str _)⟩
      · subst e
        exact ⟨_, _, 60, rfl, rfl, (by decide), rfl, hk _ _ _ G3 B3 ⟨60, rfl, rfl⟩ (.str _)⟩
    · intro H2 acc ds g2 b2 ha al ld gd
      obtain ⟨cs, e1, e2, e3⟩ : ∃ cs : List Nat, ds = cs.map (fun c => PyData.str (sg c)) ∧ cs.all isArr = true ∧ cs.length = ds.length := by
        clear al ld
        induction ds with
        | nil => exact ⟨[], rfl, rfl, rfl⟩
        | cons d ds ih =>
          obtain ⟨cs, h1, h2, h3⟩ := ih fun e he => gd e (List.mem_cons_of_mem _ he)
          obtain ⟨c, hc, e⟩ := gd d List.mem_cons_self
          exact ⟨c :: cs, by rw [e, h1] <;> rfl, by rw [List.all_cons, hc, h2] <;> rfl, by simp [h3]⟩
      have ea : acc = (cs.map sg).map V.str := by
        rw [e1] at al
        clear e2 e3 e1 ha
        induction cs generalizing acc with
        | nil => cases al; rfl
        | cons c cs ih =>
          cases al with
          | cons a b =>
            cases a
            rw [ih _ b] <;> rfl
      have lc : cs.length ≤ m := by omega
      refine ⟨"", D, cs.map sg, rfl, rfl, .inl (SqL.of (by rw [ha, ea])), ?_, ?_⟩
      · have z1 : ((cs.map sg).map (fun y : Str => y.length)) = cs.map fun _ => 1 := by
          rw [List.map_map] <;> rfl
        have z2 : ∀ l : List Nat, (l.map fun _ => 1).sum = l.length := fun l => by
          induction l with
          | nil => rfl
          | cons a l ih => rw [List.map_cons, List.sum_cons, ih, List.length_cons]; omega
        have z3 : (("" : String) : Str).length = 0 := rfl
        rw [z1, z2, z3]
        omega
      · have j := join_sg cs
        refine q _ H2 ⟨?_, ?_⟩ (G1.trans g2) (b2.more (by omega))
        · have : (Txt.join "" (cs.map sg)).cps.toList.length = cs.length := by rw [j]
          rw [Array.length_toList] at this
          show (Txt.join "" (cs.map sg)).cps.size ≤ m
          omega
        · rw [j]
          exact e2
theorem okBarsL {f : Addr} {fd : FuncData} (F : Fun K "_law_bars" "_law_bars" sBarsL f fd) (zr : mg "range" = none) (zl : mg "len" = none) : FnOk P w K mg base CX0 1 f fd ["_law_arrows_here"] spBarsN := by
  refine F.ok scBarsL (fun vs H Q E h => ?_) (fun cdv A outer s H vs Q E hr h => ?_)
  · obtain ⟨x, rfl, _⟩ := h
    rfl
  · obtain ⟨x, rfl, lx, q⟩ := h
    have lz : x.length ≤ sizeLine := Nat.le_trans lx (by decide)
    refine ⟨_, (pss_cons (ps_set (i := 1) scBarsL.nd rfl (Or.inl rfl) (pe_lst pa_nil))
      (pss_cons (ps_for PassesOwn.never rfl (pi_range1 rfl zr (pa_cons (pe_op op_add (pe_callB call_len_str (by rfl) zl (by decide +kernel) (pa_cons (pv 0) pa_nil)) pe_int) pa_nil)) (pg_name (i := 2) scBarsL.nd rfl (Or.inr rfl)) (pss_one (ps_set (i := 1) scBarsL.nd rfl (Or.inl rfl) (pe_op op_cat (pv 1) (pe_lc (own := [("_law_last", 3)]) (g := gName 3) (tt := tYes) rfl scBarsL.nd (pi_range2 rfl zr (pa_cons (pv 2) (pa_cons (pe_op op_add (pe_callB call_len_str (by rfl) zl (by decide +kernel) (pa_cons (pv 0) pa_nil)) pe_int) pa_nil))) (blkOk_by (N := NBarsL) (sc := defScope sBarsL) (by decide +kernel)) (fun _ _ _ _ _ => (pg_name (i := 3) scBarsL.nd rfl (Or.inl rfl))) (fun _ _ _ _ _ => pts_nil) (fun _ _ _ _ _ => (pe_tup (pa_cons (pv 2) (pa_cons (pv 3) pa_nil)))))))))
      (pss_one (ps_ret (pv 1))))), ?_⟩
    refine ⟨by show 0 ≤ sizeLine; decide, fun F0 hF0 => ?_⟩
    refine ⟨_, rfl, x, rfl, lz, _, _, rfl, rfl, _, rfl, by omega, by omega, ?_⟩
    have en : ((x.length : Int) + 1).toNat = x.length + 1 := by omega
    rw [en]
    generalize hN : x.length + 1 = n
    refine for_range (lo := 0) (n := n) (fun i σ' H' => ∃ Fa acc y2, σ' = [some (.str x), some (.ref Fa), y2, none] ∧ Same H H' ∧ H Fa = none ∧ H' Fa = some (.lst acc) ∧ AnyL H' acc ((preL n i).map barD)) ⟨F0, [], _, rfl, same_new hF0, hF0, upd_same, .nil⟩ ?_ ?_
    · rintro i σ' H1 hi ⟨Fa, acc, y2, rfl, k1, hF, ha, al⟩
      have ei : (0 + (i : Int)) = (i : Int) := by omega
      rw [ei]
      refine ⟨_, rfl, _, rfl, _, rfl, x, rfl, lz, _, _, rfl, rfl, (i : Int), _, rfl, ⟨by omega, by omega, by omega, by omega⟩, fun D hD => ?_⟩
      have em : (((x.length : Int) + 1) - (i : Int)).toNat = n - i := by omega
      rw [em]
      refine lc_tup (n := n - i) walk_range (by omega) hD (fun _ _ => trivial) (fun j => barD (i, i + j)) (fun _ _ => rfl) ?_ ?_
      · rintro j y H2 hj rfl s2 _
        refine ⟨rfl, fun k hk => ?_⟩
        refine ⟨_, rfl, _, rfl, (by show 2 ≤ sizeLine; decide), fun t ht => hk _ _ (same_new ht) (.tup upd_same ?_)⟩
        have e1 : ((i : Int) + (j : Int)) = ((i + j : Nat) : Int) := by omega
        show AnyL _ [V.int (i : Int), V.int ((i : Int) + (j : Int))] _
        rw [e1]
        exact .cons (.int _) (.cons (.int _) .nil)
      · intro H2 ac2 s2 ha2 al2
        have ln1 := anyL_len al
        have ln2 := anyL_len al2
        rw [List.length_map] at ln1
        rw [List.length_map, List.length_range] at ln2
        have h1 := pre_len n i
        have h3 : i * n ≤ 7 * 7 := Nat.mul_le_mul (by omega) (by omega)
        refine ⟨Fa, D, acc, ac2, rfl, rfl, s2 _ _ ha, ha2, Nat.le_trans (by omega : acc.length + ac2.length ≤ 100) (by decide), fun pN hp => ?_⟩
        have k9 := (k1.trans s2).trans (same_new (o := .lst (acc ++ ac2)) hp)
        refine ⟨pN, _, _, rfl, k9, (k1.trans s2).free hp, upd_same, ?_⟩
        have e2 : (preL n (i + 1)).map barD = (preL n i).map barD ++ (List.range (n - i)).map fun j => barD (i, i + j) := by
          rw [pre_succ, List.map_append, part_rng, List.map_map] <;> rfl
        rw [e2]
        exact anyL_app (anyL_keep (s2.trans (same_new hp)) al) (anyL_keep (same_del.trans (same_new hp)) al2)
    · rintro σ' H1 ⟨Fa, acc, y2, rfl, k1, hF, ha, al⟩
      refine ⟨_, rfl, q Fa acc H1 hF k1 ha ?_⟩
      rw [hN]
      exact al

theorem okPrimeL {f : Addr} {fd : FuncData} (F : Fun K "_law_prime" "_law_prime" sPrimeL f fd) (GT : Own P w K mg base CX0 1 "_law_take" ["_law_box_here", "_law_many"] [] spTakeR) : FnOk P w K mg base CX0 2 f fd ["_law_box_here"] spPrimeR := by
  refine F.ok scPrimeL (fun vs H Q E h => ?_) (fun cdv A outer s H vs Q E hr h => ?_)
  · obtain ⟨p, n, rfl, _⟩ := h
    rfl
  · obtain ⟨p, n, rfl, bx, hn, q⟩ := h
    refine ⟨_, (pss_one (ps_ret (pe_ix ix_list (pe_lst (pa_cons pe_int (pa_cons pe_int (pa_cons pe_int (pa_cons pe_int (pa_cons pe_int (pa_cons pe_int (pa_cons pe_int (pa_cons pe_int pa_nil))))))))) (pe_own GT hr pass0 (pa_cons (pv 0) (pa_cons pe_int pa_nil))) (fun _ _ => rfl)))), ?_⟩
    refine ⟨by show 8 ≤ sizeLine; decide, fun l hl => ?_⟩
    have nl : l ≠ p := (bx.ne hl).symm
    refine ⟨_, rfl, p, 8, n, rfl, by decide, by decide, bx.keep (same_new hl), by omega, fun r H' r0 r1 G B => ?_⟩
    obtain ⟨i, rfl⟩ : ∃ i : Nat, r = (i : Int) := ⟨r.toNat, by omega⟩
    have hi : i < ([2, 3, 5, 7, 11, 13, 2, 3] : List Int).length := by show i < 8; omega
    have mem : ∀ z ∈ ([2, 3, 5, 7, 11, 13, 2, 3] : List Int), z ∈ primesL := by decide
    refine ⟨l, ([2, 3, 5, 7, 11, 13, 2, 3] : List Int).map V.int, _, _, rfl, rfl, SqL.of (G l _ nl upd_same), atI_nat (v := .int (([2, 3, 5, 7, 11, 13, 2, 3] : List Int)[i])) (by rw [List.getElem?_map, List.getElem?_eq_getElem hi] <;> rfl), q _ H' (mem _ (List.getElem_mem hi)) ((Grow.of (same_new hl)).trans G) B⟩
theorem okMix {f : Addr} {fd : FuncData} (F : Fun K "_law_mixed" "_law_mixed" sMix f fd) (zl : mg "list" = none) (zr : mg "range" = none) (ze : mg "len" = none) (GT : Own P w K mg base CX0 1 "_law_take" ["_law_box_here", "_law_many"] [] spTakeR) : FnOk P w K mg base CX0 2 f fd ["_law_box_here", "_law_some"] spMixB := by
  refine F.ok scMix (fun vs H Q E h => ?_) (fun cdv A outer s H vs Q E hr h => ?_)
  · obtain ⟨p, l, xs, n, rfl, _⟩ := h
    rfl
  · obtain ⟨p, l, xs, n, rfl, el, nl, x6, bx, hn, q⟩ := h
    refine ⟨_, (pss_cons (ps_set (i := 2) scMix.nd rfl (Or.inr rfl) (pe_callTy call_list_of (by rfl) zl (by decide +kernel) (pa_cons (pv 1) pa_nil)))
    (pss_one (ps_ret (pe_lc (own := [("_law_k", 3)]) (g := gName 3) (tt := tYes) (te := tPop K) rfl scMix.nd (pi_range1 rfl zr (pa_cons (pe_callB call_len_seq (by rfl) ze (by decide +kernel) (pa_cons (pv 1) pa_nil)) pa_nil)) (blkOk_by (N := NMix) (sc := defScope sMix) (by decide +kernel)) (fun _ _ _ _ _ => (pg_name (i := 3) scMix.nd rfl (Or.inl rfl))) (fun _ _ _ _ _ => pts_nil) (fun _ _ _ _ _ => (pe_bm PySem.F.plainAttrs_list PySem.F.slot_list_pop PySem.F.type_list_pop mt_popAt (pv 2) (pa_cons (pe_own GT (hr.mono (by decide)) pass0 (pa_cons (pv 0) (pa_cons (pe_callB call_len_seq (by rfl) ze (by decide +kernel) (pa_cons (pv 2) pa_nil)) pa_nil))) pa_nil))))))), ?_⟩
    refine ⟨_, rfl, l, xs, rfl, .inl (SqL.of el), fun Lf hLf => ?_⟩
    have k1 := same_new (o := .lst xs) hLf
    have nLf := bx.ne hLf
    have eL := upd_same (H := H) (a := Lf) (o := .lst xs)
    have b1 := bx.keep k1
    generalize upd H Lf (.lst xs) = H1 at k1 eL b1 ⊢
    refine ⟨_, rfl, l, xs, rfl, .inl (SqL.of (k1 _ _ el)), ((xs.length : Nat) : Int), rfl, by omega, by omega, fun D hD => ?_⟩
    have hD0 := k1.free hD
    have nD := b1.ne hD
    have nDL : D ≠ Lf := fun z => by rw [z, eL] at hD; cases hD
    refine lc_it (walk_rng (n := xs.length)) (te := tPop K) (Pv := fun i H' => Grow p H H' ∧ Bx H' p (n + i) ∧ ∃ ac left, H' Lf = some (.lst left) ∧ H' D = some (.lst ac) ∧ ac.length = i ∧ (ac ++ left).Perm xs) ⟨growB_put (Grow.of k1) hD0, bxB_put b1 nD.symm, [], xs, by rw [upd_ne nDL.symm]; exact eL, upd_same, rfl, List.Perm.refl _⟩ (fun i H' _ h => trivial) ?_ ?_
    · rintro i y H9 H2 hi ⟨g2, b2, ac, left, eLf, eD, lac, pm⟩ hy
      obtain ⟨rfl, rfl⟩ := hy
      have ll := pm.length_eq
      rw [List.length_append, lac] at ll
      refine ⟨rfl, ?_⟩
      unfold tYes
      refine Eq.mpr (if_pos (rfl : true = true)) ?_
      refine ⟨_, rfl, .inl ⟨rfl, _, SqL.of eLf⟩, _, rfl, _, rfl, Lf, left, rfl, .inl (SqL.of eLf), p, ((left.length : Nat) : Int), n + i, rfl, by omega, Int.lt_of_le_of_lt (by omega : _ ≤ (60 : Int)) (by decide), b2, by omega, fun r H3 r0 r1 G3 B3 => ?_⟩
      obtain ⟨k, rfl⟩ : ∃ j : Nat, r = (j : Int) := ⟨r.toNat, by omega⟩
      have hk : k < left.length := by omega
      have eL3 := G3 _ _ nLf.symm eLf
      have eD3 := G3 _ _ nD.symm eD
      refine ⟨Lf, left, (k : Int), k, left[k], rfl, rfl, eL3, by omega, by omega, ixn2 hk, List.getElem?_eq_getElem hk, ?_⟩
      have eD4 : (upd H3 Lf (.lst (left.eraseIdx k))) D = some (.lst ac) := by rw [upd_ne nDL]; exact eD3
      refine ⟨ac, eD4, Nat.lt_of_le_of_lt (by omega : ac.length ≤ 100) (by decide), growB_put (growB_put (g2.trans G3) hLf) hD0, bxB_put (bxB_put (B3.more (by omega)) nLf.symm) nD.symm, ac ++ [left[k]], left.eraseIdx k, by rw [upd_ne nDL.symm]; exact upd_same, upd_same, by rw [List.length_append, lac] <;> rfl, ?_⟩
      rw [List.append_assoc]
      exact ((eraseB_perm left k _ (List.getElem?_eq_getElem hk)).append_left ac).trans pm
    · rintro H2 ⟨g2, b2, ac, left, eLf, eD, lac, pm⟩
      have ll := pm.length_eq
      rw [List.length_append, lac] at ll
      have e0 : left = [] := List.eq_nil_of_length_eq_zero (by omega)
      rw [e0, List.append_nil] at pm
      exact q D ac H2 hD0 g2 b2 eD pm
end
end K53

set_option Elab.async false
set_option linter.all false
set_option maxRecDepth 100000
set_option maxHeartbeats 4000000
/-! K53F: the law: numbers drawn. -/
namespace Rw
open PySem PySem.Spec PyProof.Rows L2
theorem bars_pos : ∀ n, n < 8 → 0 < n → 0 < (barsL n).length := by decide +kernel
theorem sizes_nil (n : Nat) : (sizesT n []).map V.int = List.replicate (n + 1) (.int 0) := by
  unfold sizesT
  rw [List.map_map]
  have : ∀ k, (List.range k).map (V.int ∘ fun i => ((szN [] i : Nat) : Int)) = List.replicate k (.int 0) := fun k => by
    induction k with
    | zero => rfl
    | succ k ih => rw [List.range_succ, List.map_append, ih, List.replicate_succ'] <;> rfl
  exact this (n + 1)
theorem sizes_len (n : Nat) (T : Nums) : ((sizesT n T).map V.int).length = n + 1 := by unfold sizesT; rw [List.length_map, List.length_map, List.length_range]
theorem sizes_at {n : Nat} {T : Nums} {i : Nat} (h : i ≤ n) : ((sizesT n T).map V.int)[i]? = some (.int ((szN T i : Nat) : Int)) := by
  unfold sizesT
  rw [List.getElem?_map, List.getElem?_map, List.getElem?_range (by omega)] <;> rfl
/-- the sizes of the places of a bar -/
def midS (T : Nums) (b e : Nat) : List Int := (List.range (e + 1 - b)).map fun j => ((szN T (b + j) : Nat) : Int)
theorem mid_cut {n : Nat} {T : Nums} {b e : Nat} (h1 : b ≤ e) (h2 : e ≤ n) : cutV ((sizesT n T).map V.int) (some ((b : Nat) : Int)) (some (((e : Nat) : Int) + 1)) = (midS T b e).map V.int := by
  rw [show ((e : Nat) : Int) + 1 = ((e + 1 : Nat) : Int) by omega]
  have e1 : HT.sIx ((sizesT n T).map V.int).length 0 (some ((b : Nat) : Int)) = b := by rw [HT.sIx_nat, sizes_len, Nat.min_eq_left (by omega)]
  have e2 : HT.sIx ((sizesT n T).map V.int).length ((sizesT n T).map V.int).length (some ((e + 1 : Nat) : Int)) = e + 1 := by rw [HT.sIx_nat, sizes_len, Nat.min_eq_left (by omega)]
  unfold cutV
  rw [e1, e2]
  apply List.ext_getElem?
  intro j
  by_cases hj : j < e + 1 - b
  · rw [List.getElem?_take_of_lt hj, List.getElem?_drop, sizes_at (by omega)]
    unfold midS
    rw [List.getElem?_map, List.getElem?_map, List.getElem?_range hj] <;> rfl
  · rw [List.getElem?_take_eq_none (by omega)]
    unfold midS
    rw [List.getElem?_map, List.getElem?_map, List.getElem?_eq_none (by rw [List.length_range]; omega)] <;> rfl
theorem growB_free {H H' : Hp} {p t : Addr} {n : Nat} (g : Grow p H H') (b : Bx H' p n) (h : H' t = none) : H t = none := by
  cases e : H t with
  | none => rfl
  | some o =>
    have ne : t ≠ p := (b.ne h).symm
    rw [g _ _ ne e] at h
    cases h
end Rw
namespace K53
open PySem PySem.Spec PyProof.Rows L2 Rw
abbrev sSome : Stmt := top 49
abbrev NSome : List Str := ["_law_box_here", "_law_arrows_here", "_law_high", "_law_held", "_law_sizes", "_law_turn", "_law_bar", "_law_place", "_law_size"]
theorem scSome : FnScope NSome ["_law_box_here", "_law_arrows_here", "_law_high"] (defScope sSome) := ⟨rfl, rfl, rfl, by decide +kernel, rfl, by decide +kernel, by decide +kernel⟩
abbrev gPS (K : PySem.W.Frag) : TG := gTup K 2 (gCons (gName 7) (gCons (gName 8) gNil))
abbrev tMore (K : PySem.W.Frag) : TE := tOp (rI0 fun i j => .int (i + j)) (tVar 8) (tCB rInt1 (tCons (tChain rLe rLe (tOp (rIxT K) (tVar 6) (tC (.int 0))) (tVar 7) (tOp (rIxT K) (tVar 6) (tC (.int 1)))) tNil))
section
variable {P : Program} {w : World} {K : PySem.W.Frag} {mg : Str → Option Value} {base : Heap}
theorem okSome {f : Addr} {fd : FuncData} (F : Fun K "_law_some_numbers" "_law_some_numbers" sSome f fd) (zl : mg "len" = none) (zr : mg "range" = none) (zm : mg "max" = none) (ze : mg "enumerate" = none) (zi : mg "int" = none) (GT : Own P w K mg base CX0 1 "_law_take" ["_law_box_here", "_law_many"] [] spTakeR)
    (GB : Own P w K mg base CX0 1 "_law_bars" ["_law_arrows_here"] [] spBarsN) (GM : Own P w K mg base CX0 2 "_law_mixed" ["_law_box_here", "_law_some"] [] spMixB) : FnOk P w K mg base CX0 3 f fd ["_law_box_here", "_law_arrows_here", "_law_high"] spSomeN := by
  refine F.ok scSome (fun vs H Q E h => ?_) (fun cdv A outer s H vs Q E hr h => ?_)
  · obtain ⟨p, x, h, n, rfl, _⟩ := h
    rfl
  · obtain ⟨p, x, h, n, rfl, px, h6, bx, hn, q⟩ := h
    have lx := px.l
    refine ⟨_, (pss_cons (ps_par (i := 3) (j := 4) (by rfl) scSome.nd rfl rfl (by decide) rfl rfl (pa_cons pe_dnewT (pa_cons (pe_op op_rep (pe_lst (pa_cons pe_int pa_nil)) (pe_op op_add (pe_callB call_len_str (by rfl) zl (by decide +kernel) (pa_cons (pv 1) pa_nil)) pe_int)) pa_nil)) (by rfl))
      (pss_cons (ps_for PassesOwn.never rfl (pi_range1 rfl zr (pa_cons (pe_own GT (hr.mono (by decide)) pass0 (pa_cons (pv 0) (pa_cons pe_int pa_nil))) pa_nil)) (pg_name (i := 5) scSome.nd rfl (Or.inl rfl)) (pss_cons (ps_set (i := 6) scSome.nd rfl (Or.inr rfl) (pe_ix ix_list (pe_own GM (hr.mono (by decide)) pass0 (pa_cons (pv 0) (pa_cons (pe_own GB (hr.mono (by decide)) pass0 (pa_cons (pv 1) pa_nil)) pa_nil))) pe_int (fun _ _ => rfl)))
        (pss_one (ps_if (pt_cmpR op_lt (pe_callB (cr_max rfl) (by rfl) zm (by decide +kernel) (pa_cons (pe_slice sl_list (pv 4) (po_some (pe_ix ix_tup (pv 6) pe_int (fun _ _ => rfl))) (po_some (pe_op op_add (pe_ix ix_tup (pv 6) pe_int (fun _ _ => rfl)) pe_int))) pa_nil)) (pv 2) (nomark _)) (pss_cons (ps_dput (hu_of hr) (pv 3) (pv 6) (pe_op op_add (pe_dget2 (hu_of hr) (pv 3) (pv 6) pe_int ⟨rfl, rfl, rfl, rfl⟩) pe_int) rfl)
          (pss_one (ps_setLc (i := 4) (own := [("_law_place", 7), ("_law_size", 8)]) (g := gPS K) (tt := tYes) (te := tMore K) rfl scSome.nd rfl rfl (sw_true rfl rfl rfl (by decide +kernel)) (pi_enumB (by rfl) ze (pa_cons (pv 4) pa_nil)) (blkOk_by (N := NSome) (sc := defScope sSome) (by decide +kernel)) (fun _ _ _ _ _ => (pg_tup rfl (pgs_cons (pg_name (i := 7) scSome.nd rfl (Or.inl rfl)) (pgs_cons (pg_name (i := 8) scSome.nd rfl (Or.inl rfl)) pgs_nil)))) (fun _ _ _ _ _ => pts_nil) (fun _ _ _ _ _ => (pe_op op_add (pv 8) (pe_callTy call_int1 (by rfl) zi boot_int (pa_cons (pe_chain op_le op_le (pe_ix ix_tup (pv 6) pe_int (fun _ _ => rfl)) (pv 7) (pe_ix ix_tup (pv 6) pe_int (fun _ _ => rfl))) pa_nil))))))) pss_nil))))
      (pss_one (ps_frz (ps_ret (pe_tup (pa_cons (pv 3) (pa_cons (pv 4) pa_nil)))))))), ?_⟩
    -- an empty dict, zeros
    refine fun d hd => ?_
    have k0 := same_new (o := .dT []) hd
    have ed := upd_same (H := H) (a := d) (o := .dT [])
    have b0 := bx.keep k0
    have nd := bx.ne hd
    generalize upd H d (.dT []) = H0 at k0 ed b0 ⊢
    refine ⟨by show 1 ≤ sizeLine; decide, fun l0 hl0 => ?_⟩
    have k1 := same_new (o := .lst [.int 0]) hl0
    have el0 := upd_same (H := H0) (a := l0) (o := .lst [.int 0])
    have ed1 := k1 _ _ ed
    have b1 := b0.keep k1
    generalize upd H0 l0 (.lst [.int 0]) = H1 at k1 el0 ed1 b1 ⊢
    refine ⟨_, rfl, x, rfl, Nat.le_trans lx (by decide), _, _, rfl, rfl, ?_⟩
    refine ⟨l0, ((x.length : Nat) : Int) + 1, [.int 0], rfl, rfl, el0, by omega, by omega, ?_, fun l hl => ?_⟩
    · rw [show (((x.length : Nat) : Int) + 1).toNat = x.length + 1 by omega]
      show 1 * (x.length + 1) ≤ sizeLine
      exact Nat.le_trans (by omega : 1 * (x.length + 1) ≤ 100) (by decide)
    rw [show (((x.length : Nat) : Int) + 1).toNat = x.length + 1 by omega, flat_one, ← sizes_nil]
    have k2 := same_new (o := .lst ((sizesT x.length []).map V.int)) hl
    have el := upd_same (H := H1) (a := l) (o := .lst ((sizesT x.length []).map V.int))
    have ed2 := k2 _ _ ed1
    have b2 := b1.keep k2
    have kk := (k0.trans k1).trans k2
    have hlH : H l = none := (k0.trans k1).free hl
    generalize upd H1 l (.lst ((sizesT x.length []).map V.int)) = H2 at k2 el ed2 b2 kk ⊢
    refine ⟨_, _, rfl, ?_⟩
    refine ⟨_, rfl, p, 10, n, rfl, by decide, by decide, b2, by omega, fun r H3 r0 r1 G3 B3 => ⟨_, rfl, by omega, by omega, ?_⟩⟩
    obtain ⟨m, rfl⟩ : ∃ m : Nat, r = ((m : Nat) : Int) := ⟨r.toNat, by omega⟩
    rw [show ((m : Nat) : Int).toNat = m by omega]
    refine for_range (lo := 0) (n := m) (fun i σ' H' => ∃ y5 y6 l T, σ' = [some (.ref p), some (.str x), some (.int ((h : Nat) : Int)), some (.ref d), some (.ref l), y5, y6, none, none] ∧ Grow p H H' ∧ Bx H' p (n + 1 + i * 60) ∧ H l = none ∧ H' l = some (.lst ((sizesT x.length T).map V.int)) ∧ H' d = some (.dT (nmT T)) ∧ DrawN x.length h T ∧ T.length ≤ i)
      ⟨_, _, l, [], rfl, (Grow.of kk).trans G3, by simpa using B3, hlH, G3 _ _ (b1.ne hl).symm el, G3 _ _ nd.symm ed2, ⟨List.nodup_nil, (fun q hq => by cases hq), (fun q hq => by cases hq), fun i _ => Nat.zero_le _⟩, Nat.zero_le _⟩ ?_ ?_
    · rintro i σ' H4 hi ⟨y5, y6, l', T, rfl, G4, B4, hl', el', ed', dn, lT⟩
      have nl' : l' ≠ p := (bx.ne hl').symm
      have hi10 : i < 10 := by omega
      refine ⟨_, rfl, _, rfl, x, rfl, lx, fun L acc H5 hL k5 eL al => ?_⟩
      have nL : L ≠ p := (B4.ne hL).symm
      have lacc := anyL_len al
      rw [List.length_map] at lacc
      have b49 := bars_len (n := x.length + 1) (by omega)
      have bpos := bars_pos (x.length + 1) (by omega) (by omega)
      refine ⟨p, L, acc, n + 1 + i * 60, rfl, eL, nL, by omega, B4.keep k5, by omega, fun D ys H6 hD G6 B6 eD pm => ?_⟩
      have ly := pm.length_eq
      have y0 : 0 < ys.length := by omega
      obtain ⟨q0, hq0, b, hys, hq5⟩ : ∃ q0 : Nat × Nat, q0 ∈ barsL (x.length + 1) ∧ ∃ b, ys[0]? = some (.ref b) ∧ PairAt H5 b q0.1 q0.2 := by
        have m0 : ys[0] ∈ acc := pm.mem_iff.mp (List.getElem_mem y0)
        obtain ⟨j, hj⟩ := List.mem_iff_getElem?.mp m0
        obtain ⟨dd, h1, h2⟩ := anyL_at al hj
        rw [List.getElem?_map] at h1
        obtain ⟨q0, h3, rfl⟩ := Option.map_eq_some_iff.mp h1
        obtain ⟨b, e1, h4⟩ := bar_at (b := q0.1) (e := q0.2) h2
        exact ⟨q0, List.mem_of_getElem? h3, b, by rw [List.getElem?_eq_getElem y0, e1], h4⟩
      obtain ⟨q1, q2⟩ := bars_mem hq0
      have nb : b ≠ p := fun z => by
        obtain ⟨_, _, _, e1, _⟩ := B4.keep k5
        have hq6 : H5 b = some _ := hq5
        rw [z, e1] at hq6
        cases hq6
      have hp6 : PairAt H6 b q0.1 q0.2 := G6 _ _ nb hq5
      have el6 := G6 _ _ nl' (k5 _ _ el')
      have ed6 := G6 _ _ nd.symm (k5 _ _ ed')
      have g6 : Grow p H H6 := (G4.trans (Grow.of k5)).trans G6
      have b6 := B6
      refine ⟨D, ys, 0, .ref b, rfl, rfl, SqL.of eD, atI_nat (j := 0) hys, ?_⟩
      refine ⟨_, rfl, _, rfl, b, _, _, _, rfl, rfl, SqT.of hp6, atI_nat (j := 0) rfl, _, rfl, _, rfl, b, _, _, _, rfl, rfl, SqT.of hp6, atI_nat (j := 1) rfl, _, _, rfl, rfl, _, rfl, l', _, rfl, SqL.of el6, fun S hS => ?_⟩
      rw [mid_cut q1 (by omega)]
      have k7 := same_new (o := .lst ((midS T q0.1 q0.2).map V.int)) hS
      have eS := upd_same (H := H6) (a := S) (o := .lst ((midS T q0.1 q0.2).map V.int))
      have hp7 := hp6.keep k7
      have el7 := k7 _ _ el6
      have ed7 := k7 _ _ ed6
      have b7 := b6.keep k7
      have g7 := g6.trans (Grow.of k7)
      generalize upd H6 S (.lst ((midS T q0.1 q0.2).map V.int)) = H7 at k7 eS hp7 el7 ed7 b7 g7 ⊢
      refine ⟨S, _, rfl, SqL.of eS, by unfold midS; rw [List.length_map, List.length_range]; omega, fun M hM hmax => ?_⟩
      refine ⟨_, rfl, _, _, rfl, rfl, _, rfl, ite2 (fun z => ?_) (fun z => ?_)⟩
      · have z2 : M < ((h : Nat) : Int) := of_decide_eq_true z
        have low : ∀ i, q0.1 ≤ i → i ≤ q0.2 → szN T i < h := fun i h1 h2 => by
          have : ((szN T i : Nat) : Int) ≤ M := hmax _ (by
            unfold midS
            refine List.mem_map.mpr ⟨i - q0.1, List.mem_range.mpr (by omega), ?_⟩
            rw [show q0.1 + (i - q0.1) = i by omega])
          omega
        refine ⟨_, rfl, d, rfl, .inr ⟨_, .inl ed7⟩, _, rfl, _, DGet.t (k := keyT q0) ed7 hp7, ?_⟩
        rw [val_nm]
        refine ⟨_, _, rfl, rfl, _, rfl, _, rfl, d, _, rfl, DPut.t (k := keyT q0) ed7 hp7 ?_, ?_⟩
        · refine Nat.lt_of_le_of_lt (?_ : _ ≤ 10) (by decide)
          unfold nmT
          rw [List.length_map]
          omega
        dsimp only
        rw [put_inc dn.nd]
        have ndl : l' ≠ d := ne_of el7 ed7 (fun z => by cases z)
        have el8 : (upd H7 d (.dT (nmT (incN T q0)))) l' = some (.lst ((sizesT x.length T).map V.int)) := by rw [upd_ne ndl]; exact el7
        have ed8 := upd_same (H := H7) (a := d) (o := .dT (nmT (incN T q0)))
        have hp8 : PairAt (upd H7 d (.dT (nmT (incN T q0)))) b q0.1 q0.2 := by
          show upd H7 d _ b = _
          rw [upd_ne (ne_of hp7 ed7 (fun z => by cases z))]
          exact hp7
        have b8 := bxB_put (o := .dT (nmT (incN T q0))) b7 nd.symm
        have g8 := growB_put (o := .dT (nmT (incN T q0))) g7 hd
        generalize upd H7 d (.dT (nmT (incN T q0))) = H8 at el8 ed8 hp8 b8 g8 ⊢
        refine ⟨_, rfl, l', true, _, rfl, SqL.of el8, fun D8 hD8 => ?_⟩
        refine lc_it walk_enumB (te := tMore K) (Pv := fun k H' => Same H8 H' ∧ H' D8 = some (.lst (((sizesT x.length (incN T q0)).map V.int).take k))) ⟨same_new hD8, upd_same⟩ (fun k H' _ z => SqL.of (z.1 _ _ el8)) ?_ ?_
        · rintro k y H9 H10 hk ⟨k9, e9⟩ ⟨T1, v1, v2, rfl, hT, rfl, h1, h2⟩
          cases h1
          rw [sizes_len] at hk
          have hv2 : v2 = .int ((szN T k : Nat) : Int) := by
            have h3 : ((sizesT x.length T).map V.int)[k]? = some v2 := h2
            rw [sizes_at (by omega)] at h3
            exact (Option.some.inj h3).symm
          subst hv2
          have kT : Same H9 (upd H9 T1 (.tup [.int (k : Nat), .int ((szN T k : Nat) : Int)])) := same_new hT
          have eT := upd_same (H := H9) (a := T1) (o := .tup [.int (k : Nat), .int ((szN T k : Nat) : Int)])
          generalize upd H9 T1 (.tup [.int (k : Nat), .int ((szN T k : Nat) : Int)]) = H10 at kT eT ⊢
          have hp10 := hp8.keep (k9.trans kT)
          refine ⟨T1, _, rfl, SqT.of eT, rfl, _, _, rfl, _, _, rfl, rfl, rfl, ?_⟩
          unfold tYes
          refine Eq.mpr (if_pos (rfl : true = true)) ?_
          refine ⟨_, rfl, chain_go (ix_go (j := 0) rfl hp10 rfl) (var_go rfl) (ix_go (j := 1) rfl hp10 rfl) (.inr ⟨_, rfl, _, _, rfl, rfl, ?_⟩)⟩
          refine ⟨_, kT _ _ e9, ?_, fun y o ey => ?_, ?_⟩
          · refine Nat.lt_of_le_of_lt (?_ : _ ≤ 100) (by decide)
            rw [List.length_take, sizes_len]
            omega
          · rw [upd_ne (ne_of_none ey hD8)]
            exact kT _ _ (k9 _ _ ey)
          · rw [upd_same, List.take_add_one, sizes_at (by omega), inc_sz]
            refine congrArg (fun z => some (HO.lst (_ ++ [z]))) ?_
            unfold covB
            by_cases c : q0.1 ≤ k ∧ k ≤ q0.2
            · rw [decide_eq_true c, decide_eq_true c.1, decide_eq_true c.2] <;> rfl
            · rw [decide_eq_false c]
              have c2 : (decide (q0.1 ≤ k) && decide (k ≤ q0.2)) = false := by
                cases e1 : (decide (q0.1 ≤ k) && decide (k ≤ q0.2)) with
                | false => rfl
                | true =>
                  rw [Bool.and_eq_true] at e1
                  exact (c ⟨of_decide_eq_true e1.1, of_decide_eq_true e1.2⟩).elim
              rw [c2] <;> rfl
        · rintro H9 ⟨k9, e9⟩
          rw [sizes_len, ← sizes_len x.length (incN T q0), List.take_length] at e9
          have b9 := b8.keep k9
          refine ⟨_, _, D8, incN T q0, rfl, g8.trans (Grow.of k9), b9.more ?_, growB_free g8 b8 hD8, e9, k9 _ _ ed8, draw_inc dn q1 (by omega) low, Nat.le_trans (inc_len T q0) (by omega)⟩
          rw [Nat.succ_mul]
          omega
      · refine ⟨_, _, l', T, rfl, g7, b7.more ?_, hl', el7, ed7, dn, by omega⟩
        rw [Nat.succ_mul]
        omega
    · rintro σ' H4 ⟨y5, y6, l', T, rfl, G4, B4, hl', el', ed', dn, lT⟩
      refine ⟨d, _, ed', trivial, fun o => ?_⟩
      have ndl : l' ≠ d := ne_of el' ed' (fun z => by cases z)
      refine ⟨_, rfl, _, rfl, by show 2 ≤ sizeLine; decide, fun t ht => ?_⟩
      have b5 := bxB_put (o := .frz o (.dT (nmT T))) B4 nd.symm
      have g5 := growB_put (o := .frz o (.dT (nmT T))) G4 hd
      have kt := same_new (o := .tup [.ref d, .ref l']) ht
      refine q t d l' T _ (growB_free g5 b5 ht) hd hl' (g5.trans (Grow.of kt)) ((b5.keep kt).more (by omega)) upd_same ⟨o, kt _ _ upd_same⟩ (kt _ _ (by rw [upd_ne ndl]; exact el')) dn (by omega)
end
end K53

set_option Elab.async false
set_option linter.all false
set_option maxRecDepth 100000
set_option maxHeartbeats 4000000
/-! K53K: the law: what is raised, caught. -/
namespace K53
open PySem PySem.Spec PyProof.Rows L2 Rw
abbrev sCaught : Stmt := top 51
abbrev NCaught : List Str := ["_law_way", "_law_arrows_here", "_law_p", "_law_some", "_law_sign", "_law_thing", "e"]
theorem scCaught : FnScope NCaught ["_law_way", "_law_arrows_here", "_law_p", "_law_some", "_law_sign", "_law_thing"] (defScope sCaught) := ⟨rfl, rfl, rfl, by decide +kernel, rfl, by decide +kernel, by decide +kernel⟩
/-- a generator def at hand by its name -/
structure OwnGn (P : Program) (w : World) (K : PySem.W.Frag) (mg : Str → Option Value) (base : Heap) (k : Nat) (x : Str) (ps : List Str) (sp : SpG) : Prop where
  has : ∃ (f : Addr) (fd : FuncData), mg x = some (.ref f) ∧ PySem.W.keepIn K (.ref f) = true ∧ GFn P w K mg base k f fd ps sp ∧ Binds K fd ps []
structure TxC (K : PySem.W.Frag) (mg : Str → Option Value) (CR CP CT CZ CN CG CW : Addr) : Prop where
  gR : mg "RowError" = some (.ref CR)
  xtt : PySem.W.exmOne K (.ref CT) (.ref CT) = some true
  xpt : PySem.W.exmOne K (.ref CP) (.ref CT) = some false
  xpp : PySem.W.exmOne K (.ref CP) (.ref CP) = some true
  xnt : PySem.W.exmOne K (.ref CN) (.ref CT) = some false
  xnp : PySem.W.exmOne K (.ref CN) (.ref CP) = some false
  xnn : PySem.W.exmOne K (.ref CN) (.ref CN) = some true
  xgt : PySem.W.exmOne K (.ref CG) (.ref CT) = some false
  xgp : PySem.W.exmOne K (.ref CG) (.ref CP) = some false
  xgn : PySem.W.exmOne K (.ref CG) (.ref CN) = some false
  xgg : PySem.W.exmOne K (.ref CG) (.ref CG) = some true
  xwt : PySem.W.exmOne K (.ref CW) (.ref CT) = some false
  xwp : PySem.W.exmOne K (.ref CW) (.ref CP) = some false
  xwn : PySem.W.exmOne K (.ref CW) (.ref CN) = some false
  xwg : PySem.W.exmOne K (.ref CW) (.ref CG) = some false
  xww : PySem.W.exmOne K (.ref CW) (.ref CW) = some true
  xzt : PySem.W.exmOne K (.ref CZ) (.ref CT) = some false
  xzp : PySem.W.exmOne K (.ref CZ) (.ref CP) = some false
  xzn : PySem.W.exmOne K (.ref CZ) (.ref CN) = some false
  xzg : PySem.W.exmOne K (.ref CZ) (.ref CG) = some false
  xzw : PySem.W.exmOne K (.ref CZ) (.ref CW) = some false
  xzz : PySem.W.exmOne K (.ref CZ) (.ref CZ) = some true
  st : PySem.W.subIn K (.ref CT) (.type "StopIteration") = some false
  sp : PySem.W.subIn K (.ref CP) (.type "StopIteration") = some false
  sn : PySem.W.subIn K (.ref CN) (.type "StopIteration") = some false
  sg : PySem.W.subIn K (.ref CG) (.type "StopIteration") = some false
  sw : PySem.W.subIn K (.ref CW) (.type "StopIteration") = some false
  sz : PySem.W.subIn K (.ref CZ) (.type "StopIteration") = some false
def spCau : Sp := fun vs H Q _ => ∃ way v1 v2 v3 v4 v5, vs = [.int way, v1, v2, v3, v4, v5] ∧
  ((way = 0 ∧ AskG v1 v3 v4 v5 H (Out H Q [.str "pattern", v1]) (Out H Q [.str "numbers", v3]) (Out H Q [.str "arrow", v4]) (Out H Q [.str "size", v5]) (fun k => Out H Q [.str "large", .int k])) ∨
   (way = 1 ∧ AskW v1 v2 v3 v4 v5 H (Out H Q [.str "pattern", v1]) (Out H Q [.str "prime", v2]) (Out H Q [.str "numbers", v3]) (Out H Q [.str "arrow", v4]) (Out H Q [.str "numbers", v5]) (fun k => Out H Q [.str "large", .int k]) (∀ k : Int, Out H Q [.str "told", .int k])))
section
variable {P : Program} {w : World} {K : PySem.W.Frag} {mg : Str → Option Value} {base : Heap} {aI aT CR CP CT CZ CN CG CW : Addr} {kI : List (Int × Value)} {kT : List (Str × Value)}
theorem okCaught {f : Addr} {fd : FuncData} (F : Fun K "_law_caught" "_law_caught" sCaught f fd) (T : Txt K w mg aI aT CP CT CZ CN CG kI kT) (eW : Err K mg "InvalidArrow" CW) (TC : TxC K mg CR CP CT CZ CN CG CW) (zlist : mg "list" = none) (GN : OwnGn P w K mg base 7 "numbers_after" ["pattern", "numbers", "arrow", "size"] (spAfter CT CN CW CG CZ))
    (GW : Own P w K mg base (L2.CX P w) 7 "ways_after" ["pattern", "prime", "numbers", "arrow", "after"] [] (spWays CT CP CN CW CG)) : FnOk P w K mg base CX0 12 f fd ["_law_way", "_law_arrows_here", "_law_p", "_law_some", "_law_sign", "_law_thing"] spCau := by
  obtain ⟨fg, fdg, hm, hk, Fg, bg⟩ := GN.has
  refine F.ok scCaught (fun vs H Q E h => ?_) (fun cdv A outer s H vs Q E hr h => ?_)
  · obtain ⟨way, v1, v2, v3, v4, v5, rfl, _⟩ := h
    rfl
  · obtain ⟨way, v1, v2, v3, v4, v5, rfl, h⟩ := h
    refine ⟨_, (pss_one (ps_tries (tb := fun W => tSeq (tIfS (tTest (tOp rEq (tVar 0) (tC (.int 0)))) (tRet (tLst (tCons (tC (.str "told")) (tCons (tCB (Evl.rLenS K) (tCons (tListS K (spAfter CT CN CW CG CZ) [] W (tCons (tVar 1) (tCons (tVar 3) (tCons (tVar 4) (tCons (tVar 5) tNil))))) tNil)) tNil)))) tNext)
        (tRet (tLst (tCons (tC (.str "told")) (tCons (tOwnS (spWays CT CP CN CW CG) [] W (tCons (tVar 1) (tCons (tVar 2) (tCons (tVar 3) (tCons (tVar 4) (tCons (tVar 5) tNil)))))) tNil))))) rfl rfl scCaught.nd takes0
      (fun W pn xe tk pw => (pss_cons (ps_if (pt_cmpR op_eq (pv 0) pe_int (nomark _)) (pss_one (ps_ret (pe_lst (pa_cons pe_str (pa_cons (pe_callB call_len_seq (by rfl) T.len (by decide +kernel) (pa_cons (pe_listS (W := W) Fg (hr.mono (by decide)) (fun σ => passAt tk σ) (by rfl) hm hk bg .nil (pa_cons (pv 1) (pa_cons (pv 3) (pa_cons (pv 4) (pa_cons (pv 5) pa_nil)))) (by rfl) zlist (by decide +kernel)) pa_nil)) pa_nil))))) pss_nil)
        (pss_one (ps_ret (pe_lst (pa_cons pe_str (pa_cons (pe_ownS (W := W) GW (hr.mono (by decide)) (fun σ => passAt tk σ) (pa_cons (pv 1) (pa_cons (pv 2) (pa_cons (pv 3) (pa_cons (pv 4) (pa_cons (pv 5) pa_nil)))))) pa_nil)))))))
      (.as (i := 6) rfl rfl ⟨rfl, by decide, .inl T.eT.g⟩ (fun a oe cls d pn hz hf => pss_one (ps_ret (pe_lst (pa_cons pe_str (pa_cons (pe_xf T.eT.xf T.eT.no hz hf (pv 6)) pa_nil)))))
      (.as (i := 6) rfl rfl ⟨rfl, by decide, .inl T.eP.g⟩ (fun a oe cls d pn hz hf => pss_one (ps_ret (pe_lst (pa_cons pe_str (pa_cons (pe_xf T.eP.xf T.eP.no hz hf (pv 6)) pa_nil)))))
      (.as (i := 6) rfl rfl ⟨rfl, by decide, .inl T.eN.g⟩ (fun a oe cls d pn hz hf => pss_one (ps_ret (pe_lst (pa_cons pe_str (pa_cons (pe_xf T.eN.xf T.eN.no hz hf (pv 6)) pa_nil)))))
      (.as (i := 6) rfl rfl ⟨rfl, by decide, .inl T.eG.g⟩ (fun a oe cls d pn hz hf => pss_one (ps_ret (pe_lst (pa_cons pe_str (pa_cons (pe_xf T.eG.xf T.eG.no hz hf (pv 6)) pa_nil)))))
      (.as (i := 6) rfl rfl ⟨rfl, by decide, .inl eW.g⟩ (fun a oe cls d pn hz hf => pss_one (ps_ret (pe_lst (pa_cons pe_str (pa_cons (pe_xf eW.xf eW.no hz hf (pv 6)) pa_nil)))))
      (.as (i := 6) rfl rfl ⟨rfl, by decide, .inl T.eZ.g⟩ (fun a oe cls d pn hz hf => pss_one (ps_ret (pe_lst (pa_cons pe_str (pa_cons (pe_xf T.eZ.xf T.eZ.no hz hf (pv 6)) pa_nil)))))
      (.anon ⟨rfl, by decide, .inl TC.gR⟩ (fun a oe cls d pn hz hf => pss_one (ps_ret (pe_lst (pa_cons pe_str pa_nil)))) .nil))))))))), ?_⟩
    rcases h with ⟨rfl, ask⟩ | ⟨rfl, ask⟩
    · refine ⟨_, rfl, rfl, _, rfl, ?_⟩
      rw [show decide (V.int 0 = V.int 0) = true from rfl]
      refine iteT ⟨_, rfl, _, rfl, _, rfl, _, rfl, v1, v3, v4, v5, rfl, ask.imp ?_ ?_ ?_ ?_ ?_⟩
      · intro q dd H1 sm hd hx
        refine ⟨TC.st, ⟨true, TC.xtt, fun _ a ha => ?_, fun z => (nomatch z)⟩⟩
        exact ⟨_, rfl, rfl, rfl, dd, _, v1, rfl, hx, rfl, (by show 2 ≤ sizeLine; decide), fun l hl => q l _ (sm.free hl) (sm.trans (same_new hl)) upd_same⟩
      · intro q dd H1 sm hd hx
        refine ⟨TC.sn, ⟨false, TC.xnt, fun z => (nomatch z), fun _ => ⟨false, TC.xnp, fun z => (nomatch z), fun _ => ⟨true, TC.xnn, fun _ a ha => ?_, fun z => (nomatch z)⟩⟩⟩⟩
        exact ⟨_, rfl, rfl, rfl, dd, _, v3, rfl, hx, rfl, (by show 2 ≤ sizeLine; decide), fun l hl => q l _ (sm.free hl) (sm.trans (same_new hl)) upd_same⟩
      · intro q dd H1 sm hd hx
        refine ⟨TC.sw, ⟨false, TC.xwt, fun z => (nomatch z), fun _ => ⟨false, TC.xwp, fun z => (nomatch z), fun _ => ⟨false, TC.xwn, fun z => (nomatch z), fun _ => ⟨false, TC.xwg, fun z => (nomatch z), fun _ => ⟨true, TC.xww, fun _ a ha => ?_, fun z => (nomatch z)⟩⟩⟩⟩⟩⟩
        exact ⟨_, rfl, rfl, rfl, dd, _, v4, rfl, hx, rfl, (by show 2 ≤ sizeLine; decide), fun l hl => q l _ (sm.free hl) (sm.trans (same_new hl)) upd_same⟩
      · intro q dd H1 sm hd hx
        refine ⟨TC.sz, ⟨false, TC.xzt, fun z => (nomatch z), fun _ => ⟨false, TC.xzp, fun z => (nomatch z), fun _ => ⟨false, TC.xzn, fun z => (nomatch z), fun _ => ⟨false, TC.xzg, fun z => (nomatch z), fun _ => ⟨false, TC.xzw, fun z => (nomatch z), fun _ => ⟨true, TC.xzz, fun _ a ha => ?_, fun z => (nomatch z)⟩⟩⟩⟩⟩⟩⟩
        exact ⟨_, rfl, rfl, rfl, dd, _, v5, rfl, hx, rfl, (by show 2 ≤ sizeLine; decide), fun l hl => q l _ (sm.free hl) (sm.trans (same_new hl)) upd_same⟩
      · intro k q dd H1 sm hd hx
        refine ⟨TC.sg, ⟨false, TC.xgt, fun z => (nomatch z), fun _ => ⟨false, TC.xgp, fun z => (nomatch z), fun _ => ⟨false, TC.xgn, fun z => (nomatch z), fun _ => ⟨true, TC.xgg, fun _ a ha => ?_, fun z => (nomatch z)⟩⟩⟩⟩⟩
        exact ⟨_, rfl, rfl, rfl, dd, _, .int k, rfl, hx, rfl, (by show 2 ≤ sizeLine; decide), fun l hl => q l _ (sm.free hl) (sm.trans (same_new hl)) upd_same⟩
    · refine ⟨_, rfl, rfl, _, rfl, ?_⟩
      rw [show decide (V.int 1 = V.int 0) = false from rfl]
      refine iteF ⟨_, rfl, _, rfl, _, rfl, _, rfl, _, rfl, v1, v2, v3, v4, v5, rfl, ask.imp ?_ ?_ ?_ ?_ ?_ ?_ ?_⟩
      · intro q dd H1 sm hd hx
        refine ⟨true, TC.xtt, fun _ a ha => ?_, fun z => (nomatch z)⟩
        exact ⟨_, rfl, rfl, rfl, dd, _, v1, rfl, hx, rfl, (by show 2 ≤ sizeLine; decide), fun l hl => q l _ (sm.free hl) (sm.trans (same_new hl)) upd_same⟩
      · intro q dd H1 sm hd hx
        refine ⟨false, TC.xpt, fun z => (nomatch z), fun _ => ⟨true, TC.xpp, fun _ a ha => ?_, fun z => (nomatch z)⟩⟩
        exact ⟨_, rfl, rfl, rfl, dd, _, v2, rfl, hx, rfl, (by show 2 ≤ sizeLine; decide), fun l hl => q l _ (sm.free hl) (sm.trans (same_new hl)) upd_same⟩
      · intro q dd H1 sm hd hx
        refine ⟨false, TC.xnt, fun z => (nomatch z), fun _ => ⟨false, TC.xnp, fun z => (nomatch z), fun _ => ⟨true, TC.xnn, fun _ a ha => ?_, fun z => (nomatch z)⟩⟩⟩
        exact ⟨_, rfl, rfl, rfl, dd, _, v3, rfl, hx, rfl, (by show 2 ≤ sizeLine; decide), fun l hl => q l _ (sm.free hl) (sm.trans (same_new hl)) upd_same⟩
      · intro q dd H1 sm hd hx
        refine ⟨false, TC.xwt, fun z => (nomatch z), fun _ => ⟨false, TC.xwp, fun z => (nomatch z), fun _ => ⟨false, TC.xwn, fun z => (nomatch z), fun _ => ⟨false, TC.xwg, fun z => (nomatch z), fun _ => ⟨true, TC.xww, fun _ a ha => ?_, fun z => (nomatch z)⟩⟩⟩⟩⟩
        exact ⟨_, rfl, rfl, rfl, dd, _, v4, rfl, hx, rfl, (by show 2 ≤ sizeLine; decide), fun l hl => q l _ (sm.free hl) (sm.trans (same_new hl)) upd_same⟩
      · intro q dd H1 sm hd hx
        refine ⟨false, TC.xnt, fun z => (nomatch z), fun _ => ⟨false, TC.xnp, fun z => (nomatch z), fun _ => ⟨true, TC.xnn, fun _ a ha => ?_, fun z => (nomatch z)⟩⟩⟩
        exact ⟨_, rfl, rfl, rfl, dd, _, v5, rfl, hx, rfl, (by show 2 ≤ sizeLine; decide), fun l hl => q l _ (sm.free hl) (sm.trans (same_new hl)) upd_same⟩
      · intro k q dd H1 sm hd hx
        refine ⟨false, TC.xgt, fun z => (nomatch z), fun _ => ⟨false, TC.xgp, fun z => (nomatch z), fun _ => ⟨false, TC.xgn, fun z => (nomatch z), fun _ => ⟨true, TC.xgg, fun _ a ha => ?_, fun z => (nomatch z)⟩⟩⟩⟩
        exact ⟨_, rfl, rfl, rfl, dd, _, .int k, rfl, hx, rfl, (by show 2 ≤ sizeLine; decide), fun l hl => q l _ (sm.free hl) (sm.trans (same_new hl)) upd_same⟩
      · intro q k H1 sm
        exact ⟨by show 2 ≤ sizeLine; decide, fun l hl => q k l _ (sm.free hl) (sm.trans (same_new hl)) upd_same⟩
end
end K53

set_option Elab.async false
set_option linter.all false
set_option maxRecDepth 100000
set_option maxHeartbeats 1500000
/-! TkXP: repr of a list of lists, each of a text and of data or a known dict. -/
namespace Rw
open PySem PySem.Spec PyProof.Rows L2
section
variable {X : Cx} {pins : List (Addr × Obj)} {σ : L2.St} {H : Hp} {s : Shared}
theorem axw_shows (I : Inv X pins σ H s) {l : Addr} {t : Str} {d : PyData} (h : AxW H l t d) (sh : (wD t d).showable = true) (sz : (wD t d).shown.length ≤ sizeLine) : Shows X.prog X.w s.heap (.ref l) (wD t d) := by
  obtain ⟨v, ea, ax⟩ := h
  obtain ⟨us, o, n, L, rv⟩ := lst_at I ea
  unfold wD at sh sz ⊢
  have z : (listText (PyData.shownAll [.str t, d])).length ≤ sizeLine := by simpa only [PyData.shown] using sz
  have sh2 : PyData.showable (.str t) = true ∧ d.showable = true := by simpa [PyData.showable, PyData.showableAll] using sh
  have mem : ∀ e ∈ [PyData.str t, d], e.shown.length ≤ sizeLine := fun e he => by
    refine Nat.le_trans (listText_mem_le (ts := PyData.shownAll [.str t, d]) ?_) z
    rw [shownAll_map]
    exact List.mem_map_of_mem he
  cases rv with
  | @cons _ u1 _ us1 r1 r2 =>
    cases r2 with
    | @cons _ u2 _ us2 r2 r3 =>
      cases r3
      exact shows_list L (showsL_cons (any_shows I _ _ _ (.str t) r1 sh2.1 (mem _ List.mem_cons_self)) (showsL_cons (ax_shows I ax r2 sh2.2 (mem d (List.mem_cons_of_mem _ List.mem_cons_self))) showsL_nil))
theorem axws_shows (I : Inv X pins σ H s) {t : Str} {d : PyData} (sh : (wD t d).showable = true) (sz : (wD t d).shown.length ≤ sizeLine) : ∀ {ls : List Addr} {us : List Value}, (∀ l ∈ ls, AxW H l t d) → Vals (ls.map V.ref) us → ShowsL X.prog X.w s.heap us (List.replicate ls.length (wD t d))
  | [], _, _, r => by cases r; exact showsL_nil
  | l :: ls, _, h, r => by
    cases r with
    | @cons _ u _ us r1 r2 =>
      cases (show u = Value.ref l from r1)
      exact showsL_cons (axw_shows I (h l List.mem_cons_self) sh sz) (axws_shows I sh sz (fun m hm => h m (List.mem_cons_of_mem _ hm)) r2)
end
section
variable {X : Cx}
def manyD (n : Nat) (t : Str) (d : PyData) : PyData := .list (List.replicate n (wD t d))
def rReprS : List V → Hp → VK → Prop := fun xs H Q => ∃ (a : Addr) (ls : List Addr) (t : Str) (d : PyData), xs = [.ref a] ∧ ls ≠ [] ∧ H a = some (.lst (ls.map V.ref)) ∧ (∀ l ∈ ls, AxW H l t d) ∧ (wD t d).showable = true ∧ (wD t d).shown.length ≤ sizeLine ∧ (manyD ls.length t d).depth ≤ 60 ∧ (manyD ls.length t d).shown.length ≤ sizeLine ∧ Q (.str (manyD ls.length t d).shown) H
theorem call_reprS (gu : X.A.guards = some []) (hu : X.A.units + 64 < cLine) : CallR X (.builtin "repr") rReprS := by
  intro pins s σ H xs us Q I r h
  obtain ⟨a, ls, t, d, rfl, ne, ea, hl, sh, sz1, dp, sz, q⟩ := h
  obtain ⟨u, rfl, ru⟩ := vals1 r
  cases (show u = Value.ref a from ru)
  unfold manyD at dp sz q
  have fin : ∀ h' u tk, (∀ b o, s.heap.get? b = some o → h'.get? b = some o) → EP X pins σ Q (.str (PyData.list (List.replicate ls.length (wD t d))).shown u) { s with heap := h', toks := tk } := fun h' t tk keep => ⟨V.str _, H, Inv.kept I keep, ⟨t, rfl⟩, q⟩
  have gu1 : X.A.in1.guards = some [] := gu
  have un1 : X.A.in1.units = X.A.units + 1 := rfl
  obtain ⟨us, o, n, L, rv⟩ := lst_at I ea
  have z : (listText (PyData.shownAll (List.replicate ls.length (wD t d)))).length ≤ sizeLine := by simpa only [PyData.shown] using sz
  have D : (PyData.list (List.replicate ls.length (wD t d))).depth = PyData.depthAll (List.replicate ls.length (wD t d)) + 1 := by simp only [PyData.depth]
  have ty : s.TypeIs (.ref a) "list" := ⟨o, L.get, L.cls⟩
  obtain ⟨as, rd, bs, m, k⟩ := axws_shows I sh sz1 hl rv
  obtain ⟨u0, us0, rfl⟩ : ∃ u0 us0, us = u0 :: us0 := by
    cases ls with
    | nil => exact (ne rfl).elim
    | cons l ls => cases rv with | cons _ _ => exact ⟨_, _, rfl⟩
  refine call_repr_slot (by omega) ty F.slot_list_repr.toG ?_
  simp only [PyData.shown] at fin
  exact call_list_reprK L.get L.cls L.dat (off_of (list_reads L rd) D m) (by simpa using k.length_eq) (fun i y e => k.item i y (by simpa using e)) gu1 (fun b _ => Clear.nil b) (by omega) (fun _ _ z => z) (fun h' t tk keep => ⟨_, _, rfl, fin h' t tk keep⟩) z
end
end Rw

set_option Elab.async false
set_option linter.all false
set_option maxRecDepth 100000
set_option maxHeartbeats 4000000
/-! K53M: the law: both ways told as one text. -/
namespace K53
open PySem PySem.Spec PyProof.Rows L2 Rw
abbrev sBoth : Stmt := top 52
abbrev NBoth : List Str := ["_law_arrows_here", "_law_p", "_law_some", "_law_sign", "_law_thing", "_law_way"]
theorem scBoth : FnScope NBoth ["_law_arrows_here", "_law_p", "_law_some", "_law_sign", "_law_thing"] (defScope sBoth) := ⟨rfl, rfl, rfl, by decide +kernel, rfl, by decide +kernel, by decide +kernel⟩
def spBoth : Sp := fun vs H Q _ => ∃ v1 v2 v3 v4 v5 t v d, vs = [v1, v2, v3, v4, v5] ∧ Ax H v d ∧ (wD t d).showable = true ∧ (wD t d).shown.length ≤ sizeLine ∧ (manyD 2 t d).depth ≤ 60 ∧ (manyD 2 t d).shown.length ≤ sizeLine ∧
  (∀ (way : Nat) H', way < 2 → Same H H' → ∀ Q' : VK, Out H' Q' [.str t, v] → spCau [.int ((way : Nat) : Int), v1, v2, v3, v4, v5] H' Q' E0) ∧ ∀ H', Same H H' → Q (.str (manyD 2 t d).shown) H'
section
variable {P : Program} {w : World} {K : PySem.W.Frag} {mg : Str → Option Value} {base : Heap}
theorem okBoth {f : Addr} {fd : FuncData} (F : Fun K "_law_both" "_law_both" sBoth f fd) (zr : mg "range" = none) (zp : mg "repr" = none) (GC : Own P w K mg base CX0 12 "_law_caught" ["_law_way", "_law_arrows_here", "_law_p", "_law_some", "_law_sign", "_law_thing"] [] spCau) :
    FnG P w K mg base CX0 13 f fd ["_law_arrows_here", "_law_p", "_law_some", "_law_sign", "_law_thing"] spBoth := by
  refine funG F scBoth (fun vs H Q E h => ?_) (fun cdv A outer s H vs Q E gu hr h => ?_)
  · obtain ⟨v1, v2, v3, v4, v5, t, v, d, rfl, _⟩ := h
    rfl
  · obtain ⟨v1, v2, v3, v4, v5, t, v, d, rfl, ax, w1, w2, w3, w4, cau, q⟩ := h
    refine ⟨_, (pss_one (ps_ret (pe_callB (call_reprS gu hr.units) (by rfl) zp (by decide +kernel) (pa_cons (pe_lc (own := [("_law_way", 5)]) (g := gName 5) (tt := tYes) (te := tCall spCau [] E0 (tCons (tVar 5) (tCons (tVar 0) (tCons (tVar 1) (tCons (tVar 2) (tCons (tVar 3) (tCons (tVar 4) tNil))))))) rfl scBoth.nd (pi_range1 rfl zr (pa_cons pe_int pa_nil)) (blkOk_by (N := NBoth) (sc := defScope sBoth) (by decide +kernel)) (fun _ _ _ _ _ => (pg_name (i := 5) scBoth.nd rfl (Or.inl rfl))) (fun _ _ _ _ _ => pts_nil)
      (fun _ _ _ _ _ => (pe_own GC (hr.mono (by decide)) pass0 (pa_cons (pv 5) (pa_cons (pv 0) (pa_cons (pv 1) (pa_cons (pv 2) (pa_cons (pv 3) (pa_cons (pv 4) pa_nil))))))))) pa_nil)))), ?_⟩
    refine ⟨(2 : Int), rfl, by decide, by decide, fun Da hDa => ?_⟩
    refine lc_it (walk_rng (n := 2)) (Pv := fun k H' => Same H H' ∧ ∃ ls : List Addr, H' Da = some (.lst (ls.map V.ref)) ∧ ls.length = k ∧ ∀ l ∈ ls, H' l = some (.lst [.str t, v]) ∧ l ≠ Da) ⟨same_new hDa, [], upd_same, rfl, fun l h => nomatch h⟩ (fun _ _ _ _ => trivial) ?_ ?_
    · rintro i y H3 H2 hi ⟨s2, ls, e2, l2, al⟩ ⟨rfl, rfl⟩
      refine ⟨rfl, ?_⟩
      unfold tYes
      refine Eq.mpr (if_pos (rfl : true = true)) ?_
      refine ⟨_, rfl, _, rfl, _, rfl, _, rfl, _, rfl, _, rfl, cau i H2 hi s2 _ fun l H3 hl k3 e3 => ?_⟩
      have nl : l ≠ Da := fun z => by rw [z, e2] at hl; cases hl
      refine ⟨_, k3 _ _ e2, Nat.lt_of_le_of_lt (by rw [List.length_map]; omega : _ ≤ 3) (by decide), fun b o e => ?_, ls ++ [l], by rw [upd_same, List.map_append] <;> rfl, by rw [List.length_append, l2] <;> rfl, fun m hm => ?_⟩
      · rw [upd_ne (ne_of_none e hDa)]
        exact k3 _ _ (s2 _ _ e)
      · rcases List.mem_append.mp hm with y | y
        · exact ⟨by rw [upd_ne (al m y).2]; exact k3 _ _ (al m y).1, (al m y).2⟩
        · rw [List.mem_singleton.mp y]
          exact ⟨by rw [upd_ne nl]; exact e3, nl⟩
    · rintro H9 ⟨s9, ls, e9, l9, al⟩
      refine ⟨Da, ls, t, d, rfl, (fun z => by rw [z] at l9; cases l9), e9, (fun l hl => ⟨v, (al l hl).1, ax.keep s9⟩), w1, w2, by rw [l9]; exact w3, by rw [l9]; exact w4, ?_⟩
      rw [l9]
      exact q _ s9
end
end K53

set_option Elab.async false
set_option linter.all false
set_option maxRecDepth 100000
set_option maxHeartbeats 1500000
/-! TkXL: {(a, b): v, ..}: dicts with tuple keys, written out. -/
namespace Rw
open PySem PySem.Spec PyProof.Rows L2
/-- the pairs of such a display: keys, the tuples' addresses, values -/
abbrev Trs := List (List L2.Key × Addr × V)
theorem carries_t {X : Cx} {pins : List (Addr × Obj)} {σ : L2.St} {H : Hp} {s : Shared} (I : Inv X pins σ H s) : ∀ {ks : Trs} {ws : List (Value × Value)}, VV (ks.map fun k => (V.ref k.2.1, k.2.2)) ws → (∀ k ∈ ks, H k.2.1 = some (.tup (k.1.map kV))) →
    ∃ rs, CarriesH (tupleKind (mixKind X.prog X.w)) s.heap ws rs ∧ KT H (ks.map fun k => (k.1, k.2.2)) rs
  | [], _, r, _ => by rw [List.map_nil] at r; cases r; exact ⟨[], True.intro, .nil⟩
  | k :: ks, _, r, hk => by
    rw [List.map_cons] at r
    cases r with
    | @cons a b as bs h t =>
      obtain ⟨rs, c, q⟩ := carries_t I t fun j hj => hk j (List.mem_cons_of_mem _ hj)
      obtain ⟨b1, b2⟩ := b
      have h0 := hk k List.mem_cons_self
      cases (show b1 = Value.ref k.2.1 from h.1)
      exact ⟨(k.1, k.2.1, b2) :: rs, ⟨rfl, rfl, key_of I.hok h0, c⟩, .cons ⟨rfl, h0, h.2⟩ q⟩
/-- {k: v, ..} with keys tuples; the new dict stands empty while the pairs are made -/
def tDispT (trs : List (TE × TE)) : TE := fun σ H Q => ∀ p, H p = none → tPairs trs σ (upd H p (.dT [])) fun ps H2 => H2 p = some (.dT []) ∧ ∃ ks : Trs, ps = ks.map (fun k => (V.ref k.2.1, k.2.2)) ∧ (∀ k ∈ ks, H2 k.2.1 = some (.tup (k.1.map kV))) ∧ ks.length ≤ 15 ∧
  Q (.ref p) (upd H2 p (.dT (mergeT [] (ks.map fun k => (k.1, k.2.2)))))
theorem pe_dispT {X : Cx} {pos : Pos} {keys : List (Option Expr)} {values : List Expr} {trs : List (TE × TE)} (hu : X.A.units + 1 < cLine) (h : PPs X pos keys values trs) (hall : keys.all (·.isSome) = true) (hl : keys.length = values.length) (h0 : keys ≠ [])
    (h15 : keys.length ≤ 15) : PE X (.Dict keys values pos) (tDispT trs) := by
  refine ⟨fun pins s σ H Q I q => ?_⟩
  have hn := I.hok.fresh (Nat.le_refl s.heap.objs.size)
  have I1 := I.laid (a := s.heap.objs.size) (o := .dT []) (h' := s.heap.push { cls := .type "dict", data := .dict #[] }) (t' := s.toks) (fun _ _ q => Heap.get?_push_of_some _ q) (Nat.le_refl _) (dt_empty s.heap I.big)
  have hnl := pairTrees_length keys values X.env pos hall hl
  have hne : pairTrees keys values X.env pos ≠ [] := fun he => by
    rw [he] at hnl
    exact h0 (List.length_eq_zero_iff.mp hnl.symm)
  rw [arm_eval_Dict, zip_pairTrees keys values X.env pos hall hl, dictDisplay_pairs _ hne (by rw [hnl]; omega)]
  refine wpAny_bind (wpAny_standAt (wpAny_bind (wpAny_subDictH (knd := tupleKind (mixKind X.prog X.w)) (show X.A.units < cLine by omega) (by rw [hnl]; exact h15) (thn (h.run pins _ σ _ _ I1 (q _ hn)) fun ws s2 ⟨ps, H2, I2, rel, e, ks, ep, hk, lk, q2⟩ => ?_))))
  subst ep
  obtain ⟨rs, c, rk⟩ := carries_t I2 rel hk
  obtain ⟨z, hd, xs0, r0, dd⟩ := dt_of I2.hok e
  cases r0
  refine ⟨rs, c, dd, fun h' tk dd' hs => wpAny_pure ⟨.ref s.heap.objs.size, _, ?_, rfl, q2⟩⟩
  have hz : (mergeT [] (ks.map fun k => (k.1, k.2.2))).length ≤ sizeLine := by
    have h1 := mergeT_len (ks.map fun k => (k.1, k.2.2)) []
    rw [List.length_nil, List.length_map] at h1
    exact Nat.le_trans (by omega : _ ≤ 15) (by decide)
  obtain ⟨o, es, ep, h1, h2, h3, h4, _, h5⟩ := dd'
  refine d_write I2 (by rw [e]; exact True.intro) hs ⟨o, h1⟩ ⟨hz, hd, _, KT.keeps (kt_merge rk .nil) fun b ys eb => ?_, o, es, ep, h1, h2, h3, h4, h5⟩
  rw [upd_ne (fun y => by rw [y, e] at eb; cases eb)]
  exact eb
end Rw

set_option Elab.async false
set_option linter.all false
set_option maxRecDepth 100000
set_option maxHeartbeats 1500000
set_option exponentiation.threshold 3000
/-! TkXF: a key of another kind in an empty dict; values that are no numbers, in a list that grows. -/
namespace Rw
open PySem PySem.Spec PyProof.Rows L2
/-- d[k] = v where d is empty; the dict then stays -/
def sDPutE (td ty tv : TE) : TS := fun D σ H => tv σ H fun v H1 => td σ H1 fun x H2 => ty σ H2 fun y H3 => ∃ a k, x = .ref a ∧ H3 a = some (.dT []) ∧ y = kV k ∧ ∀ H4, (∀ b, b ≠ a → H4 b = H3 b) → DicO H4 a [(kV k, v)] → D.nx σ H4
section
variable {X : Cx} {o i value : Expr} {pos pos' : Pos} {td ty tv : TE}
theorem ps_dputE (hu : X.A.units + 1 < cLine) (ho : PE X o td) (hi : PE X i ty) (hv : PE X value tv) (hs : swapsWith value (some (.Subscript o i pos')) pos.line X.env = pure false) :
    PS X (.Assign [.Subscript o i pos'] value pos) (sDPutE td ty tv) := by
  refine ⟨fun pins s σ H D I h => ?_⟩
  refine wpAny_Assign_Subscript (thn (hv.run pins s σ H _ I h) fun r s1 ⟨v, H1, I1, rv, q1⟩ => thn (ho.run pins s1 σ H1 _ I1 q1) fun u s2 ⟨x, H2, I2, rx, q2⟩ => thn (hi.run pins s2 σ H2 _ I2 q2) fun iv s3 ⟨y, H3, I3, ry, a, k, ex, ea, ey, q3⟩ => ?_) hs
  subst ex ey
  obtain rfl : u = Value.ref a := rx
  obtain ⟨_, nm, xs, rel, ob, es, ep, g1, g2, g3, g4, g5⟩ := (show ObjOk X.prog X.w H3 s3.heap a (.dT []) from I3.hok a _ ea)
  cases rel
  have e0 : es = #[] := by
    have : es.toList = [] := g4
    simpa using this
  subst e0
  have I4 : Inv X pins σ (upd H3 a (.dK [])) s3 := I3.write (t' := s3.toks) (x := a) (e := a) (by rw [ea]; exact True.intro) (.inl rfl) (fun b q hb z => z) ⟨ob, g1⟩ ⟨Nat.zero_le _, nm, [], .nil, ob, #[], ep, g1, g2, g3, fun e he => by simp at he, .nil, List.nodup_nil⟩
  refine d_setItem hu I4 (DPut.k (k := k) upd_same (by decide)) ry rv fun s4 I5 => ?_
  have e5 : putK ([] : List (L2.Key × V)) k v = [(k, v)] := rfl
  rw [e5] at I5
  obtain ⟨o6, I6⟩ := I5.lock upd_same True.intro
  obtain ⟨g, ok6⟩ := (show ObjOk X.prog X.w _ s4.heap a (.frz o6 (.dK [(k, v)])) from I6.hok a _ upd_same)
  obtain ⟨_, nm6, vs, kv, o7, es7, ep7, h1, h2, h3, _, h5, _⟩ := ok6
  cases (g.symm.trans h1)
  refine ⟨σ, _, I6, q3 _ (fun b hb => by rw [upd_ne hb, upd_ne hb, upd_ne hb]) ⟨nm6, (by show 1 ≤ 1000; decide), o6, _, upd_same, es7, ep7, h2, h3, ?_⟩⟩
  cases kv with
  | cons c1 c2 =>
    cases c2
    cases h : es7.toList with
    | nil => rw [h] at h5; cases h5
    | cons e es =>
      rw [h] at h5
      cases h5 with
      | cons k1 k2 k3 =>
        cases k3
        refine .cons ⟨relV_key ?_, ?_⟩ .nil
        · rw [show k = _ from c1.1]
          exact k1
        · rw [k2]
          exact c1.2
end
/-! ### values that are no numbers -/
/-- data that is short -/
def Dat (H : Hp) (v : V) : Prop := ∃ d, Any H v d ∧ Tz 5 1500 d
theorem Dat.keep {H H' : Hp} {v : V} (h : Dat H v) (k : Same H H') : Dat H' v := by
  obtain ⟨d, a, t⟩ := h
  exact ⟨d, a.keep k, t⟩
/-- no numbers of a pattern with n arrows, told by repr -/
def OddV (n : Nat) (H : Hp) (v : V) : Prop := ∃ d, Ax H v d ∧ Tz 6 50000 d ∧ BadN n H v
theorem OddV.keep {n : Nat} {H H' : Hp} {v : V} (h : OddV n H v) (k : Same H H') : OddV n H' v := by
  obtain ⟨d, a, t, b⟩ := h
  exact ⟨d, a.keep k, t, b.keep k⟩
theorem odd_any {n : Nat} {H : Hp} {v : V} {d : PyData} (a : Any H v d) (t : Tz 5 1500 d) (nd : notDic d = true) : OddV n H v := ⟨d, .any a, t.up (by decide) (by decide), .inl ⟨d, a, nd⟩⟩
theorem dats {H : Hp} : ∀ {vs : List V}, (∀ v ∈ vs, Dat H v) → ∃ ds, AnyL H vs ds ∧ ∀ d ∈ ds, Tz 5 1500 d
  | [], _ => ⟨[], .nil, fun d h => nomatch h⟩
  | v :: vs, h => by
    obtain ⟨d, a, t⟩ := h v List.mem_cons_self
    obtain ⟨ds, al, ts⟩ := dats fun u hu => h u (List.mem_cons_of_mem _ hu)
    exact ⟨d :: ds, .cons a al, fun e he => (List.mem_cons.mp he).elim (fun z => by rw [z]; exact t) (ts e)⟩
theorem odd_dic {n : Nat} {H : Hp} {a : Addr} {its : List (V × V)} (hd : DicO H a its) (l : its.length ≤ 12) (hk : ∀ q ∈ its, Dat H q.1 ∧ Dat H q.2) {q0 : V × V} (m0 : q0 ∈ its) (bad : ∀ d e, Any H q0.1 d → Any H q0.2 e → numItm n (d, e) = false) : OddV n H (.ref a) := by
  obtain ⟨ks, ak, tk⟩ := dats (H := H) (vs := its.map (·.1)) fun v hv => by
    obtain ⟨q, hq, rfl⟩ := List.mem_map.mp hv
    exact (hk q hq).1
  obtain ⟨vs, av, tv⟩ := dats (H := H) (vs := its.map (·.2)) fun v hv => by
    obtain ⟨q, hq, rfl⟩ := List.mem_map.mp hv
    exact (hk q hq).2
  have lk := anyL_len ak
  have lv := anyL_len av
  rw [List.length_map] at lk lv
  have t := tz_dict (k := 5) (b := 1500) (m := 12) (kvs := ks.zip vs) (by rw [List.length_zip]; omega) fun q hq => ⟨tk _ (List.of_mem_zip hq).1, tv _ (List.of_mem_zip hq).2⟩
  refine ⟨_, .dic hd ak av, t.up (by decide) (by decide), .inr ⟨a, its, ks, vs, rfl, hd, ak, av, ?_⟩⟩
  obtain ⟨i, hi, e0⟩ := List.mem_iff_getElem.mp m0
  have g0 : its[i]? = some q0 := by rw [List.getElem?_eq_getElem hi, e0]
  obtain ⟨d, hdd, a1⟩ := anyL_at ak (show (its.map (·.1))[i]? = some q0.1 by rw [List.getElem?_map, g0] <;> rfl)
  obtain ⟨e, hde, a2⟩ := anyL_at av (show (its.map (·.2))[i]? = some q0.2 by rw [List.getElem?_map, g0] <;> rfl)
  rw [List.all_eq_false]
  refine ⟨(d, e), List.mem_of_getElem? (i := i) ?_, by rw [bad d e a1 a2]; decide⟩
  rw [List.getElem?_zip_eq_some]
  exact ⟨hdd, hde⟩
theorem keys_det {H : Hp} : ∀ {k : List L2.Key} {ds : List PyData}, AnyL H (k.map kV) ds → ds = k.map keyD
  | [], _, .nil => rfl
  | .inl i :: k, _, .cons a b => by
    cases a
    rw [keys_det b] <;> rfl
  | .inr x :: k, _, .cons a b => by
    cases a
    rw [keys_det b] <;> rfl
theorem tup_det {H : Hp} {b : Addr} {k : List L2.Key} {d : PyData} (e : H b = some (.tup (k.map kV))) (h : Any H (.ref b) d) : d = tupK k := by
  cases h with
  | lst ea _ => rw [e] at ea; cases ea
  | dct ea _ => rw [e] at ea; cases ea
  | tup ea al =>
    rw [e] at ea
    cases ea
    rw [keys_det al] <;> rfl
/-- a dict with tuple keys, one of them or its value no part of numbers -/
theorem odd_tup {n : Nat} {H : Hp} {a : Addr} {bs : List Addr} {kvs : List (List L2.Key × V)} (ik : IsKeys H kvs bs) (hd : DicO H a (itemsT bs kvs)) (l : kvs.length ≤ 12) (hk : ∀ q ∈ kvs, Tz 5 1500 (tupK q.1) ∧ Dat H q.2) {q0 : List L2.Key × V} (m0 : q0 ∈ kvs)
    (bad : ∀ e, Any H q0.2 e → numItm n (tupK q0.1, e) = false) : OddV n H (.ref a) := by
  have lb := Paired.length ik
  have at_ : ∀ q ∈ itemsT bs kvs, ∃ b p, q = (V.ref b, p.2) ∧ p ∈ kvs ∧ H b = some (.tup (p.1.map kV)) := fun q hq => by
    obtain ⟨z, hz, rfl⟩ := List.mem_map.mp hq
    obtain ⟨i, hi⟩ := List.getElem?_of_mem hz
    rw [List.getElem?_zip_eq_some] at hi
    obtain ⟨b, hb, e⟩ := paired_get ik hi.2
    rw [hi.1] at hb
    cases hb
    exact ⟨_, z.2, rfl, List.mem_of_getElem? hi.2, e⟩
  obtain ⟨i, hi⟩ := List.getElem?_of_mem m0
  obtain ⟨b0, hb0, e0⟩ := paired_get ik hi
  refine odd_dic hd ?_ (fun q hq => ?_) (q0 := (V.ref b0, q0.2)) ?_ fun d e a1 a2 => ?_
  · unfold itemsT
    rw [List.length_map, List.length_zip]
    omega
  · obtain ⟨b, p, rfl, hp, e⟩ := at_ q hq
    exact ⟨⟨_, any_tupK e, (hk p hp).1⟩, (hk p hp).2⟩
  · refine List.mem_map.mpr ⟨(b0, q0), List.mem_of_getElem? (i := i) ?_, rfl⟩
    rw [List.getElem?_zip_eq_some]
    exact ⟨hb0, hi⟩
  · rw [tup_det e0 a1]
    exact bad e a2
end Rw

set_option Elab.async false
set_option linter.all false
set_option maxRecDepth 100000
set_option maxHeartbeats 1500000
/-! TkXQ: a dict is frozen as soon as its expression has made it, its items told. -/
namespace Rw
open PySem PySem.Spec PyProof.Rows L2
def tFrzO (te : TE) : TE := fun σ H Q => te σ H fun v H1 => ∃ d kvs, v = .ref d ∧ H1 d = some (.dT kvs) ∧ kvs.length ≤ 900 ∧ ∀ o bs, IsKeys H1 kvs bs → DicO (upd H1 d (.frz o (.dT kvs))) d (itemsT bs kvs) → Q (.ref d) (upd H1 d (.frz o (.dT kvs)))
def tFrzK (te : TE) : TE := fun σ H Q => te σ H fun v H1 => ∃ d kvs, v = .ref d ∧ H1 d = some (.dK kvs) ∧ kvs.length ≤ 900 ∧ ∀ o, DicO (upd H1 d (.frz o (.dK kvs))) d (kvs.map fun q => (kV q.1, q.2)) → Q (.ref d) (upd H1 d (.frz o (.dK kvs)))
section
variable {X : Cx} {e : Expr} {te : TE}
theorem pe_frzO (h : PE X e te) : PE X e (tFrzO te) := by
  refine ⟨fun pins s σ H Q I hq => ?_⟩
  refine wpAny_mono (h.run pins s σ H _ I hq) (fun u s1 y => ?_) fun _ _ z => z
  obtain ⟨v, H1, I1, rv, d, kvs, rfl, hd, l9, hw⟩ := y
  obtain ⟨od, I2⟩ := I1.lock hd True.intro
  obtain ⟨_, nm, xs, rel, o2, es, ep, g1, g2, g3, g4, g5, g6⟩ := dt_of I1.hok hd
  have ge : s1.heap.get? d = some od := (I2.hok d _ upd_same).1
  have eo : od = o2 := Option.some.inj (ge.symm.trans g1)
  subst eo
  refine ⟨.ref d, _, I2, rv, hw od (xs.map fun x => x.2.1) (isKeys_of rel) ⟨nm, ?_, od, _, upd_same, es, ep, g2, g3, by rw [g4]; exact kt_items rel⟩⟩
  have := Paired.length rel
  unfold itemsT
  rw [List.length_map, List.length_zip, List.length_map]
  omega
theorem kv_items {P : Program} {w : World} : ∀ {kvs : List (L2.Key × V)} {vs : List (L2.Key × Value)} {es : List DictEntry}, KV kvs vs → Pairs (mixKind P w) es vs → Paired (fun (q : V × V) (e : DictEntry) => RelV q.1 e.key ∧ RelV q.2 e.val) (kvs.map fun q => (kV q.1, q.2)) es
  | [], _, _, k, p => by
    cases k
    cases p
    exact .nil
  | q :: kvs, _, _, k, p => by
    cases k with
    | cons k1 k2 =>
      cases p with
      | cons p1 p2 p3 =>
        refine .cons ⟨?_, ?_⟩ (kv_items k2 p3)
        · refine relV_key ?_
          rw [k1.1]
          exact p1
        · rw [p2]
          exact k1.2
theorem pe_frzK (h : PE X e te) : PE X e (tFrzK te) := by
  refine ⟨fun pins s σ H Q I hq => ?_⟩
  refine wpAny_mono (h.run pins s σ H _ I hq) (fun u s1 y => ?_) fun _ _ z => z
  obtain ⟨v, H1, I1, rv, d, kvs, rfl, hd, l9, hw⟩ := y
  obtain ⟨od, I2⟩ := I1.lock hd True.intro
  obtain ⟨_, nm, vs, rel, o2, es, ep, g1, g2, g3, _, g5, _⟩ := dk_of I1.hok hd
  have ge : s1.heap.get? d = some od := (I2.hok d _ upd_same).1
  have eo : od = o2 := Option.some.inj (ge.symm.trans g1)
  subst eo
  refine ⟨.ref d, _, I2, rv, hw od ⟨nm, by rw [List.length_map]; omega, od, _, upd_same, es, ep, g2, g3, kv_items rel g5⟩⟩
end
end Rw

set_option Elab.async false
set_option linter.all false
set_option maxRecDepth 100000
set_option maxHeartbeats 1500000
set_option exponentiation.threshold 3000
/-! TkXG: numbers bent at one key or one number. -/
namespace Rw
open PySem PySem.Spec PyProof.Rows L2
theorem put_mem {κ : Type} [DecidableEq κ] (kvs : List (κ × V)) (k : κ) (v : V) : (k, v) ∈ putK kvs k v := by
  unfold putK
  by_cases h : (kvs.any fun kv => decide (kv.1 = k)) = true
  · rw [if_pos h]
    obtain ⟨q, hq, e⟩ := List.any_eq_true.mp h
    refine List.mem_map.mpr ⟨q, hq, ?_⟩
    have e2 : q.1 = k := of_decide_eq_true e
    rw [if_pos e2, e2]
  · rw [if_neg h]
    exact List.mem_append_right _ List.mem_cons_self
theorem put_all {κ : Type} [DecidableEq κ] {kvs : List (κ × V)} {k : κ} {v : V} {R : κ → V → Prop} (h : ∀ q ∈ kvs, R q.1 q.2) (h2 : R k v) : ∀ q ∈ putK kvs k v, R q.1 q.2 := fun q hq => by
  unfold putK at hq
  split at hq
  · obtain ⟨r, hr, e⟩ := List.mem_map.mp hq
    by_cases e2 : r.1 = k
    · rw [if_pos e2] at e
      subst e
      show R r.1 v
      rw [e2]
      exact h2
    · rw [if_neg e2] at e
      subst e
      exact h r hr
  · rcases List.mem_append.mp hq with y | y
    · exact h q y
    · obtain rfl : q = (k, v) := by simpa using y
      exact h2
theorem tz_key2 {a b : Int} (ha : a.natAbs < 2 ^ 1016) (hb : b.natAbs < 2 ^ 1016) : Tz 5 1500 (tupK [.inl a, .inl b]) :=
  (tz_tup (k := 0) (b := 401) (m := 2) (ds := [.int a, .int b]) (by show 2 ≤ 2; decide) fun d hd => by
    simp only [List.mem_cons, List.not_mem_nil, or_false] at hd
    rcases hd with z | z <;> subst z
    · exact tz_int ha
    · exact tz_int hb).up (by decide) (by decide)
theorem int_small {a : Int} (h : a.natAbs ≤ 1000) : a.natAbs < 2 ^ 1016 := small_1016 h
/-- keys and numbers of such dicts are short -/
theorem nm_short {n : Nat} {H : Hp} {T : Nums} (n6 : n ≤ 6) (ok : ∀ q ∈ T, (q.1.1 ≤ q.1.2 ∧ q.1.2 ≤ n) ∧ q.2 ≤ 6) : ∀ q ∈ nmT T, Tz 5 1500 (tupK q.1) ∧ Dat H q.2 := fun q hq => by
  obtain ⟨r, hr, rfl⟩ := List.mem_map.mp hq
  obtain ⟨⟨h1, h2⟩, h3⟩ := ok r hr
  refine ⟨tz_key2 (int_small (by omega)) (int_small (by omega)), _, .int _, (tz_int (int_small (by omega))).up (by decide) (by decide)⟩
theorem isKeys_to {H G : Hp} {kvs : List (List L2.Key × V)} {bs : List Addr} (h : IsKeys H kvs bs) (k : ∀ b ys, H b = some (.tup ys) → G b = some (.tup ys)) : IsKeys G kvs bs := Paired.mapP h fun _ _ e => k _ _ e
/-- no number of a bar: -1, 7, True, None, "1", [1], 10 ** 29 -/
def BadVal (G : Hp) (v : V) : Prop := (∃ i : Int, v = .int i ∧ (i < 0 ∨ 6 < i) ∧ i.natAbs < 2 ^ 1016) ∨ (∃ b, v = .bl b) ∨ v = .non ∨ (∃ x : Str, v = .str x ∧ x.length ≤ 9 ∧ Tz 0 401 (.str x)) ∨ ∃ a, v = .ref a ∧ G a = some (.lst [.int 1])
theorem BadVal.keep {G G' : Hp} {v : V} (h : BadVal G v) (k : Same G G') : BadVal G' v := by
  rcases h with h | h | h | h | ⟨a, e, g⟩
  · exact .inl h
  · exact .inr (.inl h)
  · exact .inr (.inr (.inl h))
  · exact .inr (.inr (.inr (.inl h)))
  · exact .inr (.inr (.inr (.inr ⟨a, e, k _ _ g⟩)))
theorem BadVal.dat {G : Hp} {v : V} (h : BadVal G v) : Dat G v := by
  rcases h with ⟨i, rfl, _, h⟩ | ⟨b, rfl⟩ | rfl | ⟨x, rfl, _, h⟩ | ⟨a, rfl, g⟩
  · exact ⟨_, .int i, (tz_int h).up (by decide) (by decide)⟩
  · exact ⟨_, .bl b, by cases b <;> exact ⟨rfl, by decide +kernel, by decide +kernel⟩⟩
  · exact ⟨_, .non, ⟨rfl, by decide +kernel, by decide +kernel⟩⟩
  · exact ⟨_, .str x, h.up (by decide) (by decide)⟩
  · exact ⟨_, .lst g (.cons (.int 1) .nil), (tz_list (k := 0) (b := 401) (m := 1) (ds := [.int 1]) (by show 1 ≤ 1; decide) fun d hd => by
      obtain rfl : d = .int 1 := by simpa using hd
      exact tz_int (by decide +kernel)).up (by decide) (by decide)⟩
theorem BadVal.bad {G : Hp} {v : V} (h : BadVal G v) {d : PyData} (a : Any G v d) : inB d (.int 0) (.int 6) = false := by
  rcases h with ⟨i, rfl, h, _⟩ | ⟨b, rfl⟩ | rfl | ⟨x, rfl, _, _⟩ | ⟨a', rfl, g⟩
  · cases a
    show (decide (0 ≤ i) && decide (i ≤ 6)) = false
    rcases h with h | h
    · rw [decide_eq_false (by omega : ¬ 0 ≤ i), Bool.false_and]
    · rw [decide_eq_false (by omega : ¬ i ≤ 6), Bool.and_false]
  · cases a; rfl
  · cases a; rfl
  · cases a; rfl
  · cases a with
    | lst e _ => rfl
    | tup e _ => rw [g] at e; cases e
    | dct e _ => rw [g] at e; cases e
theorem del_put {H : Hp} {l : Addr} {o : HO} : del (upd H l o) l = del H l := by
  funext b
  by_cases e : b = l
  · subst e
    simp [del]
  · simp [del, e, upd_ne e]
/-- a dict that has been frozen beside a list -/
theorem DicO.del {H : Hp} {a l : Addr} {its : List (V × V)} (h : DicO H a its) (ne : a ≠ l) : DicO (del H l) a its := by
  obtain ⟨x, y, o, u, e, i⟩ := h
  exact ⟨x, y, o, u, by rw [del_ne ne]; exact e, i⟩
theorem new_del {H : Hp} {t l : Addr} {u o : HO} (h : H t = none) (hl : H l = some u) : del (upd H t o) l t = some o ∧ Same (del H l) (del (upd H t o) l) ∧ (upd H t o) l = some u :=
  ⟨by rw [del_ne (Ne.symm (ne_of_none hl h))]; exact upd_same, del_new h, same_new h _ _ hl⟩
/-- a key that no bar has: a tuple, a number, a text -/
def KeyV (n : Nat) (G : Hp) (y : V) : Prop := (∃ t k, y = .ref t ∧ G t = some (.tup (k.map kV)) ∧ Tz 5 1500 (tupK k) ∧ isBarD n (tupK k) = false) ∨ ∃ k, y = kV k ∧ Tz 5 1500 (keyD k)
theorem KeyV.keep {n : Nat} {G G' : Hp} {y : V} (h : KeyV n G y) (k : Same G G') : KeyV n G' y := by
  rcases h with ⟨t, ks, e, g, z⟩ | h
  · exact .inl ⟨t, ks, e, k _ _ g, z⟩
  · exact .inr h
/-- the list l so far, of m values that are no numbers -/
structure AccO (n : Nat) (l : Addr) (m : Nat) (H : Hp) : Prop where
  has : ∃ acc, H l = some (.lst acc) ∧ acc.length = m ∧ ∀ v ∈ acc, OddV n (del H l) v
theorem AccO.snoc {n m : Nat} {l : Addr} {H H' : Hp} {v : V} (h : AccO n l m H) (k : Same (del H l) (del H' l)) (e : H' l = H l) (hv : OddV n (del H' l) v) : ∃ acc, H' l = some (.lst acc) ∧ acc.length = m ∧ AccO n l (m + 1) (upd H' l (.lst (acc ++ [v]))) := by
  obtain ⟨acc, h1, h2, h3⟩ := h
  refine ⟨acc, e.trans h1, h2, acc ++ [v], upd_same, by rw [List.length_append, h2] <;> rfl, fun u hu => ?_⟩
  rw [del_put]
  rcases List.mem_append.mp hu with y | y
  · exact (h3 u y).keep k
  · obtain rfl : u = v := by simpa using y
    exact hv
theorem AccO.keep {n m : Nat} {l : Addr} {H H' : Hp} (h : AccO n l m H) (k : Same H H') (d : Same (del H l) (del H' l)) : AccO n l m H' := by
  obtain ⟨acc, h1, h2, h3⟩ := h
  exact ⟨acc, k _ _ h1, h2, fun v hv => (h3 v hv).keep d⟩
/-- the keys that no bar has -/
theorem keys_odd {n : Nat} {G : Hp} {t1 t2 t3 t4 t5 t6 : Addr} (p1 : G t1 = some (.tup [.int 0, .int ((n : Int) + 1)])) (p2 : G t2 = some (.tup [.int (-1), .int 0])) (p3 : G t3 = some (.tup [.int ((n : Int) + 1), .int ((n : Int) + 1)])) (p4 : G t4 = some (.tup [.int 1, .int 0])) (p5 : G t5 = some (.tup [.int 0]))
    (p6 : G t6 = some (.tup [.int 0, .int 0, .int 0])) (n6 : n ≤ 6) : ∀ y ∈ [V.ref t1, .ref t2, .ref t3, .ref t4, .ref t5, .ref t6, .int 0, .str "00"], KeyV n G y := fun y hy => by
  have two : ∀ {a b : Int} {t : Addr}, G t = some (.tup [.int a, .int b]) → a.natAbs ≤ 1000 → b.natAbs ≤ 1000 → isBarD n (.tuple [.int a, .int b]) = false → KeyV n G (.ref t) := fun {a b t} g ha hb e => .inl ⟨t, [.inl a, .inl b], rfl, g, tz_key2 (int_small ha) (int_small hb), e⟩
  have bar_ : ∀ {a b : Int}, isBarD n (.tuple [.int a, .int b]) = ((decide (0 ≤ a) && decide (a ≤ (n : Nat))) && (decide (a ≤ b) && decide (b ≤ (n : Nat)))) := fun {a b} => rfl
  simp only [List.mem_cons, List.not_mem_nil, or_false] at hy
  rcases hy with z | z | z | z | z | z | z | z <;> subst z
  · exact two p1 (by omega) (by omega) (by rw [bar_, decide_eq_false (p := (n : Int) + 1 ≤ ((n : Nat) : Int)) (by omega)]; simp)
  · exact two p2 (by omega) (by omega) (by rw [bar_]; simp)
  · exact two p3 (by omega) (by omega) (by rw [bar_, decide_eq_false (p := (n : Int) + 1 ≤ ((n : Nat) : Int)) (by omega)]; simp)
  · exact two p4 (by omega) (by omega) (by rw [bar_]; simp)
  · exact .inl ⟨t5, [.inl 0], rfl, p5, ⟨rfl, by decide +kernel, by decide +kernel⟩, rfl⟩
  · exact .inl ⟨t6, [.inl 0, .inl 0, .inl 0], rfl, p6, ⟨rfl, by decide +kernel, by decide +kernel⟩, rfl⟩
  · exact .inr ⟨.inl 0, rfl, ⟨rfl, by decide +kernel, by decide +kernel⟩⟩
  · exact .inr ⟨.inr "00", rfl, ⟨rfl, by decide +kernel, by decide +kernel⟩⟩
theorem bad_vals {G : Hp} {b : Addr} (g : G b = some (.lst [.int 1])) : ∀ y ∈ [V.int (-1), .int 7, .bl true, .non, .str "1", .ref b, .int ((10 : Int) ^ (29 : Int).toNat)], BadVal G y := fun y hy => by
  simp only [List.mem_cons, List.not_mem_nil, or_false] at hy
  rcases hy with z | z | z | z | z | z | z <;> subst z
  · exact .inl ⟨_, rfl, .inl (by decide), by decide +kernel⟩
  · exact .inl ⟨_, rfl, .inr (by decide), by decide +kernel⟩
  · exact .inr (.inl ⟨true, rfl⟩)
  · exact .inr (.inr (.inl rfl))
  · exact .inr (.inr (.inr (.inl ⟨"1", rfl, by decide +kernel, ⟨rfl, by decide +kernel, by decide +kernel⟩⟩)))
  · exact .inr (.inr (.inr (.inr ⟨b, rfl, g⟩)))
  · exact .inl ⟨_, rfl, .inr (by decide +kernel), by decide +kernel⟩
/-- a dict with tuple keys that is bent and then frozen -/
theorem odd_bent {n : Nat} {H : Hp} {T : Nums} {p l : Addr} {k : List L2.Key} {v : V} {bs : List Addr} {o : Obj} (n6 : n ≤ 6) (ok : ∀ q ∈ T, (q.1.1 ≤ q.1.2 ∧ q.1.2 ≤ n) ∧ q.2 ≤ 6) (l9 : T.length ≤ 9) (hl : ∃ acc, H l = some (.lst acc)) (hp : H p = some (.dT (putK (nmT T) k v)))
    (ik : IsKeys H (putK (nmT T) k v) bs) (hd : DicO (upd H p (.frz o (.dT (putK (nmT T) k v)))) p (itemsT bs (putK (nmT T) k v))) (tk : Tz 5 1500 (tupK k)) (dv : Dat (del (upd H p (.frz o (.dT (putK (nmT T) k v)))) l) v)
    (bad : ∀ e, Any (del (upd H p (.frz o (.dT (putK (nmT T) k v)))) l) v e → numItm n (tupK k, e) = false) : OddV n (del (upd H p (.frz o (.dT (putK (nmT T) k v)))) l) (.ref p) := by
  obtain ⟨acc, hl⟩ := hl
  have ne : p ≠ l := fun e => by rw [e, hl] at hp; cases hp
  refine odd_tup (kvs := putK (nmT T) k v) (bs := bs) (isKeys_to ik fun b ys e => ?_) (hd.del ne) ?_ ?_ (put_mem _ _ _) bad
  · have n1 : b ≠ p := fun z => by rw [z, hp] at e; cases e
    have n2 : b ≠ l := fun z => by rw [z, hl] at e; cases e
    rw [del_ne n2, upd_ne n1]
    exact e
  · have := length_putK (nmT T) k v
    have e : (nmT T).length = T.length := by unfold nmT; rw [List.length_map]
    omega
  · exact put_all (R := fun k v => Tz 5 1500 (tupK k) ∧ Dat _ v) (nm_short n6 ok) ⟨tk, dv⟩
/-- a dict with a key of another kind -/
theorem odd_mixed {n : Nat} {G : Hp} {T : Nums} {p l : Addr} {k : L2.Key} {v : V} {bs : List Addr} (n6 : n ≤ 6) (ok : ∀ q ∈ T, (q.1.1 ≤ q.1.2 ∧ q.1.2 ≤ n) ∧ q.2 ≤ 6) (l9 : T.length ≤ 9) (ne : p ≠ l) (ik : IsKeys (del G l) (nmT T) bs) (hd : DicO G p (itemsT bs (nmT T) ++ [(kV k, v)])) (tk : Tz 5 1500 (keyD k)) (dv : Dat (del G l) v) : OddV n (del G l) (.ref p) := by
  have lb := Paired.length ik
  have eT : (nmT T).length = T.length := by unfold nmT; rw [List.length_map]
  refine odd_dic (hd.del ne) ?_ (fun q hq => ?_) (q0 := (kV k, v)) (List.mem_append_right _ List.mem_cons_self) fun d e a1 a2 => ?_
  · unfold itemsT
    rw [List.length_append, List.length_map, List.length_zip]
    show _ + 1 ≤ 12
    omega
  · rcases List.mem_append.mp hq with y | y
    · obtain ⟨z, hz, rfl⟩ := List.mem_map.mp y
      obtain ⟨i, hi⟩ := List.getElem?_of_mem hz
      rw [List.getElem?_zip_eq_some] at hi
      obtain ⟨b, hb, e⟩ := paired_get ik hi.2
      rw [hi.1] at hb
      cases hb
      have := nm_short (H := del G l) n6 ok z.2 (List.mem_of_getElem? hi.2)
      exact ⟨⟨_, any_tupK e, this.1⟩, this.2⟩
    · obtain rfl : q = (kV k, v) := by simpa using y
      exact ⟨⟨_, any_key k, tk⟩, dv⟩
  · have ed : d = keyD k := by cases k <;> (cases a1; rfl)
    rw [ed]
    show (isBarD n (keyD k) && _) = false
    cases k <;> rfl
/-- the promise: a list of values that are no numbers -/
def spNoNums : Sp := fun vs H Q _ => ∃ (x : Str) (d : Addr) (T : Nums), vs = [.str x, .ref d] ∧ x.length ≤ 6 ∧ NumAt H d T ∧ (T.map (·.1)).Nodup ∧ (∀ q ∈ T, (q.1.1 ≤ q.1.2 ∧ q.1.2 ≤ x.length) ∧ q.2 ≤ 6) ∧ T.length ≤ 9 ∧
  ∀ l xs H', H l = none → Same H H' → H' l = some (.lst xs) → xs.length ≤ 30 → (∀ v ∈ xs, OddV x.length H' v) → Q (.ref l) H'
end Rw

set_option Elab.async false
set_option linter.all false
set_option maxRecDepth 100000
set_option maxHeartbeats 1500000
set_option exponentiation.threshold 3000
/-! TkXR: written dicts of one bar, no numbers. -/
namespace Rw
open PySem PySem.Spec PyProof.Rows L2
/-- {(a, b): v} is written and frozen -/
theorem disp1 {H : Hp} {p t : Addr} {k : List L2.Key} {v : V} {Q : VK} (hp : H p = none) (ht : (upd H p (.dT [])) t = none)
    (q : ∀ H' o bs, Same H H' → H' p = some (.frz o (.dT [(k, v)])) → IsKeys H' [(k, v)] bs → DicO H' p (itemsT bs [(k, v)]) → Q (.ref p) H') :
    (upd (upd H p (.dT [])) t (.tup (k.map kV))) p = some (.dT []) ∧ ∃ ks : Trs, [(V.ref t, v)] = ks.map (fun k => (V.ref k.2.1, k.2.2)) ∧ (∀ j ∈ ks, (upd (upd H p (.dT [])) t (.tup (k.map kV))) j.2.1 = some (.tup (j.1.map kV))) ∧ ks.length ≤ 15 ∧
      ∃ d kvs, V.ref p = .ref d ∧ (upd (upd (upd H p (.dT [])) t (.tup (k.map kV))) p (.dT (mergeT [] (ks.map fun k => (k.1, k.2.2))))) d = some (.dT kvs) ∧ kvs.length ≤ 900 ∧
        ∀ o bs, IsKeys (upd (upd (upd H p (.dT [])) t (.tup (k.map kV))) p (.dT (mergeT [] (ks.map fun k => (k.1, k.2.2))))) kvs bs → DicO (upd (upd (upd (upd H p (.dT [])) t (.tup (k.map kV))) p (.dT (mergeT [] (ks.map fun k => (k.1, k.2.2))))) d (.frz o (.dT kvs))) d (itemsT bs kvs) →
          Q (.ref d) (upd (upd (upd (upd H p (.dT [])) t (.tup (k.map kV))) p (.dT (mergeT [] (ks.map fun k => (k.1, k.2.2))))) d (.frz o (.dT kvs))) := by
  have tp : t ≠ p := fun e => by rw [e, upd_same] at ht; cases ht
  have ht4 : H t = none := by rw [upd_ne tp] at ht; exact ht
  refine ⟨by rw [upd_ne (Ne.symm tp), upd_same], [(k, t, v)], rfl, fun j hj => by rw [List.mem_singleton.mp hj]; exact upd_same, (by show 1 ≤ 15; decide), p, [(k, v)], rfl, upd_same, (by show 1 ≤ 900; decide), fun o bs ik hd => q _ o bs (fun b u e => ?_) upd_same (isKeys_to ik fun b ys e => ?_) hd⟩
  · have n1 : b ≠ p := ne_of_none e hp
    have n2 : b ≠ t := ne_of_none e ht4
    rw [upd_ne n1, upd_ne n1, upd_ne n2, upd_ne n1]
    exact e
  · have n1 : b ≠ p := fun z => by rw [z, upd_same] at e; cases e
    rw [upd_ne n1]
    exact e
/-- such a dict is no numbers -/
theorem odd_disp {n : Nat} {H : Hp} {p : Addr} {k : List L2.Key} {v : V} {bs : List Addr} (ik : IsKeys H [(k, v)] bs) (hd : DicO H p (itemsT bs [(k, v)])) (tk : Tz 5 1500 (tupK k)) (dv : Dat H v) (bad : ∀ e, Any H v e → numItm n (tupK k, e) = false) : OddV n H (.ref p) :=
  odd_tup ik hd (by show 1 ≤ 12; decide) (fun q hq => by rw [List.mem_singleton.mp hq]; exact ⟨tk, dv⟩) (q0 := (k, v)) List.mem_cons_self bad
/-- {k: v} with an int is no numbers -/
theorem odd_dispK {n : Nat} {H : Hp} {p : Addr} {i : Int} {v : V} (hd : DicO H p [(V.int i, v)]) (h : i.natAbs < 2 ^ 1016) (dv : Dat H v) : OddV n H (.ref p) :=
  odd_dic hd (by show 1 ≤ 12; decide) (fun q hq => by rw [List.mem_singleton.mp hq]; exact ⟨⟨_, .int i, (tz_int h).up (by decide) (by decide)⟩, dv⟩) (q0 := (V.int i, v)) List.mem_cons_self fun d e a1 a2 => by
    cases a1
    rfl
/-- a written dict of one item among others, frozen -/
theorem disp_cons {tk tv : TE} {ts : TA} {σ : L2.St} {H : Hp} {Q : List V → Hp → Prop} (k : List L2.Key) (v : V) (hk : ∀ (H0 : Hp) (R : VK), (∀ t, H0 t = none → R (.ref t) (upd H0 t (.tup (k.map kV)))) → tk σ H0 R) (hv : ∀ (H0 : Hp) (R : VK), R v H0 → tv σ H0 R)
    (q : ∀ p H' o bs, H p = none → Same H H' → H' p = some (.frz o (.dT [(k, v)])) → IsKeys H' [(k, v)] bs → DicO H' p (itemsT bs [(k, v)]) → ts σ H' fun vs H2 => Q (.ref p :: vs) H2) : tCons (tFrzO (tDispT [(tk, tv)])) ts σ H Q := by
  show tFrzO (tDispT [(tk, tv)]) σ H _
  refine fun p hp => hk _ _ fun t ht => hv _ _ ?_
  exact disp1 (Q := fun x H1 => ts σ H1 fun vs H2 => Q (x :: vs) H2) hp ht fun H' o bs s f ik hd => q p H' o bs hp s f ik hd
theorem cons_c {v : V} {ts : TA} {σ : L2.St} {H : Hp} {Q : List V → Hp → Prop} (h : ts σ H fun vs H2 => Q (v :: vs) H2) : tCons (tC v) ts σ H Q := h
/-- what makes a tuple of a key; what is a value -/
def MkK (σ : L2.St) (k : List L2.Key) (tk : TE) : Prop := ∀ (H0 : Hp) (R : VK), (∀ t, H0 t = none → R (.ref t) (upd H0 t (.tup (k.map kV)))) → tk σ H0 R
def MkV (σ : L2.St) (v : V) (tv : TE) : Prop := ∀ (H0 : Hp) (R : VK), R v H0 → tv σ H0 R
theorem pairs_go {σ : L2.St} : ∀ {trs : List (TE × TE)} {kvs : List (List L2.Key × V)}, Paired (fun (tr : TE × TE) (kv : List L2.Key × V) => MkK σ kv.1 tr.1 ∧ MkV σ kv.2 tr.2) trs kvs → ∀ {H : Hp} {Q : List (V × V) → Hp → Prop},
    (∀ (H' : Hp) (ks : Trs), Same H H' → ks.map (fun k => (k.1, k.2.2)) = kvs → (∀ k ∈ ks, H' k.2.1 = some (.tup (k.1.map kV))) → Q (ks.map fun k => (V.ref k.2.1, k.2.2)) H') → tPairs trs σ H Q
  | _, _, .nil, H, Q, q => q H [] (Same.refl _) rfl fun k h => nomatch h
  | _, _, .cons (a := tr) (b := kv) h t, H, Q, q => by
    obtain ⟨tk, tv⟩ := tr
    refine h.1 _ _ fun a ha => h.2 _ _ (pairs_go t fun H' ks s e hk => ?_)
    have s0 := same_new (o := .tup (kv.1.map kV)) ha
    have := q H' ((kv.1, a, kv.2) :: ks) (s0.trans s) (by rw [List.map_cons, e]) fun k hk' => by
      rcases List.mem_cons.mp hk' with z | z
      · rw [z]; exact s _ _ upd_same
      · exact hk k z
    exact this
/-- a written dict of numbers of bars, frozen -/
theorem disp_nums {σ : L2.St} {trs : List (TE × TE)} {M : Nums} {H : Hp} {Q : VK} (h : Paired (fun (tr : TE × TE) (kv : List L2.Key × V) => MkK σ kv.1 tr.1 ∧ MkV σ kv.2 tr.2) trs (nmT M)) (nd : (M.map (·.1)).Nodup) (l : M.length ≤ 15)
    (q : ∀ p H', H p = none → Same H H' → NumAt H' p M → Q (.ref p) H') : tFrzO (tDispT trs) σ H Q := by
  refine fun p hp => pairs_go h fun H2 ks s e hk => ?_
  have e2 : H2 p = some (.dT []) := s _ _ upd_same
  have em : mergeT [] (ks.map fun k => (k.1, k.2.2)) = nmT M := by rw [e]; exact merge_all nd
  have lk : ks.length = M.length := by
    have := congrArg List.length e
    rw [List.length_map] at this
    rw [this]
    unfold nmT
    rw [List.length_map]
  refine ⟨e2, ks, rfl, hk, by omega, p, nmT M, rfl, by rw [upd_same, em], by unfold nmT; rw [List.length_map]; omega, fun o bs _ _ => ?_⟩
  refine q p _ hp (fun b u eb => ?_) ⟨o, upd_same⟩
  have nb : b ≠ p := ne_of_none eb hp
  rw [upd_ne nb, upd_ne nb]
  exact s _ _ (by rw [upd_ne nb]; exact eb)
theorem nums_cons {σ : L2.St} {trs : List (TE × TE)} {M : Nums} {ts : TA} {H : Hp} {Q : List V → Hp → Prop} (h : Paired (fun (tr : TE × TE) (kv : List L2.Key × V) => MkK σ kv.1 tr.1 ∧ MkV σ kv.2 tr.2) trs (nmT M)) (nd : (M.map (·.1)).Nodup) (l : M.length ≤ 15)
    (q : ∀ p H', H p = none → Same H H' → NumAt H' p M → ts σ H' fun vs H2 => Q (.ref p :: vs) H2) : tCons (tFrzO (tDispT trs)) ts σ H Q := disp_nums (Q := fun x H1 => ts σ H1 fun vs H2 => Q (x :: vs) H2) h nd l q
def oddLast : List PyData := [.none, .int (-1), .int 7, .bool true, .str "2", .list [.int 2], .int ((10 : Int) ^ (29 : Int).toNat)]
theorem oddLast_ok : ∀ d ∈ oddLast, isSzD d = false ∧ Tz 6 50000 d := by
  intro d hd
  simp only [oddLast, List.mem_cons, List.not_mem_nil, or_false] at hd
  rcases hd with z | z | z | z | z | z | z <;> subst z <;> exact ⟨by decide +kernel, ⟨rfl, by decide +kernel, by decide +kernel⟩⟩
end Rw

set_option Elab.async false
set_option linter.all false
set_option maxRecDepth 100000
set_option maxHeartbeats 1500000
/-! TkXH: numbers set; sizes above six. -/
namespace Rw
open PySem PySem.Spec PyProof.Rows L2
def setN (T : Nums) (q : Nat × Nat) (m : Nat) : Nums := if q ∈ T.map (·.1) then T.map (fun r => if r.1 = q then (r.1, m) else r) else T ++ [(q, m)]
theorem put_set (T : Nums) (q : Nat × Nat) (m : Nat) : putK (nmT T) (keyT q) (.int ((m : Nat) : Int)) = nmT (setN T q m) := by
  unfold putK setN
  rw [put_any]
  by_cases h : q ∈ T.map (·.1)
  · rw [if_pos (decide_eq_true h), if_pos h]
    unfold nmT
    rw [List.map_map, List.map_map]
    refine List.map_congr_left fun r _ => ?_
    show (if keyT r.1 = keyT q then (keyT r.1, _) else nmE r) = nmE (if r.1 = q then (r.1, m) else r)
    by_cases e : r.1 = q
    · rw [if_pos (congrArg keyT e), if_pos e] <;> rfl
    · rw [if_neg (fun z => e (keyT_inj z)), if_neg e]
  · rw [if_neg (by simpa using h), if_neg h]
    unfold nmT
    rw [List.map_append] <;> rfl
theorem set_keys (T : Nums) (q : Nat × Nat) (m : Nat) : (setN T q m).map (·.1) = if q ∈ T.map (·.1) then T.map (·.1) else T.map (·.1) ++ [q] := by
  unfold setN
  by_cases h : q ∈ T.map (·.1)
  · rw [if_pos h, if_pos h, List.map_map]
    refine List.map_congr_left fun r _ => ?_
    show (if r.1 = q then (r.1, m) else r).1 = r.1
    split <;> rfl
  · rw [if_neg h, if_neg h, List.map_append] <;> rfl
theorem set_nodup {T : Nums} {q : Nat × Nat} {m : Nat} (h : (T.map (·.1)).Nodup) : ((setN T q m).map (·.1)).Nodup := by
  rw [set_keys]
  by_cases e : q ∈ T.map (·.1)
  · rw [if_pos e]; exact h
  · rw [if_neg e, List.nodup_append]
    refine ⟨h, by simp, fun a ha b hb z => ?_⟩
    rw [List.mem_singleton.mp hb] at z
    exact e (by rw [← z]; exact ha)
theorem set_all {R : (Nat × Nat) × Nat → Prop} {T : Nums} {q : Nat × Nat} {m : Nat} (h : ∀ r ∈ T, R r) (h2 : R (q, m)) : ∀ r ∈ setN T q m, R r := fun r hr => by
  unfold setN at hr
  split at hr
  · obtain ⟨s, hs, e⟩ := List.mem_map.mp hr
    by_cases e2 : s.1 = q
    · rw [if_pos e2, e2] at e
      rw [← e]
      exact h2
    · rw [if_neg e2] at e
      rw [← e]
      exact h s hs
  · rcases List.mem_append.mp hr with y | y
    · exact h r y
    · obtain rfl : r = (q, m) := by simpa using y
      exact h2
theorem set_len (T : Nums) (q : Nat × Nat) (m : Nat) : (setN T q m).length ≤ T.length + 1 := by
  have h := congrArg List.length (set_keys T q m)
  rw [List.length_map] at h
  rw [h]
  split
  · rw [List.length_map]; omega
  · rw [List.length_append, List.length_map] <;> exact Nat.le_refl _
/-- sizes above six -/
def largeN (n : Nat) (M : Nums) : List Int := (sizesT n M).filter fun k => decide (6 < k)
def spGreat : Sp := fun vs H Q _ => ∃ (p l d : Addr) (x : Str) (vs2 : List V) (T : Nums) (n : Nat), vs = [.ref p, .str x, .ref l, .ref d] ∧ Pat x 6 ∧ Bx H p n ∧ n ≤ 600000 ∧ NumAt H d T ∧ DrawN x.length 4 T ∧ T.length ≤ 9 ∧ H l = some (.lst vs2) ∧ l ≠ p ∧ vs2.length = x.length + 1 ∧
  ∀ t dd ll M H', H t = none → Grow p H H' → Bx H' p (n + 3) → H' t = some (.tup [.ref dd, .ref ll]) → NumAt H' dd M → NumM x.length M → M.length ≤ 12 → H' ll = some (.lst ((largeN x.length M).map V.int)) → Q (.ref t) H'
/-- the first size above six -/
theorem large_nil {n : Nat} {M : Nums} (h : largeN n M = []) : ∀ i, i ≤ n → szN M i ≤ 6 := fun i hi => by
  refine Nat.le_of_not_lt fun c => ?_
  have m : ((szN M i : Nat) : Int) ∈ largeN n M := by
    refine List.mem_filter.mpr ⟨?_, decide_eq_true (by omega)⟩
    exact List.mem_map.mpr ⟨i, List.mem_range.mpr (by omega), rfl⟩
  rw [h] at m
  cases m
theorem large_first {n : Nat} {M : Nums} {i : Nat} (hi : i ≤ n) (h6 : 6 < szN M i) (lo : ∀ j, j < i → szN M j ≤ 6) : ∃ r, largeN n M = ((szN M i : Nat) : Int) :: r := by
  have e : List.range (n + 1) = List.range i ++ (List.range' i (n + 1 - i)) := by
    have := List.range'_append (s := 0) (m := i) (n := n + 1 - i) (step := 1)
    rw [List.range_eq_range', List.range_eq_range', show n + 1 = i + (n + 1 - i) by omega, ← this]
    simp
  unfold largeN sizesT
  rw [e, show n + 1 - i = (n - i) + 1 by omega, List.range'_succ, List.map_append, List.filter_append, List.map_cons, List.filter_cons, if_pos (decide_eq_true (by omega))]
  have e2 : ((List.range i).map fun i => ((szN M i : Nat) : Int)).filter (fun k => decide (6 < k)) = [] := by
    rw [List.filter_eq_nil_iff]
    intro k hk
    obtain ⟨j, hj, rfl⟩ := List.mem_map.mp hk
    have := lo j (List.mem_range.mp hj)
    simp
    omega
  rw [e2]
  exact ⟨_, rfl⟩
end Rw

set_option Elab.async false
set_option linter.all false
set_option maxRecDepth 100000
set_option maxHeartbeats 1500000
/-! TkXI: what is told by each of some ways, as texts, against one text that often. -/
namespace Rw
open PySem PySem.Spec PyProof.Rows L2
theorem paired_rep {α : Type} {F : α → α → Prop} {a : α} (h : F a a) : ∀ n : Nat, Paired F (List.replicate n a) (List.replicate n a)
  | 0 => .nil
  | n + 1 => .cons h (paired_rep h n)
theorem wd_ok {t : Str} {d : PyData} (tt : Tz 0 401 (.str t)) (tz : Tz 6 50000 d) : (wD t d).showable = true ∧ (wD t d).depth ≤ 60 ∧ (wD t d).shown.length ≤ sizeLine :=
  (tz_list (k := 6) (b := 50000) (m := 2) (ds := [.str t, d]) (by show 2 ≤ 2; decide) fun e he => by
    rcases List.mem_cons.mp he with z | z
    · rw [z]; exact tt.up (by decide) (by decide)
    · rw [List.mem_singleton.mp z]; exact tz).ok (by decide) (by decide)
theorem test_ok {K : PySem.W.Frag} {t : Str} {n i1 i2 : Nat} {σ : L2.St} {H : Hp} {D : Ends} {v v1 v2 : V} {d : PyData} (n3 : n ≤ 3) (hσ : σ[7]? = some (some v)) (h7 : ∀ x, ((wipe σ [12]).set 12 (some x))[7]? = some (some v)) (h1 : ∀ x, ((wipe σ [12]).set 12 (some x))[i1]? = some (some v1))
    (h2 : ∀ x, ((wipe σ [12]).set 12 (some x))[i2]? = some (some v2)) (h12 : ∀ x, ((wipe σ [12]).set 12 (some x))[12]? = some (some x)) (hw : ∀ x, wipe ((wipe σ [12]).set 12 (some x)) [12] = wipe σ [12]) (ax : Ax H v d) (tz : Tz 6 50000 d) (tt : Tz 0 401 (.str t))
    (cau : ∀ (way : Nat) H', way < n → Same H H' → ∀ Q : VK, Out H' Q [.str t, v] → spCau [.int ((way : Nat) : Int), v1, v2, v] H' Q E0) (k : ∀ H', Same H H' → D.nx σ H') :
    tIfS (tTest (tOp (rNeV K) (tLc (iRng1 (tCons (tC (.int ((n : Nat) : Int))) tNil)) (gName 12) tYes (tCB rReprW (tCons (tCall spCau [] E0 (tCons (tVar 12) (tCons (tVar i1) (tCons (tVar i2) (tCons (tVar 7) tNil))))) tNil)) [12])
      (tOp rRep (tLst (tCons (tCB rReprW (tCons (tLst (tCons (tC (.str t)) (tCons (tVar 7) tNil))) tNil)) tNil)) (tC (.int ((n : Nat) : Int)))))) (tRet (tC (.bl false))) tNext D σ H := by
  obtain ⟨w1, w2, w3⟩ := wd_ok tt tz
  refine ⟨((n : Nat) : Int), rfl, by omega, by omega, fun Da hDa => ?_⟩
  rw [show ((n : Nat) : Int).toNat = n by omega]
  refine lc_it (walk_rng (n := n)) (Pv := fun k H' => Same H H' ∧ H' Da = some (.lst (List.replicate k (.str (wD t d).shown)))) ⟨same_new hDa, upd_same⟩ (fun _ _ _ _ => trivial) ?_ ?_
  · rintro i y H3 H2 hi ⟨s2, e2⟩ ⟨rfl, rfl⟩
    refine ⟨hw _, ?_⟩
    unfold tYes
    refine Eq.mpr (if_pos (rfl : true = true)) ?_
    refine ⟨_, h12 _, _, h1 _, _, h2 _, _, h7 _, cau i H2 hi s2 _ fun l H3 hl k3 e3 => ?_⟩
    refine ⟨l, t, d, rfl, ⟨v, e3, ax.keep (s2.trans k3)⟩, w1, w2, w3, ?_⟩
    refine ⟨_, k3 _ _ e2, Nat.lt_of_le_of_lt (by rw [List.length_replicate]; omega : _ ≤ 3) (by decide), fun b o e => ?_, ?_⟩
    · rw [upd_ne (ne_of_none e hDa)]
      exact k3 _ _ (s2 _ _ e)
    · rw [upd_same, List.replicate_succ']
  · rintro H9 ⟨s9, e9⟩
    refine ⟨_, hσ, by show 2 ≤ sizeLine; decide, fun l1 hl1 => ?_⟩
    have k1 := same_new (o := .lst [.str t, v]) hl1
    refine ⟨l1, t, d, rfl, ⟨v, upd_same, ax.keep (s9.trans k1)⟩, w1, w2, w3, by show 1 ≤ sizeLine; decide, fun l2 hl2 => ?_⟩
    refine ⟨l2, ((n : Nat) : Int), _, rfl, rfl, upd_same, by omega, by omega, ?_, fun l3 hl3 => ?_⟩
    · show 1 * ((n : Nat) : Int).toNat ≤ sizeLine
      exact Nat.le_trans (by omega : _ ≤ 3) (by decide)
    rw [show ((n : Nat) : Int).toNat = n by omega, flat_one]
    have k3 := same_new (o := .lst (List.replicate n (.str (wD t d).shown))) hl3
    have K9 := (k1.trans (same_new (o := .lst [.str (wD t d).shown]) hl2)).trans k3
    exact ⟨Da, l3, _, _, 1, rfl, rfl, K9 _ _ e9, upd_same, by decide, paired_rep (eqv_flat (n := 0) rfl) n, _, rfl, iteF (k _ (s9.trans K9))⟩
end Rw

set_option Elab.async false
set_option linter.all false
set_option maxRecDepth 100000
set_option maxHeartbeats 1500000
/-! TkXJ: values that are no primes, no sizes. -/
namespace Rw
open PySem PySem.Spec PyProof.Rows L2
def oddPr : List PyData := [.none, .int 4, .bool true, .str "2", .list [.int 3], .int 0, .int 17]
theorem oddPr_ok : ∀ d ∈ oddPr, isPr d = false ∧ Tz 6 50000 d := by
  intro d hd
  simp only [oddPr, List.mem_cons, List.not_mem_nil, or_false] at hd
  rcases hd with z | z | z | z | z | z | z <;> subst z <;> exact ⟨by decide +kernel, ⟨rfl, by decide +kernel, by decide +kernel⟩⟩
def oddSz9 (ss : List Int) : List PyData := [.none, .int 3, .str "0", .dict [], .list (ss.map PyData.int ++ [.int 0]), .list ((ss.drop 1).map PyData.int), .list ((ss.drop 1).map PyData.int ++ [.int 7]), .list ((ss.drop 1).map PyData.int ++ [.int (-1)]), .list ((ss.drop 1).map PyData.int ++ [.bool true])]
theorem oddSz9_ok {n : Nat} {ss : List Int} (l : ss.length = n + 1) (n6 : n ≤ 6) (sm : ∀ k ∈ ss, 0 ≤ k ∧ k ≤ 6) : ∀ d ∈ oddSz9 ss, sizesOk n d = false ∧ (itemsD d).length ≤ 1000 ∧ Tz 6 50000 d := by
  have ld : (ss.drop 1).length = n := by rw [List.length_drop]; omega
  have bigT : ∀ {ds : List PyData} {e : PyData}, ds.length ≤ 7 → (∀ d ∈ ds, ∃ k : Int, d = .int k ∧ 0 ≤ k ∧ k ≤ 6) → Tz 0 401 e → Tz 6 50000 (.list (ds ++ [e])) := fun {ds e} h1 h2 h3 =>
    (tz_list (k := 0) (b := 401) (m := 8) (by rw [List.length_append]; show _ + 1 ≤ 8; omega) fun d hd => by
      rcases List.mem_append.mp hd with y | y
      · obtain ⟨k, rfl, k0, k6⟩ := h2 d y
        exact tz_int (int_small (by omega))
      · rw [List.mem_singleton.mp y]; exact h3).up (by decide) (by decide)
  have smi : ∀ {l : List Int}, (∀ k ∈ l, 0 ≤ k ∧ k ≤ 6) → ∀ d ∈ l.map PyData.int, ∃ k : Int, d = .int k ∧ 0 ≤ k ∧ k ≤ 6 := fun {l} h d hd => by
    obtain ⟨k, hk, rfl⟩ := List.mem_map.mp hd
    exact ⟨k, rfl, h k hk⟩
  have smd : ∀ k ∈ ss.drop 1, 0 ≤ k ∧ k ≤ 6 := fun k hk => sm k (List.mem_of_mem_drop hk)
  have lastT : ∀ {ds : List PyData} {e : PyData}, inB e (.int 0) (.int 6) = false → sizesOk n (.list (ds ++ [e])) = false := fun {ds e} h => by
    show (true && (decide ((ds ++ [e]).length = n + 1) && (ds ++ [e]).all isSzD)) = false
    rw [List.all_append, show [e].all isSzD = false by show (isSzD e && true) = false; rw [show isSzD e = false from h] <;> rfl, Bool.and_false, Bool.and_false] <;> rfl
  intro d hd
  simp only [oddSz9, List.mem_cons, List.not_mem_nil, or_false] at hd
  rcases hd with z | z | z | z | z | z | z | z | z <;> subst z
  · exact ⟨rfl, by decide, ⟨rfl, by decide +kernel, by decide +kernel⟩⟩
  · exact ⟨rfl, by decide, ⟨rfl, by decide +kernel, by decide +kernel⟩⟩
  · exact ⟨rfl, by decide, ⟨rfl, by decide +kernel, by decide +kernel⟩⟩
  · exact ⟨rfl, by decide, ⟨rfl, by decide +kernel, by decide +kernel⟩⟩
  · refine ⟨?_, ?_, bigT (by rw [List.length_map]; omega) (smi sm) (tz_int (by decide +kernel))⟩
    · show (true && (decide ((ss.map PyData.int ++ [PyData.int 0]).length = n + 1) && _)) = false
      rw [decide_eq_false (by rw [List.length_append, List.length_map]; show ¬ _ + 1 = _; omega), Bool.false_and, Bool.and_false]
    · show (ss.map PyData.int ++ [PyData.int 0]).length ≤ 1000
      rw [List.length_append, List.length_map]
      show _ + 1 ≤ _
      omega
  · refine ⟨?_, ?_, ?_⟩
    · show (true && (decide (((ss.drop 1).map PyData.int).length = n + 1) && _)) = false
      rw [decide_eq_false (by rw [List.length_map]; omega), Bool.false_and, Bool.and_false]
    · show ((ss.drop 1).map PyData.int).length ≤ 1000
      rw [List.length_map]
      omega
    · exact (tz_list (k := 0) (b := 401) (m := 8) (by rw [List.length_map]; omega) fun d hd => by
        obtain ⟨k, rfl, k0, k6⟩ := smi smd d hd
        exact tz_int (int_small (by omega))).up (by decide) (by decide)
  all_goals refine ⟨lastT rfl, ?_, bigT (by rw [List.length_map]; omega) (smi smd) ?_⟩
  all_goals first
    | (show ((ss.drop 1).map PyData.int ++ [_]).length ≤ 1000; rw [List.length_append, List.length_map]; show _ + 1 ≤ _; omega)
    | exact ⟨rfl, by decide +kernel, by decide +kernel⟩
theorem anyL_intsV {H : Hp} : ∀ l : List Int, AnyL H (l.map V.int) (l.map PyData.int)
  | [] => .nil
  | k :: l => .cons (.int k) (anyL_intsV l)
theorem anyL_snocX {H : Hp} {v : V} {d : PyData} : ∀ {vs : List V} {ds : List PyData}, AnyL H vs ds → Any H v d → AnyL H (vs ++ [v]) (ds ++ [d])
  | _, _, .nil, h => .cons h .nil
  | _, _, .cons a b, h => .cons a (anyL_snocX b h)
/-- a list of smi and one thing more -/
theorem any_more {H : Hp} {b : Addr} {l : List Int} {v : V} {d : PyData} (e : H b = some (.lst (l.map V.int ++ [v]))) (h : Any H v d) : Any H (.ref b) (.list (l.map PyData.int ++ [d])) := .lst e (anyL_snocX (anyL_intsV l) h)
end Rw

set_option Elab.async false
set_option linter.all false
set_option maxRecDepth 100000
set_option maxHeartbeats 1500000
/-! TkXK: what is told by two ways, as data, against one datum twice. -/
namespace Rw
open PySem PySem.Spec PyProof.Rows L2
theorem due_ok {K : PySem.W.Frag} {xs : List V} {dd : PyData} {due : Addr} {σ : L2.St} {H : Hp} {D : Ends} {v v1 v2 : V} (hσ : σ[11]? = some (some (.ref due))) (h9 : ∀ x, ((wipe σ [12]).set 12 (some x))[9]? = some (some v)) (h1 : ∀ x, ((wipe σ [12]).set 12 (some x))[3]? = some (some v1))
    (h2 : ∀ x, ((wipe σ [12]).set 12 (some x))[4]? = some (some v2)) (h12 : ∀ x, ((wipe σ [12]).set 12 (some x))[12]? = some (some x)) (hw : ∀ x, wipe ((wipe σ [12]).set 12 (some x)) [12] = wipe σ [12])
    (hd : ∀ (H' : Hp) l, H' l = some (.lst xs) → Any H' (.ref l) dd) (ed : H due = some (.lst xs)) (lay : dd.canLay0 = true) (dp : dd.depth ≤ 60)
    (cau : ∀ (way : Nat) H', way < 2 → Same H H' → ∀ Q : VK, Out H' Q xs → spCau [.int ((way : Nat) : Int), v1, v2, v] H' Q E0) (k : ∀ H', Same H H' → D.nx σ H') :
    tIfS (tTest (tOp (rNeD K) (tLc (iRng1 (tCons (tC (.int 2)) tNil)) (gName 12) tYes (tCall spCau [] E0 (tCons (tVar 12) (tCons (tVar 3) (tCons (tVar 4) (tCons (tVar 9) tNil))))) [12])
      (tOp rRep (tLst (tCons (tVar 11) tNil)) (tC (.int 2))))) (tRet (tC (.bl false))) tNext D σ H := by
  refine ⟨(2 : Int), rfl, by decide, by decide, fun Da hDa => ?_⟩
  refine lc_it (walk_rng (n := 2)) (Pv := fun k H' => Same H H' ∧ ∃ ls : List Addr, H' Da = some (.lst (ls.map V.ref)) ∧ ls.length = k ∧ ∀ l ∈ ls, H' l = some (.lst xs) ∧ l ≠ Da) ⟨same_new hDa, [], upd_same, rfl, fun l h => nomatch h⟩ (fun _ _ _ _ => trivial) ?_ ?_
  · rintro i y H3 H2 hi ⟨s2, ls, e2, l2, al⟩ ⟨rfl, rfl⟩
    refine ⟨hw _, ?_⟩
    unfold tYes
    refine Eq.mpr (if_pos (rfl : true = true)) ?_
    refine ⟨_, h12 _, _, h1 _, _, h2 _, _, h9 _, cau i H2 hi s2 _ fun l H3 hl k3 e3 => ?_⟩
    have nl : l ≠ Da := fun z => by rw [z, e2] at hl; cases hl
    refine ⟨_, k3 _ _ e2, Nat.lt_of_le_of_lt (by rw [List.length_map]; omega : _ ≤ 3) (by decide), fun b o e => ?_, ls ++ [l], by rw [upd_same, List.map_append] <;> rfl, by rw [List.length_append, l2] <;> rfl, fun m hm => ?_⟩
    · rw [upd_ne (ne_of_none e hDa)]
      exact k3 _ _ (s2 _ _ e)
    · rcases List.mem_append.mp hm with y | y
      · exact ⟨by rw [upd_ne (al m y).2]; exact k3 _ _ (al m y).1, (al m y).2⟩
      · rw [List.mem_singleton.mp y]
        exact ⟨by rw [upd_ne nl]; exact e3, nl⟩
  · rintro H9 ⟨s9, ls, e9, l9, al⟩
    refine ⟨_, hσ, by show 1 ≤ sizeLine; decide, fun l2 hl2 => ?_⟩
    refine ⟨l2, 2, _, rfl, rfl, upd_same, by decide, by decide, by show 1 * 2 ≤ sizeLine; decide, fun l3 hl3 => ?_⟩
    have K2 := same_new (o := .lst [.ref due]) hl2
    have k3 := same_new (o := .lst (List.replicate (2 : Int).toNat [V.ref due]).flatten) hl3
    have K9 := K2.trans k3
    have ed9 := K9 _ _ (s9 _ _ ed)
    have two : ∀ {n : Nat}, ls.length = n → AnyL (upd (upd H9 l2 (.lst [.ref due])) l3 (.lst (List.replicate (2 : Int).toNat [V.ref due]).flatten)) (ls.map V.ref) (List.replicate n dd) := fun {n} hn => by
      clear e9 l9
      induction ls generalizing n with
      | nil => subst hn; exact .nil
      | cons l ls ih =>
        subst hn
        exact .cons (hd _ _ (K9 _ _ (al l List.mem_cons_self).1)) (ih (fun m hm => al m (List.mem_cons_of_mem _ hm)) rfl)
    refine ne_same (d := .list [dd, dd]) (.lst (K9 _ _ e9) (two l9)) (.lst (xs := [.ref due, .ref due]) upd_same (.cons (hd _ _ ed9) (.cons (hd _ _ ed9) .nil))) (lay_list fun e he => by
      simp only [List.mem_cons, List.not_mem_nil, or_false, or_self] at he
      rw [he]
      exact lay) (by
      have e0 : PyData.depthAll ([] : List PyData) = 0 := by simp only [PyData.depthAll]
      simp only [PyData.depth, PyData.depthAll]
      omega) ⟨_, rfl, iteF (k _ (s9.trans K9))⟩
/-- a list with something in it is not the empty one -/
theorem ne_empty {K : PySem.W.Frag} {H : Hp} {a b : Addr} {l : List Int} {Q : VK} (ea : H a = some (.lst (l.map V.int))) (eb : H b = some (.lst [])) (q : Q (.bl (decide (l ≠ []))) H) : rNeD K (.ref a) (.ref b) H Q := by
  have la : (PyData.list (l.map PyData.int)).canLay0 = true := lay_list fun e he => by
    obtain ⟨k, _, rfl⟩ := List.mem_map.mp he
    rfl
  have da : (PyData.list (l.map PyData.int)).depth ≤ 64 := by
    have : ∀ m : List Int, PyData.depthAll (m.map PyData.int) = 0 := fun m => by
      induction m with
      | nil => simp only [List.map_nil, PyData.depthAll]
      | cons k m ih => simp only [List.map_cons, PyData.depthAll, PyData.depth, ih] <;> rfl
    simp only [PyData.depth, this]
    omega
  have s1 : SeqAt.shaped (PyData.list (l.map PyData.int)) = true := by
    unfold SeqAt.shaped
    rw [la, decide_eq_true da] <;> rfl
  refine ⟨.list (l.map .int), .list [], any_dp _ _ (.lst ea (anyL_intsV l)) la, any_dp _ _ (.lst eb .nil) rfl, s1, by decide +kernel, ?_⟩
  have e : (!PyData.eqv (.list (l.map PyData.int)) (.list [])) = decide (l ≠ []) := by
    cases l with
    | nil => rfl
    | cons k l => rfl
  rw [e]
  exact q
theorem large_none {n : Nat} {M : Nums} (h : ∀ i, i ≤ n → szN M i ≤ 6) : largeN n M = [] := by
  unfold largeN
  rw [List.filter_eq_nil_iff]
  intro k hk
  obtain ⟨j, hj, rfl⟩ := List.mem_map.mp hk
  have := h j (by have := List.mem_range.mp hj; omega)
  simp
  omega
end Rw

set_option Elab.async false
set_option linter.all false
set_option maxRecDepth 100000
set_option maxHeartbeats 4000000
set_option exponentiation.threshold 3000
/-! K53O: the law: what comes last. -/
namespace K53
open PySem PySem.Spec PyProof.Rows L2 Rw
abbrev sLastR : Stmt := top 53
abbrev NLastR : List Str := ["_law_arrows_here", "_law_p", "_law_held", "_law_many", "_law_odd", "_law_great"]
theorem scLastR : FnScope NLastR ["_law_arrows_here", "_law_p", "_law_held"] (defScope sLastR) := ⟨rfl, rfl, rfl, by decide +kernel, rfl, by decide +kernel, by decide +kernel⟩
def spLastR : Sp := fun vs H Q _ => ∃ (x : Str) (p : Nat) (d : Addr) (T : Nums), vs = [.str x, .int ((p : Nat) : Int), .ref d] ∧ Pat x 6 ∧ x.length < 6 ∧ PrN p ∧ NumAt H d T ∧ DrawN x.length 4 T ∧ T.length ≤ 9 ∧ ∀ H', Same H H' → Q (.bl true) H'
section
variable {P : Program} {w : World} {K : PySem.W.Frag} {mg : Str → Option Value} {base : Heap}
theorem okLastR {f : Addr} {fd : FuncData} (F : Fun K "_law_last_right" "_law_last_right" sLastR f fd) (zl : mg "len" = none) (zp : mg "repr" = none) (GC : Own P w K mg base CX0 12 "_law_caught" ["_law_way", "_law_arrows_here", "_law_p", "_law_some", "_law_sign", "_law_thing"] [] spCau) :
    FnG P w K mg base CX0 13 f fd ["_law_arrows_here", "_law_p", "_law_held"] spLastR := by
  refine funG F scLastR (fun vs H Q E h => ?_) (fun cdv A outer s H vs Q E gu hr h => ?_)
  · obtain ⟨x, p, d, T, rfl, _⟩ := h
    rfl
  · obtain ⟨x, p, d, T, rfl, px, x6, pp, nd, dn, l9, q⟩ := h
    refine ⟨_, (pss_cons (ps_set (i := 3) scLastR.nd rfl (Or.inl rfl) (pe_callB call_len_str (by rfl) zl (by decide +kernel) (pa_cons (pv 0) pa_nil)))
      (pss_cons (ps_for PassesOwn.never rfl (pi_list (pe_lst (pa_cons pe_non (pa_cons (pe_un un_neg pe_int) (pa_cons pe_int (pa_cons pe_bl (pa_cons pe_str (pa_cons (pe_lst (pa_cons pe_int pa_nil)) (pa_cons (pe_op op_pow pe_int pe_int) pa_nil))))))))) (pg_name (i := 4) scLastR.nd rfl (Or.inl rfl)) (pss_one (ps_if (pt_cmpR op_ne (pe_callB (call_reprW gu hr.units) (by rfl) zp (by decide +kernel) (pa_cons (pe_own GC (hr.mono (by decide)) pass0 (pa_cons pe_int (pa_cons (pv 0) (pa_cons (pv 1) (pa_cons (pv 2) (pa_cons pe_str (pa_cons (pv 4) pa_nil))))))) pa_nil)) (pe_callB (call_reprW gu hr.units) (by rfl) zp (by decide +kernel) (pa_cons (pe_lst (pa_cons pe_str (pa_cons (pv 4) pa_nil))) pa_nil)) (nomark _)) (pss_one (ps_ret pe_bl)) pss_nil)))
      (pss_cons (ps_for PassesOwn.never rfl (pi_list (pe_lst (pa_cons pe_non (pa_cons pe_int (pa_cons (pe_lst pa_nil) (pa_cons pe_str (pa_cons (pe_frzO (pe_dispT (hu_of hr) (pps_cons (pe_tup (pa_cons pe_int (pa_cons (pe_op op_add (pv 3) pe_int) pa_nil))) pe_int pps_nil) (by rfl) (by rfl) (fun z => by cases z) (by decide))) (pa_cons (pe_frzO (pe_dispT (hu_of hr) (pps_cons (pe_tup (pa_cons pe_int (pa_cons pe_int pa_nil))) pe_int pps_nil) (by rfl) (by rfl) (fun z => by cases z) (by decide))) (pa_cons (pe_frzO (pe_dispT (hu_of hr) (pps_cons (pe_tup (pa_cons pe_int (pa_cons pe_int pa_nil))) (pe_un un_neg pe_int) pps_nil) (by rfl) (by rfl) (fun z => by cases z) (by decide))) (pa_cons (pe_frzO (pe_dispT (hu_of hr) (pps_cons (pe_tup (pa_cons pe_int (pa_cons pe_int pa_nil))) pe_bl pps_nil) (by rfl) (by rfl) (fun z => by cases z) (by decide))) (pa_cons (pe_frzO (pe_dispT (hu_of hr) (pps_cons (pe_tup (pa_cons pe_int (pa_cons pe_int pa_nil))) pe_int pps_nil) (by rfl) (by rfl) (fun z => by cases z) (by decide))) (pa_cons (pe_frzK (pe_disp (pps_cons pe_int pe_int pps_nil) (by rfl) (by rfl) (fun z => by cases z) (by decide))) pa_nil)))))))))))) (pg_name (i := 4) scLastR.nd rfl (Or.inl rfl)) (pss_one (ps_if (pt_cmpR op_ne (pe_callB (call_reprW gu hr.units) (by rfl) zp (by decide +kernel) (pa_cons (pe_own GC (hr.mono (by decide)) pass0 (pa_cons pe_int (pa_cons (pv 0) (pa_cons (pv 1) (pa_cons (pv 2) (pa_cons pe_str (pa_cons (pv 4) pa_nil))))))) pa_nil)) (pe_callB (call_reprW gu hr.units) (by rfl) zp (by decide +kernel) (pa_cons (pe_lst (pa_cons pe_str (pa_cons (pv 4) pa_nil))) pa_nil)) (nomark _)) (pss_one (ps_ret pe_bl)) pss_nil)))
      (pss_cons (ps_set (i := 5) scLastR.nd rfl (Or.inl rfl) (pe_frzO (pe_dispT (hu_of hr) (pps_cons (pe_tup (pa_cons pe_int (pa_cons (pe_op op_add (pv 3) pe_int) pa_nil))) pe_int (pps_cons (pe_tup (pa_cons pe_int (pa_cons (pv 3) pa_nil))) pe_int pps_nil)) (by rfl) (by rfl) (fun z => by cases z) (by decide))))
      (pss_cons (ps_if (pt_cmpR (op_neD hr.units) (pe_own GC (hr.mono (by decide)) pass0 (pa_cons pe_int (pa_cons (pv 0) (pa_cons (pv 1) (pa_cons (pv 2) (pa_cons pe_str (pa_cons (pv 5) pa_nil))))))) (pe_lst (pa_cons pe_str (pa_cons pe_int pa_nil))) (nomark _)) (pss_one (ps_ret pe_bl)) pss_nil)
      (pss_cons (ps_set (i := 5) scLastR.nd rfl (Or.inl rfl) (pe_frzO (pe_dispT (hu_of hr) (pps_cons (pe_tup (pa_cons (pe_op op_add (pv 3) pe_int) (pa_cons (pe_op op_add (pv 3) pe_int) pa_nil))) pe_int (pps_cons (pe_tup (pa_cons pe_int (pa_cons pe_int pa_nil))) pe_int (pps_cons (pe_tup (pa_cons pe_int (pa_cons (pe_op op_add (pv 3) pe_int) pa_nil))) pe_int pps_nil))) (by rfl) (by rfl) (fun z => by cases z) (by decide))))
      (pss_cons (ps_if (pt_cmpR (op_neD hr.units) (pe_own GC (hr.mono (by decide)) pass0 (pa_cons pe_int (pa_cons (pv 0) (pa_cons (pv 1) (pa_cons (pv 2) (pa_cons pe_str (pa_cons (pv 5) pa_nil))))))) (pe_lst (pa_cons pe_str (pa_cons pe_int pa_nil))) (nomark _)) (pss_one (ps_ret pe_bl)) pss_nil)
      (pss_one (ps_ret (pe_cmpR op_eq (pe_ix ix_list (pe_own GC (hr.mono (by decide)) pass0 (pa_cons pe_int (pa_cons (pv 0) (pa_cons (pv 1) (pa_cons (pv 2) (pa_cons pe_str (pa_cons (pe_frzO (pe_dispT (hu_of hr) (pps_cons (pe_tup (pa_cons (pe_op op_add (pv 3) pe_int) (pa_cons (pe_op op_add (pv 3) pe_int) pa_nil))) pe_int pps_nil) (by rfl) (by rfl) (fun z => by cases z) (by decide))) pa_nil))))))) pe_int (fun _ _ => rfl)) pe_str (nomark _))))))))))), ?_⟩
    have lx := px.l
    have lz : x.length ≤ sizeLine := Nat.le_trans lx (by decide)
    have sx : Short (.str x) := fun y e => by cases e; exact Nat.le_trans lx (by decide)
    have s4 : ∀ i, i ≤ x.length → szN T i ≤ 4 := dn.s
    have okT : ∀ r ∈ T, r.2 ≤ 6 := fun r hr => by
      have h1 := dn.ok r hr
      have h2 : r.2 ≤ szN T r.1.1 := sz_ge hr (cov_first h1.1)
      have h3 := s4 r.1.1 (by omega)
      omega
    have nmT0 : NumM x.length T := ⟨⟨dn.ok, okT⟩, by omega⟩
    have K0 : ∀ k : Int, k.natAbs ≤ 1000 → Tz 0 401 (.int k) := fun k h => tz_int (int_small h)
    refine ⟨_, rfl, x, rfl, lz, ?_⟩
    -- no sizes
    refine ⟨_, rfl, by show 1 ≤ sizeLine; decide, fun b1 j1 => ⟨_, _, rfl, rfl, ⟨by decide, by decide, by decide⟩, by show 7 ≤ sizeLine; decide, fun L jL => ?_⟩⟩
    have k1 := same_new (o := .lst [.int 2]) j1
    have eL := upd_same (H := upd H b1 (.lst [.int 2])) (a := L) (o := .lst [.non, .int (-1), .int 7, .bl true, .str "2", .ref b1, .int ((10 : Int) ^ (29 : Int).toNat)])
    have k2 := same_new (o := .lst [.non, .int (-1), .int 7, .bl true, .str "2", .ref b1, .int ((10 : Int) ^ (29 : Int).toNat)]) jL
    have aL : AnyL (upd (upd H b1 (.lst [.int 2])) L (.lst [.non, .int (-1), .int 7, .bl true, .str "2", .ref b1, .int ((10 : Int) ^ (29 : Int).toNat)])) [.non, .int (-1), .int 7, .bl true, .str "2", .ref b1, .int ((10 : Int) ^ (29 : Int).toNat)] oddLast :=
      .cons .non (.cons (.int _) (.cons (.int _) (.cons (.bl _) (.cons (.str _) (.cons ((Any.lst (xs := [.int 2]) upd_same (.cons (.int _) .nil)).keep k2) (.cons (.int _) .nil))))))
    have S1 := k1.trans k2
    generalize upd (upd H b1 (.lst [.int 2])) L (.lst [.non, .int (-1), .int 7, .bl true, .str "2", .ref b1, .int ((10 : Int) ^ (29 : Int).toNat)]) = J at eL aL S1 ⊢
    refine ⟨L, rfl, ⟨_, SqL.of eL⟩, ?_⟩
    refine for_list (K := K) (a := L) (xs := [.non, .int (-1), .int 7, .bl true, .str "2", .ref b1, .int ((10 : Int) ^ (29 : Int).toNat)]) (fun j σ' H' => (∃ y4, σ' = [some (.str x), some (.int ((p : Nat) : Int)), some (.ref d), some (.int ((x.length : Nat) : Int)), y4, none]) ∧ Same J H') ⟨⟨_, rfl⟩, Same.refl _⟩ (fun j σ' H' _ h => SqL.of (h.2 _ _ eL)) ?_ ?_
    · rintro j v σ' H2 hj ⟨⟨y4, rfl⟩, k3⟩
      obtain ⟨dv, hd, av⟩ := anyL_at aL hj
      obtain ⟨o1, o2⟩ := oddLast_ok dv (List.mem_of_getElem? hd)
      have av2 := av.keep k3
      obtain ⟨t1, t2, t3⟩ := wd_ok (t := "size") ⟨rfl, by decide +kernel, by decide +kernel⟩ o2
      refine ⟨_, rfl, _, rfl, _, rfl, _, rfl, 0, .str x, .int ((p : Nat) : Int), .ref d, .str ">", v, rfl, .inl ⟨rfl, _, .str x, sx, .inr ⟨x, rfl, px, .inr ⟨d, T, rfl, (nd.keep S1).keep k3, nmT0, fun _ => ⟨_, .str ">", .inr (.inr ⟨by decide +kernel, x6, dv, av2, o1, fun l H3 hl k4 e4 => ?_⟩)⟩, fun i hi h6 _ => absurd (s4 i hi) (by omega)⟩⟩⟩⟩
      refine ⟨l, "size", dv, rfl, ⟨v, e4, .any (av2.keep k4)⟩, t1, t2, t3, _, rfl, by show 2 ≤ sizeLine; decide, fun l2 hl2 => ?_⟩
      have k5 := same_new (o := .lst [.str "size", v]) hl2
      refine ⟨l2, "size", dv, rfl, ⟨v, upd_same, .any (av2.keep (k4.trans k5))⟩, t1, t2, t3, rfl, _, rfl, ?_⟩
      rw [str_same]
      exact iteF ⟨⟨_, rfl⟩, (k3.trans k4).trans k5⟩
    · rintro σ' H2 ⟨⟨y4, rfl⟩, k3⟩
      have S2 := S1.trans k3
      -- no numbers of the longer pattern
      refine ⟨by show 0 ≤ sizeLine; decide, fun c1 g1 => ?_⟩
      have m1 := same_new (o := .lst []) g1
      have w1 : OddV (x.length + 1) (upd H2 c1 (.lst [])) (.ref c1) := odd_any (.lst upd_same .nil) ⟨rfl, by decide +kernel, by decide +kernel⟩ rfl
      generalize upd H2 c1 (.lst []) = H3 at m1 w1 ⊢
      refine cons_c ?_
      refine disp_cons [.inl 0, .inl (((x.length : Nat) : Int) + 2)] (.int 0) ?_ ?_ fun p1 H4 o1 bs1 hp1 n1 f1 ik1 hd1 => ?_
      · exact fun H0 R h => ⟨_, rfl, _, _, rfl, rfl, by show 2 ≤ sizeLine; decide, fun t ht => h t ht⟩
      · exact fun H0 R h => h
      have w2 : OddV (x.length + 1) H4 (.ref p1) := odd_disp ik1 hd1 (tz_key2 (int_small (by omega)) (int_small (by omega))) ⟨_, .int 0, (K0 0 (by decide)).up (by decide) (by decide)⟩ fun e _ => by
        show (((decide ((0 : Int) ≤ 0) && decide ((0 : Int) ≤ ((x.length + 1 : Nat) : Int))) && (decide ((0 : Int) ≤ ((x.length : Nat) : Int) + 2) && decide (((x.length : Nat) : Int) + 2 ≤ ((x.length + 1 : Nat) : Int)))) && _) = false
        rw [decide_eq_false (p := ((x.length : Nat) : Int) + 2 ≤ ((x.length + 1 : Nat) : Int)) (by omega)]
        simp
      have w1 := w1.keep n1
      refine disp_cons [.inl 0, .inl 0] (.int 7) ?_ ?_ fun p2 H5 o2 bs2 hp2 n2 f2 ik2 hd2 => ?_
      · exact fun H0 R h => ⟨by show 2 ≤ sizeLine; decide, fun t ht => h t ht⟩
      · exact fun H0 R h => h
      have w3 : OddV (x.length + 1) H5 (.ref p2) := odd_disp ik2 hd2 (tz_key2 (int_small (by omega)) (int_small (by omega))) ⟨_, .int 7, (K0 7 (by decide)).up (by decide) (by decide)⟩ fun e a => by
        cases a
        show (_ && inB (.int 7) (.int 0) (.int 6)) = false
        rw [show inB (.int 7) (.int 0) (.int 6) = false from rfl, Bool.and_false]
      have w1 := w1.keep n2
      have w2 := w2.keep n2
      refine disp_cons [.inl 0, .inl 0] (.int (-1)) ?_ ?_ fun p3 H6 o3 bs3 hp3 n3 f3 ik3 hd3 => ?_
      · exact fun H0 R h => ⟨by show 2 ≤ sizeLine; decide, fun t ht => h t ht⟩
      · exact fun H0 R h => ⟨_, rfl, h⟩
      have w4 : OddV (x.length + 1) H6 (.ref p3) := odd_disp ik3 hd3 (tz_key2 (int_small (by omega)) (int_small (by omega))) ⟨_, .int (-1), (K0 (-1) (by decide)).up (by decide) (by decide)⟩ fun e a => by
        cases a
        show (_ && inB (.int (-1)) (.int 0) (.int 6)) = false
        rw [show inB (.int (-1)) (.int 0) (.int 6) = false from rfl, Bool.and_false]
      have w1 := w1.keep n3
      have w2 := w2.keep n3
      have w3 := w3.keep n3
      refine disp_cons [.inl 0, .inl 0] (.bl true) ?_ ?_ fun p4 H7 o4 bs4 hp4 n4 f4 ik4 hd4 => ?_
      · exact fun H0 R h => ⟨by show 2 ≤ sizeLine; decide, fun t ht => h t ht⟩
      · exact fun H0 R h => h
      have w5 : OddV (x.length + 1) H7 (.ref p4) := odd_disp ik4 hd4 (tz_key2 (int_small (by omega)) (int_small (by omega))) ⟨_, .bl true, ⟨rfl, by decide +kernel, by decide +kernel⟩⟩ fun e a => by
        cases a
        show (_ && inB (.bool true) (.int 0) (.int 6)) = false
        rw [show inB (.bool true) (.int 0) (.int 6) = false from rfl, Bool.and_false]
      have w1 := w1.keep n4
      have w2 := w2.keep n4
      have w3 := w3.keep n4
      have w4 := w4.keep n4
      refine disp_cons [.inl 1, .inl 0] (.int 1) ?_ ?_ fun p5 H8 o5 bs5 hp5 n5 f5 ik5 hd5 => ?_
      · exact fun H0 R h => ⟨by show 2 ≤ sizeLine; decide, fun t ht => h t ht⟩
      · exact fun H0 R h => h
      have w6 : OddV (x.length + 1) H8 (.ref p5) := odd_disp ik5 hd5 (tz_key2 (int_small (by omega)) (int_small (by omega))) ⟨_, .int 1, (K0 1 (by decide)).up (by decide) (by decide)⟩ fun e _ => by
        show (((decide ((0 : Int) ≤ 1) && decide ((1 : Int) ≤ ((x.length + 1 : Nat) : Int))) && (decide ((1 : Int) ≤ 0) && decide ((0 : Int) ≤ ((x.length + 1 : Nat) : Int)))) && _) = false
        simp
      have w1 := w1.keep n5
      have w2 := w2.keep n5
      have w3 := w3.keep n5
      have w4 := w4.keep n5
      have w5 := w5.keep n5
      refine fun p6 hp6 => ⟨upd_same, [(.inl 0, .int 1)], rfl, by show 1 ≤ 15; decide, p6, [(.inl 0, .int 1)], rfl, upd_same, by show 1 ≤ 900; decide, fun o6 hd6 => ?_⟩
      rw [upd_upd, upd_upd] at hd6 ⊢
      have n6 := same_new (o := .frz o6 (.dK [(.inl 0, .int 1)])) hp6
      have w7 : OddV (x.length + 1) (upd H8 p6 (.frz o6 (.dK [(.inl 0, .int 1)]))) (.ref p6) := odd_dispK (i := 0) hd6 (int_small (by decide)) ⟨_, .int 1, (K0 1 (by decide)).up (by decide) (by decide)⟩
      generalize upd H8 p6 (.frz o6 (.dK [(.inl 0, .int 1)])) = H9 at n6 w7 ⊢
      have w1 := w1.keep n6
      have w2 := w2.keep n6
      have w3 := w3.keep n6
      have w4 := w4.keep n6
      have w5 := w5.keep n6
      have w6 := w6.keep n6
      refine ⟨by show 10 ≤ sizeLine; decide, fun M hM => ?_⟩
      have k9 := same_new (o := .lst [.non, .int 3, .ref c1, .str "", .ref p1, .ref p2, .ref p3, .ref p4, .ref p5, .ref p6]) hM
      have eM := upd_same (H := H9) (a := M) (o := .lst [.non, .int 3, .ref c1, .str "", .ref p1, .ref p2, .ref p3, .ref p4, .ref p5, .ref p6])
      have odds : ∀ v ∈ ([.non, .int 3, .ref c1, .str "", .ref p1, .ref p2, .ref p3, .ref p4, .ref p5, .ref p6] : List V), OddV (x.length + 1) (upd H9 M (.lst [.non, .int 3, .ref c1, .str "", .ref p1, .ref p2, .ref p3, .ref p4, .ref p5, .ref p6])) v := fun v hv => by
        simp only [List.mem_cons, List.not_mem_nil, or_false] at hv
        rcases hv with z | z | z | z | z | z | z | z | z | z <;> subst z
        · exact odd_any .non ⟨rfl, by decide +kernel, by decide +kernel⟩ rfl
        · exact odd_any (.int 3) ⟨rfl, by decide +kernel, by decide +kernel⟩ rfl
        · exact w1.keep k9
        · exact odd_any (.str "") ⟨rfl, by decide +kernel, by decide +kernel⟩ rfl
        · exact w2.keep k9
        · exact w3.keep k9
        · exact w4.keep k9
        · exact w5.keep k9
        · exact w6.keep k9
        · exact w7.keep k9
      have S3 : Same H (upd H9 M (.lst [.non, .int 3, .ref c1, .str "", .ref p1, .ref p2, .ref p3, .ref p4, .ref p5, .ref p6])) := (((((((S2.trans m1).trans n1).trans n2).trans n3).trans n4).trans n5).trans n6).trans k9
      generalize upd H9 M (.lst [.non, .int 3, .ref c1, .str "", .ref p1, .ref p2, .ref p3, .ref p4, .ref p5, .ref p6]) = J2 at eM odds S3 ⊢
      refine ⟨M, rfl, ⟨_, SqL.of eM⟩, ?_⟩
      refine for_list (K := K) (a := M) (xs := [.non, .int 3, .ref c1, .str "", .ref p1, .ref p2, .ref p3, .ref p4, .ref p5, .ref p6]) (fun j σ' H' => (∃ y4, σ' = [some (.str x), some (.int ((p : Nat) : Int)), some (.ref d), some (.int ((x.length : Nat) : Int)), y4, none]) ∧ Same J2 H') ⟨⟨_, rfl⟩, Same.refl _⟩ (fun j σ' H' _ h => SqL.of (h.2 _ _ eM)) ?_ ?_
      · rintro j v σ' H10 hj ⟨⟨y4, rfl⟩, k3⟩
        obtain ⟨dv, ax, tz, bad⟩ := (odds v (List.mem_of_getElem? hj)).keep k3
        obtain ⟨z1, z2, z3⟩ := wd_ok (t := "numbers") ⟨rfl, by decide +kernel, by decide +kernel⟩ tz
        refine ⟨_, rfl, _, rfl, _, rfl, _, rfl, 1, .str x, .int ((p : Nat) : Int), .ref d, .str "<", v, rfl, .inr ⟨rfl, _, .str x, sx, .inr ⟨x, rfl, px, _, .int _, .inr ⟨p, rfl, pp, .inr ⟨d, T, rfl, (nd.keep S3).keep k3, nmT0, fun _ => ⟨_, .str "<", .inr (.inr ⟨by decide +kernel, x6, .inl ⟨bad, fun l H11 hl k4 e4 => ?_⟩⟩)⟩, fun i hi h6 _ => absurd (s4 i hi) (by omega)⟩⟩⟩⟩⟩
        refine ⟨l, "numbers", dv, rfl, ⟨v, e4, ax.keep k4⟩, z1, z2, z3, _, rfl, by show 2 ≤ sizeLine; decide, fun l2 hl2 => ?_⟩
        have k5 := same_new (o := .lst [.str "numbers", v]) hl2
        refine ⟨l2, "numbers", dv, rfl, ⟨v, upd_same, ax.keep (k4.trans k5)⟩, z1, z2, z3, rfl, _, rfl, ?_⟩
        rw [str_same]
        exact iteF ⟨⟨_, rfl⟩, (k3.trans k4).trans k5⟩
      · rintro σ' H10 ⟨⟨y4, rfl⟩, k3⟩
        have S4 := S3.trans k3
        -- great ones
        have M1ok : NumM (x.length + 1) [((0, x.length + 1), 6), ((0, x.length), 1)] := ⟨⟨fun r hr => by
          simp only [List.mem_cons, List.not_mem_nil, or_false] at hr
          rcases hr with z | z <;> subst z <;> (constructor <;> simp), fun r hr => by
          simp only [List.mem_cons, List.not_mem_nil, or_false] at hr
          rcases hr with z | z <;> subst z <;> simp⟩, by show 2 ≤ 900; decide⟩
        have M1s : szN [((0, x.length + 1), 6), ((0, x.length), 1)] 0 = 7 := by simp [szN, covB]
        have n1 : (((x.length + 1 : Nat)) : Int) = ((x.length : Nat) : Int) + 1 := by omega
        have wideK : ∀ {H0 : Hp} {R : VK} {a b : Int} {c e : Nat}, a = ((c : Nat) : Int) → b = ((e : Nat) : Int) → (∀ t, H0 t = none → R (.ref t) (upd H0 t (.tup ((keyT (c, e)).map kV)))) → ∀ t, H0 t = none → R (.ref t) (upd H0 t (.tup [.int a, .int b])) := fun {H0 R a b c e} h1 h2 h t ht => by
          subst h1
          subst h2
          exact h t ht
        have one : ((0 : Int)) = ((0 : Nat) : Int) := rfl
        dsimp only
        unfold tSeq tAsg
        dsimp only
        refine disp_nums (M := [((0, x.length + 1), 6), ((0, x.length), 1)]) (.cons ⟨?_, ?_⟩ (.cons ⟨?_, ?_⟩ .nil)) (by simp) (by show 2 ≤ 15; decide) fun p1 H11 hp1 k11 nd1 => ?_
        · exact fun H0 R h => ⟨_, rfl, _, _, rfl, rfl, by show 2 ≤ sizeLine; decide, wideK one n1.symm h⟩
        · exact fun H0 R h => h
        · exact fun H0 R h => ⟨_, rfl, by show 2 ≤ sizeLine; decide, wideK one rfl h⟩
        · exact fun H0 R h => h
        have S5 := S4.trans k11
        have big : ∀ (M : Nums) (m : Nat) (pM : Addr) (H12 : Hp) (Q' : VK), NumM (x.length + 1) M → szN M 0 = m → 6 < m → NumAt H12 pM M → Same H H12 → Out H12 Q' [.str "large", .int ((m : Nat) : Int)] → spCau [.int 1, .str x, .int ((p : Nat) : Int), .ref d, .str "<", .ref pM] H12 Q' E0 := fun M m pM H12 Q' nM s0 hm ndM sH out =>
          ⟨1, .str x, .int ((p : Nat) : Int), .ref d, .str "<", .ref pM, rfl, .inr ⟨rfl, _, .str x, sx, .inr ⟨x, rfl, px, _, .int _, .inr ⟨p, rfl, pp, .inr ⟨d, T, rfl, nd.keep sH, nmT0, fun _ => ⟨_, .str "<", .inr (.inr ⟨by decide +kernel, x6, .inr ⟨pM, M, rfl, ndM, nM, fun low => absurd (low 0 (Nat.zero_le _)) (by omega), fun i hi h6 lo => by
            have e0 : i = 0 := by
              cases i with
              | zero => rfl
              | succ i => exact absurd (lo 0 (Nat.succ_pos _)) (by omega)
            subst e0
            rw [s0]
            exact out⟩⟩)⟩, fun i hi h6 _ => absurd (s4 i hi) (by omega)⟩⟩⟩⟩⟩
        have lay2 : ∀ m : Int, (PyData.list [.str "large", .int m]).canLay0 = true := fun m => lay_list fun e he => by
          simp only [List.mem_cons, List.not_mem_nil, or_false] at he
          rcases he with z | z <;> subst z
          · decide +kernel
          · rfl
        have dep2 : ∀ m : Int, (PyData.list [.str "large", .int m]).depth ≤ 64 := fun m => by simp only [PyData.depth, PyData.depthAll]; omega
        refine ⟨_, rfl, _, rfl, _, rfl, _, rfl, big _ 7 p1 H11 _ M1ok M1s (by decide) nd1 S5 fun l H12 hl k12 e12 => ⟨by show 2 ≤ sizeLine; decide, fun l2 hl2 => ?_⟩⟩
        have k13 := same_new (o := .lst [.str "large", .int 7]) hl2
        refine ne_same (d := .list [.str "large", .int 7]) (.lst (k13 _ _ e12) (.cons (.str _) (.cons (.int _) .nil))) (.lst upd_same (.cons (.str _) (.cons (.int _) .nil))) (lay2 _) (dep2 _) ⟨_, rfl, iteF ?_⟩
        have S6 := (S5.trans k12).trans k13
        generalize upd H12 l2 (.lst [.str "large", .int 7]) = H13 at S6 ⊢
        have M2ok : NumM (x.length + 1) [((x.length + 1, x.length + 1), 2), ((0, 0), 4), ((0, x.length + 1), 5)] := ⟨⟨fun r hr => by
          simp only [List.mem_cons, List.not_mem_nil, or_false] at hr
          rcases hr with z | z | z <;> subst z <;> (constructor <;> simp), fun r hr => by
          simp only [List.mem_cons, List.not_mem_nil, or_false] at hr
          rcases hr with z | z | z <;> subst z <;> simp⟩, by show 3 ≤ 900; decide⟩
        have M2s : szN [((x.length + 1, x.length + 1), 2), ((0, 0), 4), ((0, x.length + 1), 5)] 0 = 9 := by simp [szN, covB]
        unfold tNext
        dsimp only
        try unfold tSeq tAsg
        try dsimp only
        refine disp_nums (M := [((x.length + 1, x.length + 1), 2), ((0, 0), 4), ((0, x.length + 1), 5)]) (.cons ⟨?_, ?_⟩ (.cons ⟨?_, ?_⟩ (.cons ⟨?_, ?_⟩ .nil))) (by simp) (by show 3 ≤ 15; decide) fun p2 H14 hp2 k14 nd2 => ?_
        · exact fun H0 R h => ⟨_, rfl, _, _, rfl, rfl, _, rfl, _, _, rfl, rfl, by show 2 ≤ sizeLine; decide, wideK n1.symm n1.symm h⟩
        · exact fun H0 R h => h
        · exact fun H0 R h => ⟨by show 2 ≤ sizeLine; decide, wideK one one h⟩
        · exact fun H0 R h => h
        · exact fun H0 R h => ⟨_, rfl, _, _, rfl, rfl, by show 2 ≤ sizeLine; decide, wideK one n1.symm h⟩
        · exact fun H0 R h => h
        have S7 := S6.trans k14
        refine ⟨_, rfl, _, rfl, _, rfl, _, rfl, big _ 9 p2 H14 _ M2ok M2s (by decide) nd2 S7 fun l H15 hl k15 e15 => ⟨by show 2 ≤ sizeLine; decide, fun l2 hl2 => ?_⟩⟩
        have k16 := same_new (o := .lst [.str "large", .int 9]) hl2
        refine ne_same (d := .list [.str "large", .int 9]) (.lst (k16 _ _ e15) (.cons (.str _) (.cons (.int _) .nil))) (.lst upd_same (.cons (.str _) (.cons (.int _) .nil))) (lay2 _) (dep2 _) ⟨_, rfl, iteF ?_⟩
        have S8 := (S7.trans k15).trans k16
        generalize upd H15 l2 (.lst [.str "large", .int 9]) = H16 at S8 ⊢
        dsimp only
        -- told
        have M3ok : NumM (x.length + 1) [((x.length + 1, x.length + 1), 6)] := ⟨⟨fun r hr => by rw [List.mem_singleton.mp hr]; constructor <;> simp, fun r hr => by rw [List.mem_singleton.mp hr]; simp⟩, by show 1 ≤ 900; decide⟩
        have M3s : ∀ i, szN [((x.length + 1, x.length + 1), 6)] i ≤ 6 := fun i => by
          show (if covB (x.length + 1, x.length + 1) i then 6 else 0) + 0 ≤ 6
          split <;> omega
        have M3n : Nil0 [((x.length + 1, x.length + 1), 6)] x.length := fun b e h1 h2 h3 => by
          refine getN_none ?_
          intro z
          have z2 : (b, e) = (x.length + 1, x.length + 1) := by simpa using z
          cases z2
          omega
        refine ⟨_, rfl, _, rfl, _, rfl, ?_⟩
        refine cons_c ?_
        refine nums_cons (M := [((x.length + 1, x.length + 1), 6)]) (.cons ⟨?_, ?_⟩ .nil) (by simp) (by show 1 ≤ 15; decide) fun p3 H17 hp3 k17 nd3 => ?_
        · exact fun H0 R h => ⟨_, rfl, _, _, rfl, rfl, _, rfl, _, _, rfl, rfl, by show 2 ≤ sizeLine; decide, wideK n1.symm n1.symm h⟩
        · exact fun H0 R h => h
        have S9 := S8.trans k17
        refine ⟨1, .str x, .int ((p : Nat) : Int), .ref d, .str ">", .ref p3, rfl, .inr ⟨rfl, _, .str x, sx, .inr ⟨x, rfl, px, _, .int _, .inr ⟨p, rfl, pp, .inr ⟨d, T, rfl, nd.keep S9, nmT0, fun _ => ⟨_, .str ">", .inr (.inr ⟨by decide +kernel, x6, .inr ⟨p3, _, rfl, nd3, M3ok, fun _ => ⟨M3n, fun k l H18 hl k18 e18 => ?_⟩, fun i hi h6 _ => absurd (M3s i) (by omega)⟩⟩)⟩, fun i hi h6 _ => absurd (s4 i hi) (by omega)⟩⟩⟩⟩⟩
        refine ⟨l, _, 0, .str "told", rfl, rfl, SqL.of e18, atI_nat (j := 0) rfl, rfl, ?_⟩
        rw [str_same]
        exact q _ (S9.trans k18)
end
end K53

set_option Elab.async false
set_option linter.all false
set_option maxRecDepth 100000
set_option maxHeartbeats 4000000
/-! K53P: the generator numbers_after at hand by its name. -/
namespace K53
open PySem PySem.Spec PyProof.Rows L2 Rw
section
variable {P : Program} {w : World} {K : PySem.W.Frag} {mg : Str → Option Value} {base h : Heap} {CP CT CZ CN CG CW : Addr}
theorem ownAfter (D : DefHere K "numbers_after" sAfter) (X : K.In h) (G : h.Ns mainGlobals mg) (GT : Own P w K mg base (L2.CX P w) 4 "check_pattern" ["pattern"] [] (spCPat CT)) (GL : Own P w K mg base (L2.CX P w) 6 "low_sizes" ["pattern", "numbers"] [] (spLowSzG CN CG)) (GA : Own P w K mg base (L2.CX P w) 4 "_check_arrow" ["pattern", "arrow"] [] (spCArrow CW CG))
    (GS : Own P w K mg base (L2.CX P w) 4 "check_size" ["size"] [] (spCSize CZ)) : OwnGn P w K mg base 7 "numbers_after" ["pattern", "numbers", "arrow", "size"] (spAfter CT CN CW CG CZ) := by
  obtain ⟨f, g, oc, od, kV, dc, pm, an, cd, ct, sl, lk, hc, hk⟩ := D
  have F := fun_mk (st := sAfter) lk hc hk
  refine ⟨f, _, PySem.W.mg_of X G g, hk, gfn_of lk hc scAfter (fun vs H Q E h => ?_) fun A outer s H vs Q E pn hr h => bodyAfter GT GL GA GS rfl A outer s H vs Q E pn hr h, F.binds fun _ _ _ _ _ _ us hl => match us, hl with | [_, _, _, _], _ => rfl⟩
  obtain ⟨v1, v2, v3, v4, rfl, _⟩ := h
  rfl
end
end K53

set_option Elab.async false
set_option linter.all false
set_option maxRecDepth 100000
set_option maxHeartbeats 4000000
/-! K53Q: the law's comparison of both ways, once for all loops. -/
namespace K53
open PySem PySem.Spec PyProof.Rows L2 Rw
theorem many_ok {t : Str} {d : PyData} (tt : Tz 0 401 (.str t)) (tz : Tz 6 50000 d) : (wD t d).showable = true ∧ (wD t d).shown.length ≤ sizeLine ∧ (manyD 2 t d).depth ≤ 60 ∧ (manyD 2 t d).shown.length ≤ sizeLine := by
  have t1 := tz_list (k := 6) (b := 50000) (m := 2) (ds := [.str t, d]) (by show 2 ≤ 2; decide) fun e he => by
    rcases List.mem_cons.mp he with z | z
    · rw [z]; exact tt.up (by decide) (by decide)
    · rw [List.mem_singleton.mp z]; exact tz
  have t2 := tz_list (k := 7) (b := 2 * 50000 + 2 * 2 + 3) (m := 2) (ds := List.replicate 2 (wD t d)) (by rw [List.length_replicate]; exact Nat.le_refl 2) fun e he => by
    rw [List.eq_of_mem_replicate he]
    exact t1
  have o1 := t1.ok (by decide) (by decide)
  have o2 := t2.ok (by decide) (by decide)
  exact ⟨o1.1, o1.2.2, o2.2.1, o2.2.2⟩
theorem both_ok {t : Str} {ta : TA} {σ : L2.St} {H : Hp} {D : Ends} {v v1 v2 v3 v4 v5 : V} {d : PyData} (h7 : σ[7]? = some (some v)) (hta : ∀ (H0 : Hp) (R : List V → Hp → Prop), R [v1, v2, v3, v4, v5] H0 → ta σ H0 R) (ax : Ax H v d) (tz : Tz 6 50000 d) (tt : Tz 0 401 (.str t))
    (cau : ∀ (way : Nat) H', way < 2 → Same H H' → ∀ Q' : VK, Out H' Q' [.str t, v] → spCau [.int ((way : Nat) : Int), v1, v2, v3, v4, v5] H' Q' E0) (k : ∀ H', Same H H' → D.nx σ H') :
    tIfS (tTest (tOp rNe (tCall spBoth [] E0 ta) (tCB rReprS (tCons (tOp rRep (tLst (tCons (tLst (tCons (tC (.str t)) (tCons (tVar 7) tNil))) tNil)) (tC (.int 2))) tNil)))) (tRet (tC (.bl false))) tNext D σ H := by
  obtain ⟨w1, w2, w3, w4⟩ := many_ok tt tz
  refine hta _ _ ⟨v1, v2, v3, v4, v5, t, v, d, rfl, ax, w1, w2, w3, w4, cau, fun H1 k1 => ?_⟩
  refine ⟨_, h7, by show 2 ≤ sizeLine; decide, fun l1 hl1 => ⟨by show 1 ≤ sizeLine; decide, fun l2 hl2 => ⟨l2, 2, _, rfl, rfl, upd_same, by decide, by decide, by show 1 * 2 ≤ sizeLine; decide, fun l3 hl3 => ?_⟩⟩⟩
  have m1 := same_new (o := .lst [.str t, v]) hl1
  have e1 := upd_same (H := H1) (a := l1) (o := .lst [.str t, v])
  generalize upd H1 l1 (.lst [.str t, v]) = H2 at m1 e1 hl2 hl3 ⊢
  have m2 := same_new (o := .lst [.ref l1]) hl2
  generalize upd H2 l2 (.lst [.ref l1]) = H3 at m2 hl3 ⊢
  have m3 := same_new (o := .lst (List.replicate (2 : Int).toNat [V.ref l1]).flatten) hl3
  have e3 := upd_same (H := H3) (a := l3) (o := .lst (List.replicate (2 : Int).toNat [V.ref l1]).flatten)
  have K3 := ((k1.trans m1).trans m2).trans m3
  refine ⟨l3, [l1, l1], t, d, rfl, (fun z => by cases z), e3, (fun l hl => ?_), w1, w2, w3, w4, rfl, _, rfl, ?_⟩
  · have : l = l1 := by simpa using hl
    subst this
    exact ⟨v, m3 _ _ (m2 _ _ e1), ax.keep K3⟩
  · have e0 : (manyD [l1, l1].length t d) = manyD 2 t d := rfl
    rw [e0, str_same]
    exact iteF (k _ K3)
end K53

set_option Elab.async false
set_option linter.all false
set_option maxRecDepth 100000
set_option maxHeartbeats 1500000
set_option exponentiation.threshold 3000
/-! TkXS: written dicts where keys may be alike; arrows that are none. -/
namespace Rw
open PySem PySem.Spec PyProof.Rows L2
/-- a written dict, frozen: numbers of bars if its keys are apart -/
theorem disp_numsQ {σ : L2.St} {trs : List (TE × TE)} {M : Nums} {H : Hp} {Q : VK} (h : Paired (fun (tr : TE × TE) (kv : List L2.Key × V) => MkK σ kv.1 tr.1 ∧ MkV σ kv.2 tr.2) trs (nmT M)) (l : M.length ≤ 15)
    (q : ∀ p H', H p = none → Same H H' → ((M.map (·.1)).Nodup → NumAt H' p M) → Q (.ref p) H') : tFrzO (tDispT trs) σ H Q := by
  refine fun p hp => pairs_go h fun H2 ks s e hk => ?_
  have e2 : H2 p = some (.dT []) := s _ _ upd_same
  have lk : ks.length = M.length := by
    have := congrArg List.length e
    rw [List.length_map] at this
    rw [this]
    unfold nmT
    rw [List.length_map]
  have l2 := mergeT_len (ks.map fun k => (k.1, k.2.2)) []
  rw [List.length_map, List.length_nil] at l2
  refine ⟨e2, ks, rfl, hk, by omega, p, _, rfl, upd_same, by omega, fun o bs _ _ => ?_⟩
  refine q p _ hp (fun b u eb => ?_) fun nd => ⟨o, ?_⟩
  · have nb : b ≠ p := ne_of_none eb hp
    rw [upd_ne nb, upd_ne nb]
    exact s _ _ (by rw [upd_ne nb]; exact eb)
  · have em : mergeT [] (ks.map fun k => (k.1, k.2.2)) = nmT M := by rw [e]; exact merge_all nd
    rw [upd_same, em]
def oddAr53 : List PyData := [.none, .int 3, .str "", .str "><", .str "x", .list [.str ">"], .bool true, .dict []]
theorem oddAr53_ok : ∀ d ∈ oddAr53, isArD d = false ∧ Tz 6 50000 d := by
  intro d hd
  simp only [oddAr53, List.mem_cons, List.not_mem_nil, or_false] at hd
  rcases hd with z | z | z | z | z | z | z | z <;> subst z <;> exact ⟨by decide +kernel, ⟨rfl, by decide +kernel, by decide +kernel⟩⟩
end Rw

set_option Elab.async false
set_option linter.all false
set_option maxRecDepth 100000
set_option maxHeartbeats 4000000
/-! K53R: the law's comparison of both ways with an int written out. -/
namespace K53
open PySem PySem.Spec PyProof.Rows L2 Rw
theorem gN {i : Nat} {v : V} {σ : L2.St} {H : Hp} {Q : L2.St → Hp → Prop} (h : Q (σ.set i (some v)) H) : gName i v σ H Q := h
theorem guard {c : Bool} {tt : TT} {σ : L2.St} {H : Hp} {Q : Bool → Hp → Prop} (k : ∀ H', Same H H' → Q false H') (t : c = true → (∀ H', Same H H' → Q false H') → tt σ H Q) : if c = true then tt σ H Q else Q false H := ite2 (fun z => t z k) (fun _ => k _ (Same.refl _))
theorem both_int {t : Str} {ta : TA} {σ : L2.St} {H : Hp} {Q : Bool → Hp → Prop} {m : Int} {v1 v2 v3 v4 v5 : V} (hta : ∀ (H0 : Hp) (R : List V → Hp → Prop), R [v1, v2, v3, v4, v5] H0 → ta σ H0 R) (hm : m.natAbs ≤ 1000) (tt : Tz 0 401 (.str t))
    (cau : ∀ (way : Nat) H', way < 2 → Same H H' → ∀ Q' : VK, Out H' Q' [.str t, .int m] → spCau [.int ((way : Nat) : Int), v1, v2, v3, v4, v5] H' Q' E0) (k : ∀ H', Same H H' → Q false H') :
    tTest (tOp rNe (tCall spBoth [] E0 ta) (tCB rReprS (tCons (tOp rRep (tLst (tCons (tLst (tCons (tC (.str t)) (tCons (tC (.int m)) tNil))) tNil)) (tC (.int 2))) tNil))) σ H Q := by
  obtain ⟨w1, w2, w3, w4⟩ := many_ok (d := .int m) tt ((tz_int (int_small (by omega))).up (by decide) (by decide))
  refine hta _ _ ⟨v1, v2, v3, v4, v5, t, .int m, .int m, rfl, .any (.int m), w1, w2, w3, w4, cau, fun H1 k1 => ?_⟩
  refine ⟨by show 2 ≤ sizeLine; decide, fun l1 hl1 => ⟨by show 1 ≤ sizeLine; decide, fun l2 hl2 => ⟨l2, 2, _, rfl, rfl, upd_same, by decide, by decide, by show 1 * 2 ≤ sizeLine; decide, fun l3 hl3 => ?_⟩⟩⟩
  have m1 := same_new (o := .lst [.str t, .int m]) hl1
  have e1 := upd_same (H := H1) (a := l1) (o := .lst [.str t, .int m])
  generalize upd H1 l1 (.lst [.str t, .int m]) = H2 at m1 e1 hl2 hl3 ⊢
  have m2 := same_new (o := .lst [.ref l1]) hl2
  generalize upd H2 l2 (.lst [.ref l1]) = H3 at m2 hl3 ⊢
  have m3 := same_new (o := .lst (List.replicate (2 : Int).toNat [V.ref l1]).flatten) hl3
  have e3 := upd_same (H := H3) (a := l3) (o := .lst (List.replicate (2 : Int).toNat [V.ref l1]).flatten)
  have K3 := ((k1.trans m1).trans m2).trans m3
  refine ⟨l3, [l1, l1], t, .int m, rfl, (fun z => by cases z), e3, (fun l hl => ?_), w1, w2, w3, w4, rfl, _, rfl, ?_⟩
  · have : l = l1 := by simpa using hl
    subst this
    exact ⟨.int m, m3 _ _ (m2 _ _ e1), .any (.int m)⟩
  · have e0 : (manyD [l1, l1].length t (.int m)) = manyD 2 t (.int m) := rfl
    rw [e0, str_same]
    exact k _ K3
end K53

set_option Elab.async false
set_option linter.all false
set_option maxRecDepth 100000
set_option maxHeartbeats 8000000
set_option exponentiation.threshold 3000
/-! K53L: the law. -/
namespace K53
open PySem PySem.Spec PyProof.Rows L2 Rw
abbrev sLaw : Stmt := top 54
abbrev NLaw : List Str := ["_law_script", "_law_k", "_law_box_here", "_law_arrows_here", "_law_p", "_law_held", "_law_sizes", "_law_odd", "_law_many", "_law_great", "_law_sign"]
theorem scLaw : FnScope NLaw ["_law_script"] (defScope sLaw) := ⟨rfl, rfl, rfl, by decide +kernel, rfl, by decide +kernel, by decide +kernel⟩
def spLaw (K : PySem.W.Frag) : Sp := fun vs H Q _ => ∃ (a : Addr) (ns : List Int), vs = [.ref a] ∧ SqL K H a (ns.map V.int) ∧ ns.length ≤ 63 ∧ ∀ H', Q (.bl true) H'
structure Olaw (P : Program) (w : World) (K : PySem.W.Frag) (mg : Str → Option Value) (base : Heap) : Prop where
  cell : Own P w K mg base CX0 1 "_law_cell" ["_law_script", "_law_k"] [] (spCellR K)
  box : Own P w K mg base CX0 1 "_law_box" ["_law_cell_here"] [] spBoxR
  take : Own P w K mg base CX0 1 "_law_take" ["_law_box_here", "_law_many"] [] spTakeR
  pat : Own P w K mg base CX0 2 "_law_arrows" ["_law_box_here", "_law_most"] [] spPatR
  prime : Own P w K mg base CX0 2 "_law_prime" ["_law_box_here"] [] spPrimeR
  some : Own P w K mg base CX0 3 "_law_some_numbers" ["_law_box_here", "_law_arrows_here", "_law_high"] [] spSomeN
  caught : Own P w K mg base CX0 12 "_law_caught" ["_law_way", "_law_arrows_here", "_law_p", "_law_some", "_law_sign", "_law_thing"] [] spCau
  both : OwnG P w K mg base CX0 13 "_law_both" ["_law_arrows_here", "_law_p", "_law_some", "_law_sign", "_law_thing"] [] spBoth
  last : OwnG P w K mg base CX0 13 "_law_last_right" ["_law_arrows_here", "_law_p", "_law_held"] [] spLastR
structure Zs (mg : Str → Option Value) : Prop where
  range : mg "range" = none
  max : mg "max" = none
  min : mg "min" = none
  len : mg "len" = none
  repr : mg "repr" = none
section
variable {P : Program} {w : World} {K : PySem.W.Frag} {mg : Str → Option Value} {base : Heap}
theorem okLaw {f : Addr} {fd : FuncData} (F : Fun K "law" "law" sLaw f fd) (Z : Zs mg) (O : Olaw P w K mg base) : FnG P w K mg base CX0 14 f fd ["_law_script"] (spLaw K) := by
  refine funG F scLaw (fun vs H Q E h => ?_) (fun cdv A outer s H vs Q E gu hr h => ?_)
  · obtain ⟨a, ns, rfl, _⟩ := h
    rfl
  · obtain ⟨a, ns, rfl, hs, hlen, q⟩ := h
    refine ⟨_, (pss_cons (ps_for PassesOwn.never rfl (pi_range1 rfl Z.range (pa_cons (pe_callB (call_max2 rfl) (by rfl) Z.max (by decide +kernel) (pa_cons pe_int (pa_cons (pe_callB (call_min2 rfl) (by rfl) Z.min (by decide +kernel) (pa_cons pe_int (pa_cons (pe_callB call_len_seq (by rfl) Z.len PySem.boot_len (pa_cons (pv 0) pa_nil)) pa_nil))) pa_nil))) pa_nil)) (pg_name (i := 1) scLaw.nd rfl (Or.inl rfl))
      (pss_cons (ps_set (i := 2) scLaw.nd rfl (Or.inl rfl) (pe_own O.box (hr.mono (by decide)) pass0 (pa_cons (pe_own O.cell (hr.mono (by decide)) pass0 (pa_cons (pv 0) (pa_cons (pv 1) pa_nil))) pa_nil)))
      (pss_cons (ps_par (i := 3) (j := 4) (by rfl) scLaw.nd rfl rfl (by decide) rfl rfl (pa_cons (pe_own O.pat (hr.mono (by decide)) pass0 (pa_cons (pv 2) (pa_cons pe_int pa_nil))) (pa_cons (pe_own O.prime (hr.mono (by decide)) pass0 (pa_cons (pv 2) pa_nil)) pa_nil)) (by rfl))
      (pss_cons (ps_asg (pe_own O.some (hr.mono (by decide)) pass0 (pa_cons (pv 2) (pa_cons (pv 3) (pa_cons pe_int pa_nil)))) (pg_tup rfl (pgs_cons (pg_name (i := 5) scLaw.nd rfl (Or.inl rfl)) (pgs_cons (pg_name (i := 6) scLaw.nd rfl (Or.inl rfl)) pgs_nil))))
      (pss_cons (ps_for PassesOwn.never rfl (pi_list (pe_lst (pa_cons pe_non (pa_cons pe_int (pa_cons pe_bl (pa_cons (pe_lst (pa_cons pe_str pa_nil)) (pa_cons pe_dnewK (pa_cons (pe_op op_add_str (pv 3) pe_str) (pa_cons (pe_op op_mulS pe_str pe_int) pa_nil))))))))) (pg_name (i := 7) scLaw.nd rfl (Or.inl rfl)) (pss_one (ps_if (pt_cmpR op_ne (pe_ownG O.both gu (hr.mono (by decide)) pass0 (pa_cons (pv 7) (pa_cons (pv 7) (pa_cons (pv 7) (pa_cons (pv 7) (pa_cons (pv 7) pa_nil)))))) (pe_callB (call_reprS gu hr.units) (by rfl) Z.repr (by decide +kernel) (pa_cons (pe_op op_rep (pe_lst (pa_cons (pe_lst (pa_cons pe_str (pa_cons (pv 7) pa_nil))) pa_nil)) pe_int) pa_nil)) (nomark _)) (pss_one (ps_ret pe_bl)) pss_nil)))
      (pss_cons (ps_for PassesOwn.never rfl (pi_list (pe_lst (pa_cons pe_non (pa_cons pe_int (pa_cons pe_bl (pa_cons pe_str (pa_cons (pe_lst (pa_cons pe_int pa_nil)) (pa_cons pe_int (pa_cons pe_int pa_nil))))))))) (pg_name (i := 7) scLaw.nd rfl (Or.inl rfl)) (pss_one (ps_if (pt_cmpR op_ne (pe_callB (call_reprW gu hr.units) (by rfl) Z.repr (by decide +kernel) (pa_cons (pe_own O.caught (hr.mono (by decide)) pass0 (pa_cons pe_int (pa_cons (pv 3) (pa_cons (pv 7) (pa_cons (pv 7) (pa_cons (pv 7) (pa_cons (pv 7) pa_nil))))))) pa_nil)) (pe_callB (call_reprW gu hr.units) (by rfl) Z.repr (by decide +kernel) (pa_cons (pe_lst (pa_cons pe_str (pa_cons (pv 7) pa_nil))) pa_nil)) (nomark _)) (pss_one (ps_ret pe_bl)) pss_nil)))
      (pss_cons (ps_for PassesOwn.never rfl (pi_list (pe_lst (pa_cons pe_non (pa_cons pe_int (pa_cons (pe_lst pa_nil) (pa_cons pe_str (pa_cons (pe_frzO (pe_dispT (hu_of hr) (pps_cons (pe_tup (pa_cons pe_int (pa_cons (pe_op op_add (pe_callB call_len_str (by rfl) Z.len (by decide +kernel) (pa_cons (pv 3) pa_nil)) pe_int) pa_nil))) pe_int pps_nil) (by rfl) (by rfl) (fun z => by cases z) (by decide))) (pa_cons (pe_frzO (pe_dispT (hu_of hr) (pps_cons (pe_tup (pa_cons pe_int (pa_cons pe_int pa_nil))) pe_int pps_nil) (by rfl) (by rfl) (fun z => by cases z) (by decide))) (pa_cons (pe_frzO (pe_dispT (hu_of hr) (pps_cons (pe_tup (pa_cons pe_int (pa_cons pe_int pa_nil))) pe_bl pps_nil) (by rfl) (by rfl) (fun z => by cases z) (by decide))) (pa_cons (pe_frzO (pe_dispT (hu_of hr) (pps_cons (pe_tup (pa_cons pe_int pa_nil)) pe_int pps_nil) (by rfl) (by rfl) (fun z => by cases z) (by decide))) pa_nil)))))))))) (pg_name (i := 7) scLaw.nd rfl (Or.inl rfl)) (pss_one (ps_if (pt_cmpR op_ne (pe_ownG O.both gu (hr.mono (by decide)) pass0 (pa_cons (pv 3) (pa_cons (pv 4) (pa_cons (pv 7) (pa_cons (pv 7) (pa_cons (pv 7) pa_nil)))))) (pe_callB (call_reprS gu hr.units) (by rfl) Z.repr (by decide +kernel) (pa_cons (pe_op op_rep (pe_lst (pa_cons (pe_lst (pa_cons pe_str (pa_cons (pv 7) pa_nil))) pa_nil)) pe_int) pa_nil)) (nomark _)) (pss_one (ps_ret pe_bl)) pss_nil)))
      (pss_cons (ps_set (i := 8) scLaw.nd rfl (Or.inl rfl) (pe_callB call_len_str (by rfl) Z.len (by decide +kernel) (pa_cons (pv 3) pa_nil)))
      (pss_cons (ps_set (i := 9) scLaw.nd rfl (Or.inl rfl) (pe_frzO (pe_dispT (hu_of hr) (pps_cons (pe_tup (pa_cons pe_int (pa_cons (pv 8) pa_nil))) pe_int (pps_cons (pe_tup (pa_cons (pv 8) (pa_cons (pv 8) pa_nil))) pe_int pps_nil)) (by rfl) (by rfl) (fun z => by cases z) (by decide))))
      (pss_cons (ps_if (PW.pt (pw_and (pt_cmpR op_gt (pv 8) pe_int (nomark _)) (pw_and1 (pt_cmpR op_ne (pe_ownG O.both gu (hr.mono (by decide)) pass0 (pa_cons (pv 3) (pa_cons (pv 4) (pa_cons (pv 9) (pa_cons pe_non (pa_cons pe_non pa_nil)))))) (pe_callB (call_reprS gu hr.units) (by rfl) Z.repr (by decide +kernel) (pa_cons (pe_op op_rep (pe_lst (pa_cons (pe_lst (pa_cons pe_str (pa_cons pe_int pa_nil))) pa_nil)) pe_int) pa_nil)) (nomark _))))) (pss_one (ps_ret pe_bl)) pss_nil)
      (pss_cons (ps_set (i := 9) scLaw.nd rfl (Or.inl rfl) (pe_frzO (pe_dispT (hu_of hr) (pps_cons (pe_tup (pa_cons (pv 8) (pa_cons (pv 8) pa_nil))) pe_int (pps_cons (pe_tup (pa_cons pe_int (pa_cons pe_int pa_nil))) pe_int (pps_cons (pe_tup (pa_cons pe_int (pa_cons (pv 8) pa_nil))) pe_int pps_nil))) (by rfl) (by rfl) (fun z => by cases z) (by decide))))
      (pss_cons (ps_if (PW.pt (pw_and (pt_cmpR op_gt (pv 8) pe_int (nomark _)) (pw_and1 (pt_cmpR op_ne (pe_ownG O.both gu (hr.mono (by decide)) pass0 (pa_cons (pv 3) (pa_cons (pv 4) (pa_cons (pv 9) (pa_cons pe_non (pa_cons pe_non pa_nil)))))) (pe_callB (call_reprS gu hr.units) (by rfl) Z.repr (by decide +kernel) (pa_cons (pe_op op_rep (pe_lst (pa_cons (pe_lst (pa_cons pe_str (pa_cons pe_int pa_nil))) pa_nil)) pe_int) pa_nil)) (nomark _))))) (pss_one (ps_ret pe_bl)) pss_nil)
      (pss_cons (ps_for PassesOwn.never rfl (pi_list (pe_lst (pa_cons pe_non (pa_cons pe_int (pa_cons pe_str (pa_cons pe_str (pa_cons pe_str (pa_cons (pe_lst (pa_cons pe_str pa_nil)) (pa_cons pe_bl (pa_cons pe_dnewK pa_nil)))))))))) (pg_name (i := 7) scLaw.nd rfl (Or.inl rfl)) (pss_one (ps_if (pt_cmpR op_ne (pe_ownG O.both gu (hr.mono (by decide)) pass0 (pa_cons (pv 3) (pa_cons (pv 4) (pa_cons (pv 5) (pa_cons (pv 7) (pa_cons (pv 7) pa_nil)))))) (pe_callB (call_reprS gu hr.units) (by rfl) Z.repr (by decide +kernel) (pa_cons (pe_op op_rep (pe_lst (pa_cons (pe_lst (pa_cons pe_str (pa_cons (pv 7) pa_nil))) pa_nil)) pe_int) pa_nil)) (nomark _)) (pss_one (ps_ret pe_bl)) pss_nil)))
      (pss_cons (ps_set (i := 10) scLaw.nd rfl (Or.inl rfl) (pe_ix ix_str pe_str (pe_own O.take (hr.mono (by decide)) pass0 (pa_cons (pv 2) (pa_cons pe_int pa_nil))) (fun _ _ => rfl)))
      (pss_cons (ps_if (PW.pt (pw_and (pt_cmpR op_eq (pv 8) pe_int (nomark _)) (pw_and1 (pt_cmpR op_ne (pe_ownG O.both gu (hr.mono (by decide)) pass0 (pa_cons (pv 3) (pa_cons (pv 4) (pa_cons (pv 5) (pa_cons (pv 10) (pa_cons pe_non pa_nil)))))) (pe_callB (call_reprS gu hr.units) (by rfl) Z.repr (by decide +kernel) (pa_cons (pe_op op_rep (pe_lst (pa_cons (pe_lst (pa_cons pe_str (pa_cons pe_int pa_nil))) pa_nil)) pe_int) pa_nil)) (nomark _))))) (pss_one (ps_ret pe_bl)) pss_nil)
      (pss_one (ps_if (PW.pt (pw_and (pt_cmpR op_lt (pv 8) pe_int (nomark _)) (pw_and1 (pt_not (pt_val (pe_ownG O.last gu (hr.mono (by decide)) pass0 (pa_cons (pv 3) (pa_cons (pv 4) (pa_cons (pv 5) pa_nil))))))))) (pss_one (ps_ret pe_bl)) pss_nil)))))))))))))))))
      (pss_one (ps_ret pe_bl))), ?_⟩
    refine ⟨_, rfl, a, _, rfl, .inl hs, _, _, rfl, _, _, rfl, _, rfl, ?_, ?_, ?_⟩
    · split <;> split <;> omega
    · split <;> split <;> omega
    have hn8 : (if (if ((ns.map V.int).length : Int) < 8 then ((ns.map V.int).length : Int) else 8) > 2 then (if ((ns.map V.int).length : Int) < 8 then ((ns.map V.int).length : Int) else 8) else 2).toNat ≤ 8 := by
      split <;> split <;> omega
    refine for_range (lo := 0) (n := _) (fun i σ' H' => (∃ x1 x2 x3 x4 x5 x6 x7 x8 x9 x10, σ' = [some (.ref a), x1, x2, x3, x4, x5, x6, x7, x8, x9, x10]) ∧ Same H H') ⟨⟨_, _, _, _, _, _, _, _, _, _, rfl⟩, Same.refl _⟩ ?_ ?_
    · rintro i σ' Hs hi ⟨⟨x1, x2, x3, x4, x5, x6, x7, x8, x9, x10, rfl⟩, S⟩
      have hi8 : i < 8 := Nat.lt_of_lt_of_le hi hn8
      refine ⟨_, rfl, _, rfl, a, ns, i, (by rw [Int.zero_add] <;> rfl), S.seq hs, by omega, fun z => ⟨z, rfl, fun p Hb hp sm bx => ?_⟩⟩
      refine ⟨_, rfl, p, 0, 6, rfl, by decide, bx, by omega, fun x H1 px G1 B1 => ?_⟩
      refine ⟨_, rfl, p, _, rfl, B1, by omega, fun r H2 hr2 G2 B2 => ?_⟩
      obtain ⟨q0, rfl, pq⟩ := pr_nat hr2
      have lx := px.l
      have G12 := G1.trans G2
      refine ⟨_, _, rfl, ?_⟩
      refine ⟨_, rfl, _, rfl, p, x, 3, _, rfl, px, by decide, B2, by omega, fun tt hd sz T J ht hhd hsz GJ BJ et nd el dn l9 => ?_⟩
      refine ⟨tt, _, rfl, SqT.of et, rfl, _, _, rfl, _, _, rfl, rfl, ?_⟩
      have GS := G12.trans GJ
      have SJ : Same H J := S.trans (sm.grow hp GS)
      have nszp : sz ≠ p := (B2.ne hsz).symm
      have okT : ∀ q ∈ T, (q.1.1 ≤ q.1.2 ∧ q.1.2 ≤ x.length) ∧ q.2 ≤ 6 := fun q hq => by
        refine ⟨dn.ok q hq, ?_⟩
        have h1 := dn.ok q hq
        have h2 : q.2 ≤ szN T q.1.1 := sz_ge hq (cov_first h1.1)
        have h3 := dn.s q.1.1 (by omega)
        omega
      -- no patterns
      refine ⟨by show 1 ≤ sizeLine; decide, fun q1 h1 => ?_⟩
      have k3 := same_new (o := .lst [.str ">"]) h1
      have a1 : Any (upd J q1 (.lst [.str ">"])) (.ref q1) (.list [.str ">"]) := .lst upd_same (.cons (.str _) .nil)
      generalize upd J q1 (.lst [.str ">"]) = J3 at k3 a1 ⊢
      refine fun q2 h2 => ?_
      have k4 := same_new (o := .dK []) h2
      have a2 : Any (upd J3 q2 (.dK [])) (.ref q2) (.dict []) := .dct upd_same .nil
      have a1 := a1.keep k4
      generalize upd J3 q2 (.dK []) = J4 at k4 a1 a2 ⊢
      refine ⟨_, rfl, x, "x", rfl, rfl, ?_, ?_⟩
      · have : (("x" : String) : Str).length = 1 := rfl
        rw [this]
        exact Nat.le_trans (by omega : _ ≤ 7) (by decide)
      refine ⟨">", 7, rfl, rfl, mul7, by show 7 ≤ sizeLine; decide, fun L hL => ?_⟩
      have k5 := same_new (o := .lst [.non, .int 3, .bl true, .ref q1, .ref q2, .str (x ++ "x"), .str (Txt.mul ">" 7)]) hL
      have eL : (upd J4 L (.lst [.non, .int 3, .bl true, .ref q1, .ref q2, .str (x ++ "x"), .str (Txt.mul ">" 7)])) L = some (.lst [.non, .int 3, .bl true, .ref q1, .ref q2, .str (x ++ "x"), .str (Txt.mul ">" 7)]) := upd_same
      have aL : AnyL (upd J4 L (.lst [.non, .int 3, .bl true, .ref q1, .ref q2, .str (x ++ "x"), .str (Txt.mul ">" 7)])) [.non, .int 3, .bl true, .ref q1, .ref q2, .str (x ++ "x"), .str (Txt.mul ">" 7)] (oddPats x) :=
        .cons .non (.cons (.int _) (.cons (.bl _) (.cons (a1.keep k5) (.cons (a2.keep k5) (.cons (.str _) (.cons (.str _) .nil))))))
      have S5 := (k3.trans k4).trans k5
      generalize upd J4 L (.lst [.non, .int 3, .bl true, .ref q1, .ref q2, .str (x ++ "x"), .str (Txt.mul ">" 7)]) = J5 at eL aL S5 ⊢
      refine ⟨L, rfl, ⟨_, SqL.of eL⟩, ?_⟩
      refine for_list (K := K) (a := L) (xs := [.non, .int 3, .bl true, .ref q1, .ref q2, .str (x ++ "x"), .str (Txt.mul ">" 7)]) (fun j σ' H' => (∃ x7 x8 x9 x10, σ' = [some (.ref a), some (.int (0 + (i : Int))), some (.ref p), some (.str x), some (.int ((q0 : Nat) : Int)), some (.ref hd), some (.ref sz), x7, x8, x9, x10]) ∧ Same J5 H') ⟨⟨_, _, _, _, rfl⟩, Same.refl _⟩ (fun j σ' H' _ h => SqL.of (h.2 _ _ eL)) ?_ ?_
      · rintro j v σ' H6 hj ⟨⟨x7, x8, x9, x10, rfl⟩, k6⟩
        obtain ⟨d, hd, av⟩ := anyL_at aL hj
        obtain ⟨o1, o2, o3⟩ := oddPats_ok px d (List.mem_of_getElem? hd)
        have av6 := av.keep k6
        exact both_ok (v := v) (d := d) rfl (fun H0 R h => ⟨_, rfl, _, rfl, _, rfl, _, rfl, _, rfl, h⟩) (.any av6) ⟨o2.sh, Nat.le_trans o2.dp (by decide), Nat.le_trans o2.ln (by decide)⟩ ⟨rfl, by decide +kernel, by decide +kernel⟩
          (fun way H' hw s Q o => ⟨_, v, v, v, v, v, rfl, by
            rcases (by omega : way = 0 ∨ way = 1) with z | z <;> subst z
            · exact .inl ⟨rfl, d, av6.keep s, o3, .inl ⟨o1, o⟩⟩
            · exact .inr ⟨rfl, d, av6.keep s, o3, .inl ⟨o1, o⟩⟩⟩) fun H' s => ⟨⟨_, _, _, _, rfl⟩, k6.trans s⟩
      · rintro σ' H6 ⟨⟨x7, x8, x9, x10, rfl⟩, k6⟩
        have S6 : Same J H6 := S5.trans k6
        -- no primes
        refine ⟨by show 1 ≤ sizeLine; decide, fun r1 g1 => ?_⟩
        have m1 := same_new (o := .lst [.int 3]) g1
        have c1 : Any (upd H6 r1 (.lst [.int 3])) (.ref r1) (.list [.int 3]) := .lst upd_same (.cons (.int _) .nil)
        generalize upd H6 r1 (.lst [.int 3]) = H7 at m1 c1 ⊢
        refine ⟨by show 7 ≤ sizeLine; decide, fun M hM => ?_⟩
        have m2 := same_new (o := .lst [.non, .int 4, .bl true, .str "2", .ref r1, .int 0, .int 17]) hM
        have eM : (upd H7 M (.lst [.non, .int 4, .bl true, .str "2", .ref r1, .int 0, .int 17])) M = some (.lst [.non, .int 4, .bl true, .str "2", .ref r1, .int 0, .int 17]) := upd_same
        have aM : AnyL (upd H7 M (.lst [.non, .int 4, .bl true, .str "2", .ref r1, .int 0, .int 17])) [.non, .int 4, .bl true, .str "2", .ref r1, .int 0, .int 17] oddPr := .cons .non (.cons (.int _) (.cons (.bl _) (.cons (.str _) (.cons (c1.keep m2) (.cons (.int _) (.cons (.int _) .nil))))))
        have S8 := (S6.trans m1).trans m2
        generalize upd H7 M (.lst [.non, .int 4, .bl true, .str "2", .ref r1, .int 0, .int 17]) = J8 at eM aM S8 ⊢
        refine ⟨M, rfl, ⟨_, SqL.of eM⟩, ?_⟩
        refine for_list (K := K) (a := M) (xs := [.non, .int 4, .bl true, .str "2", .ref r1, .int 0, .int 17]) (fun j σ' H' => (∃ x7 x8 x9 x10, σ' = [some (.ref a), some (.int (0 + (i : Int))), some (.ref p), some (.str x), some (.int ((q0 : Nat) : Int)), some (.ref hd), some (.ref sz), x7, x8, x9, x10]) ∧ Same J8 H') ⟨⟨_, _, _, _, rfl⟩, Same.refl _⟩ (fun j σ' H' _ h => SqL.of (h.2 _ _ eM)) ?_ ?_
        · rintro j v σ' H9 hj ⟨⟨x7, x8, x9, x10, rfl⟩, k9⟩
          obtain ⟨d, hd, av⟩ := anyL_at aM hj
          obtain ⟨o1, o2⟩ := oddPr_ok d (List.mem_of_getElem? hd)
          have av9 := av.keep k9
          have sx : Short (.str x) := fun y e => by cases e; exact Nat.le_trans lx (by decide)
          obtain ⟨t1, t2, t3⟩ := wd_ok (t := "prime") ⟨rfl, by decide +kernel, by decide +kernel⟩ o2
          refine ⟨_, rfl, _, rfl, _, rfl, _, rfl, _, rfl, 1, .str x, v, v, v, v, rfl, .inr ⟨rfl, _, .str x, sx, .inr ⟨x, rfl, px, d, av9, .inl ⟨o1, fun l H10 hl k10 e10 => ?_⟩⟩⟩⟩
          refine ⟨l, "prime", d, rfl, ⟨v, e10, .any (av9.keep k10)⟩, t1, t2, t3, _, rfl, by show 2 ≤ sizeLine; decide, fun l2 hl2 => ?_⟩
          have k11 := same_new (o := .lst [.str "prime", v]) hl2
          refine ⟨l2, "prime", d, rfl, ⟨v, upd_same, .any (av9.keep (k10.trans k11))⟩, t1, t2, t3, rfl, _, rfl, ?_⟩
          rw [str_same]
          exact iteF ⟨⟨_, _, _, _, rfl⟩, (k9.trans k10).trans k11⟩
        · rintro σ' H9 ⟨⟨x7, x8, x9, x10, rfl⟩, k9⟩
          have S9 : Same J H9 := S8.trans k9
          -- no numbers
          refine ⟨by show 0 ≤ sizeLine; decide, fun c1 g1 => ?_⟩
          have m1 := same_new (o := .lst []) g1
          have w1 : OddV x.length (upd H9 c1 (.lst [])) (.ref c1) := odd_any (.lst upd_same .nil) ⟨rfl, by decide +kernel, by decide +kernel⟩ rfl
          generalize upd H9 c1 (.lst []) = N3 at m1 w1 ⊢
          refine cons_c ?_
          refine disp_cons [.inl 0, .inl (((x.length : Nat) : Int) + 1)] (.int 0) ?_ ?_ fun p1 N4 o1 bs1 hp1 n1 f1 ik1 hd1 => ?_
          · exact fun H0 R h => ⟨_, rfl, x, rfl, Nat.le_trans lx (by decide), _, _, rfl, rfl, by show 2 ≤ sizeLine; decide, fun t ht => h t ht⟩
          · exact fun H0 R h => h
          have w2 : OddV x.length N4 (.ref p1) := odd_disp ik1 hd1 (tz_key2 (int_small (by omega)) (int_small (by omega))) ⟨_, .int 0, (tz_int (int_small (by decide))).up (by decide) (by decide)⟩ fun e _ => by
            show (((decide ((0 : Int) ≤ 0) && decide ((0 : Int) ≤ ((x.length : Nat) : Int))) && (decide ((0 : Int) ≤ ((x.length : Nat) : Int) + 1) && decide (((x.length : Nat) : Int) + 1 ≤ ((x.length : Nat) : Int)))) && _) = false
            rw [decide_eq_false (p := ((x.length : Nat) : Int) + 1 ≤ ((x.length : Nat) : Int)) (by omega)]
            simp
          have w1 := w1.keep n1
          refine disp_cons [.inl 0, .inl 0] (.int 7) ?_ ?_ fun p2 N5 o2 bs2 hp2 n2 f2 ik2 hd2 => ?_
          · exact fun H0 R h => ⟨by show 2 ≤ sizeLine; decide, fun t ht => h t ht⟩
          · exact fun H0 R h => h
          have w3 : OddV x.length N5 (.ref p2) := odd_disp ik2 hd2 (tz_key2 (int_small (by omega)) (int_small (by omega))) ⟨_, .int 7, (tz_int (int_small (by decide))).up (by decide) (by decide)⟩ fun e a => by
            cases a
            show (_ && inB (.int 7) (.int 0) (.int 6)) = false
            rw [show inB (.int 7) (.int 0) (.int 6) = false from rfl, Bool.and_false]
          have w1 := w1.keep n2
          have w2 := w2.keep n2
          refine disp_cons [.inl 0, .inl 0] (.bl false) ?_ ?_ fun p3 N6 o3 bs3 hp3 n3 f3 ik3 hd3 => ?_
          · exact fun H0 R h => ⟨by show 2 ≤ sizeLine; decide, fun t ht => h t ht⟩
          · exact fun H0 R h => h
          have w4 : OddV x.length N6 (.ref p3) := odd_disp ik3 hd3 (tz_key2 (int_small (by omega)) (int_small (by omega))) ⟨_, .bl false, ⟨rfl, by decide +kernel, by decide +kernel⟩⟩ fun e a => by
            cases a
            show (_ && inB (.bool false) (.int 0) (.int 6)) = false
            rw [show inB (.bool false) (.int 0) (.int 6) = false from rfl, Bool.and_false]
          have w1 := w1.keep n3
          have w2 := w2.keep n3
          have w3 := w3.keep n3
          refine disp_cons [.inl 0] (.int 1) ?_ ?_ fun p4 N7 o4 bs4 hp4 n4 f4 ik4 hd4 => ?_
          · exact fun H0 R h => ⟨by show 1 ≤ sizeLine; decide, fun t ht => h t ht⟩
          · exact fun H0 R h => h
          have w5 : OddV x.length N7 (.ref p4) := odd_disp ik4 hd4 ⟨rfl, by decide +kernel, by decide +kernel⟩ ⟨_, .int 1, (tz_int (int_small (by decide))).up (by decide) (by decide)⟩ fun e _ => rfl
          have w1 := w1.keep n4
          have w2 := w2.keep n4
          have w3 := w3.keep n4
          have w4 := w4.keep n4
          refine ⟨by show 8 ≤ sizeLine; decide, fun N hN => ?_⟩
          have kN := same_new (o := .lst [.non, .int 3, .ref c1, .str "", .ref p1, .ref p2, .ref p3, .ref p4]) hN
          have eN := upd_same (H := N7) (a := N) (o := .lst [.non, .int 3, .ref c1, .str "", .ref p1, .ref p2, .ref p3, .ref p4])
          have odds : ∀ v ∈ ([.non, .int 3, .ref c1, .str "", .ref p1, .ref p2, .ref p3, .ref p4] : List V), OddV x.length (upd N7 N (.lst [.non, .int 3, .ref c1, .str "", .ref p1, .ref p2, .ref p3, .ref p4])) v := fun v hv => by
            simp only [List.mem_cons, List.not_mem_nil, or_false] at hv
            rcases hv with z | z | z | z | z | z | z | z <;> subst z
            · exact odd_any .non ⟨rfl, by decide +kernel, by decide +kernel⟩ rfl
            · exact odd_any (.int 3) ⟨rfl, by decide +kernel, by decide +kernel⟩ rfl
            · exact w1.keep kN
            · exact odd_any (.str "") ⟨rfl, by decide +kernel, by decide +kernel⟩ rfl
            · exact w2.keep kN
            · exact w3.keep kN
            · exact w4.keep kN
            · exact w5.keep kN
          have S10 := (((((S9.trans m1).trans n1).trans n2).trans n3).trans n4).trans kN
          generalize upd N7 N (.lst [.non, .int 3, .ref c1, .str "", .ref p1, .ref p2, .ref p3, .ref p4]) = J10 at eN odds S10 ⊢
          refine ⟨N, rfl, ⟨_, SqL.of eN⟩, ?_⟩
          refine for_list (K := K) (a := N) (xs := [.non, .int 3, .ref c1, .str "", .ref p1, .ref p2, .ref p3, .ref p4]) (fun j σ' H' => (∃ x7 x8 x9 x10, σ' = [some (.ref a), some (.int (0 + (i : Int))), some (.ref p), some (.str x), some (.int ((q0 : Nat) : Int)), some (.ref hd), some (.ref sz), x7, x8, x9, x10]) ∧ Same J10 H') ⟨⟨_, _, _, _, rfl⟩, Same.refl _⟩ (fun j σ' H' _ h => SqL.of (h.2 _ _ eN)) ?_ ?_
          · rintro j v σ' H11 hj ⟨⟨x7, x8, x9, x10, rfl⟩, k11⟩
            obtain ⟨d, ax, tz, bad⟩ := (odds v (List.mem_of_getElem? hj)).keep k11
            have sx : Short (.str x) := fun y e => by cases e; exact Nat.le_trans lx (by decide)
            exact both_ok (v := v) (d := d) rfl (fun H0 R h => ⟨_, rfl, _, rfl, _, rfl, _, rfl, _, rfl, h⟩) ax tz ⟨rfl, by decide +kernel, by decide +kernel⟩
              (fun way H' hw s Q o => ⟨_, .str x, .int ((q0 : Nat) : Int), v, v, v, rfl, by
                have b1 := bad.keep s
                rcases (by omega : way = 0 ∨ way = 1) with z | z <;> subst z
                · exact .inl ⟨rfl, _, .str x, sx, .inr ⟨x, rfl, px, .inl ⟨b1, o⟩⟩⟩
                · exact .inr ⟨rfl, _, .str x, sx, .inr ⟨x, rfl, px, _, .int _, .inr ⟨q0, rfl, pq, .inl ⟨b1, o⟩⟩⟩⟩⟩) fun H' s => ⟨⟨_, _, _, _, rfl⟩, k11.trans s⟩
          · rintro σ' H11 ⟨⟨x7, x8, x9, x10, rfl⟩, k11⟩
            have S11 : Same J H11 := S10.trans k11
            -- great ones
            have nd11 : NumAt H11 hd T := nd.keep S11
            have nmT0 : NumM x.length T := ⟨⟨dn.ok, fun q hq => (okT q hq).2⟩, by omega⟩
            have sx : Short (.str x) := fun y e => by cases e; exact Nat.le_trans lx (by decide)
            have wideK : ∀ {H0 : Hp} {R : VK} {a b : Int} {c e : Nat}, a = ((c : Nat) : Int) → b = ((e : Nat) : Int) → (∀ t, H0 t = none → R (.ref t) (upd H0 t (.tup ((keyT (c, e)).map kV)))) → ∀ t, H0 t = none → R (.ref t) (upd H0 t (.tup [.int a, .int b])) := fun {H0 R a b c e} h1 h2 h t ht => by
              subst h1
              subst h2
              exact h t ht
            have one : ((0 : Int)) = ((0 : Nat) : Int) := rfl
            have cauM : ∀ (M : Nums) (m : Nat) (pM : Addr) (way : Nat) (H' : Hp) (Q' : VK), way < 2 → NumM x.length M → NumAt H' pM M → (∃ i, i ≤ x.length ∧ 6 < szN M i) → (∀ i, i ≤ x.length → 6 < szN M i → (∀ j, j < i → szN M j ≤ 6) → szN M i = m) → Out H' Q' [.str "large", .int ((m : Nat) : Int)] → spCau [.int ((way : Nat) : Int), .str x, .int ((q0 : Nat) : Int), .ref pM, .non, .non] H' Q' E0 := fun M m pM way H' Q' hw nM ndM ⟨i0, hi0, hb⟩ hm o => ⟨_, .str x, .int ((q0 : Nat) : Int), .ref pM, .non, .non, rfl, by
              rcases (by omega : way = 0 ∨ way = 1) with z | z <;> subst z
              · exact .inl ⟨rfl, _, .str x, sx, .inr ⟨x, rfl, px, .inr ⟨pM, M, rfl, ndM, nM, fun low => absurd (low i0 hi0) (by omega), fun i hi h6 lo => by rw [hm i hi h6 lo]; exact o⟩⟩⟩
              · exact .inr ⟨rfl, _, .str x, sx, .inr ⟨x, rfl, px, _, .int _, .inr ⟨q0, rfl, pq, .inr ⟨pM, M, rfl, ndM, nM, fun low => absurd (low i0 hi0) (by omega), fun i hi h6 lo => by rw [hm i hi h6 lo]; exact o⟩⟩⟩⟩⟩
            have tL : Tz 0 401 (.str "large") := ⟨rfl, by decide +kernel, by decide +kernel⟩
            refine ⟨_, rfl, x, rfl, Nat.le_trans lx (by decide), ?_⟩
            dsimp only
            unfold tSeq tAsg
            dsimp only
            refine gN ?_
            dsimp only [List.set]
            refine disp_numsQ (M := [((0, x.length), 4), ((x.length, x.length), 3)]) (.cons ⟨?_, ?_⟩ (.cons ⟨?_, ?_⟩ .nil)) (by show 2 ≤ 15; decide) fun p1 H12 hp1 k12 nd1 => ?_
            · exact fun H0 R h => ⟨_, rfl, by show 2 ≤ sizeLine; decide, wideK one rfl h⟩
            · exact fun H0 R h => h
            · exact fun H0 R h => ⟨_, rfl, _, rfl, by show 2 ≤ sizeLine; decide, wideK rfl rfl h⟩
            · exact fun H0 R h => h
            have S12 := S11.trans k12
            refine gN ?_
            dsimp only [List.set]
            refine ⟨_, rfl, _, _, rfl, rfl, _, rfl, ?_⟩
            have s1 : ∀ i, szN [((0, x.length), 4), ((x.length, x.length), 3)] i = (if covB (0, x.length) i then 4 else 0) + ((if covB (x.length, x.length) i then 3 else 0) + 0) := fun i => rfl
            have M1ok : NumM x.length [((0, x.length), 4), ((x.length, x.length), 3)] := ⟨⟨fun r hr => by
              simp only [List.mem_cons, List.not_mem_nil, or_false] at hr
              rcases hr with z | z <;> subst z <;> (constructor <;> simp), fun r hr => by
              simp only [List.mem_cons, List.not_mem_nil, or_false] at hr
              rcases hr with z | z <;> subst z <;> simp⟩, by show 2 ≤ 900; decide⟩
            refine guard (fun H13 k13 => ?_) (fun z k => both_int (m := 7) (fun H0 R h => ⟨_, rfl, _, rfl, _, rfl, h⟩) (by decide) tL (fun way H' hw s Q' o => ?_) k)
            rotate_left
            · have n0 : 0 < x.length := by have := of_decide_eq_true z; omega
              refine cauM _ 7 p1 way H' Q' hw M1ok ((nd1 (by simp; omega)).keep s) ⟨x.length, Nat.le_refl _, by simp [szN, covB]⟩ (fun i hi h6 lo => ?_) o
              have := s1 i
              split at this <;> split at this <;> omega
            refine iteF ?_
            have S13 := S12.trans k13
            unfold tNext
            dsimp only
            refine disp_numsQ (M := [((x.length, x.length), 2), ((0, 0), 4), ((0, x.length), 5)]) (.cons ⟨?_, ?_⟩ (.cons ⟨?_, ?_⟩ (.cons ⟨?_, ?_⟩ .nil))) (by show 3 ≤ 15; decide) fun p2 H14 hp2 k14 nd2 => ?_
            · exact fun H0 R h => ⟨_, rfl, _, rfl, by show 2 ≤ sizeLine; decide, wideK rfl rfl h⟩
            · exact fun H0 R h => h
            · exact fun H0 R h => ⟨by show 2 ≤ sizeLine; decide, wideK one one h⟩
            · exact fun H0 R h => h
            · exact fun H0 R h => ⟨_, rfl, by show 2 ≤ sizeLine; decide, wideK one rfl h⟩
            · exact fun H0 R h => h
            refine gN ?_
            dsimp only [List.set]
            have S14 := S13.trans k14
            refine ⟨_, rfl, _, _, rfl, rfl, _, rfl, ?_⟩
            have s2 : ∀ i, szN [((x.length, x.length), 2), ((0, 0), 4), ((0, x.length), 5)] i = (if covB (x.length, x.length) i then 2 else 0) + ((if covB (0, 0) i then 4 else 0) + ((if covB (0, x.length) i then 5 else 0) + 0)) := fun i => rfl
            have M2ok : NumM x.length [((x.length, x.length), 2), ((0, 0), 4), ((0, x.length), 5)] := ⟨⟨fun r hr => by
              simp only [List.mem_cons, List.not_mem_nil, or_false] at hr
              rcases hr with z | z | z <;> subst z <;> (constructor <;> simp), fun r hr => by
              simp only [List.mem_cons, List.not_mem_nil, or_false] at hr
              rcases hr with z | z | z <;> subst z <;> simp⟩, by show 3 ≤ 900; decide⟩
            refine guard (fun H15 k15 => ?_) (fun z k => both_int (m := 9) (fun H0 R h => ⟨_, rfl, _, rfl, _, rfl, h⟩) (by decide) tL (fun way H' hw s Q' o => ?_) k)
            rotate_left
            · have n0 : 0 < x.length := by have := of_decide_eq_true z; omega
              have z0 : szN [((x.length, x.length), 2), ((0, 0), 4), ((0, x.length), 5)] 0 = 9 := by
                rw [s2 0]
                have c1 : covB (x.length, x.length) 0 = false := by
                  unfold covB
                  rw [decide_eq_false (p := x.length ≤ 0) (by omega)] <;> rfl
                have c2 : covB (0, x.length) 0 = true := cov_first (Nat.zero_le _)
                rw [c1, c2]
                rfl
              refine cauM _ 9 p2 way H' Q' hw M2ok ((nd2 (by simp; omega)).keep s) ⟨0, Nat.zero_le _, by rw [z0]; decide⟩ (fun i hi h6 lo => ?_) o
              cases i with
              | zero => exact z0
              | succ i => exact absurd (lo 0 (Nat.succ_pos _)) (by rw [z0]; decide)
            refine iteF ?_
            have S15 := S14.trans k15
            dsimp only
            -- no arrows
            refine ⟨by show 1 ≤ sizeLine; decide, fun q1 h1 => ?_⟩
            have k3 := same_new (o := .lst [.str ">"]) h1
            have a1 : Any (upd H15 q1 (.lst [.str ">"])) (.ref q1) (.list [.str ">"]) := .lst upd_same (.cons (.str _) .nil)
            generalize upd H15 q1 (.lst [.str ">"]) = J3 at k3 a1 ⊢
            refine fun q2 h2 => ?_
            have k4 := same_new (o := .dK []) h2
            have a2 : Any (upd J3 q2 (.dK [])) (.ref q2) (.dict []) := .dct upd_same .nil
            have a1 := a1.keep k4
            generalize upd J3 q2 (.dK []) = J4 at k4 a1 a2 ⊢
            refine ⟨by show 8 ≤ sizeLine; decide, fun L hL => ?_⟩
            have k5 := same_new (o := .lst [.non, .int 3, .str "", .str "><", .str "x", .ref q1, .bl true, .ref q2]) hL
            have eL : (upd J4 L (.lst [.non, .int 3, .str "", .str "><", .str "x", .ref q1, .bl true, .ref q2])) L = some (.lst [.non, .int 3, .str "", .str "><", .str "x", .ref q1, .bl true, .ref q2]) := upd_same
            have aL : AnyL (upd J4 L (.lst [.non, .int 3, .str "", .str "><", .str "x", .ref q1, .bl true, .ref q2])) [.non, .int 3, .str "", .str "><", .str "x", .ref q1, .bl true, .ref q2] oddAr53 :=
              .cons .non (.cons (.int _) (.cons (.str _) (.cons (.str _) (.cons (.str _) (.cons (a1.keep k5) (.cons (.bl _) (.cons (a2.keep k5) .nil)))))))
            have S16 := ((S15.trans k3).trans k4).trans k5
            generalize upd J4 L (.lst [.non, .int 3, .str "", .str "><", .str "x", .ref q1, .bl true, .ref q2]) = J16 at eL aL S16 ⊢
            refine ⟨L, rfl, ⟨_, SqL.of eL⟩, ?_⟩
            refine for_list (K := K) (a := L) (xs := [.non, .int 3, .str "", .str "><", .str "x", .ref q1, .bl true, .ref q2]) (fun j σ' H' => (∃ x7 x10, σ' = [some (.ref a), some (.int (0 + (i : Int))), some (.ref p), some (.str x), some (.int ((q0 : Nat) : Int)), some (.ref hd), some (.ref sz), x7, some (.int ((x.length : Nat) : Int)), some (.ref p2), x10]) ∧ Same J16 H') ⟨⟨_, _, rfl⟩, Same.refl _⟩ (fun j σ' H' _ h => SqL.of (h.2 _ _ eL)) ?_ ?_
            · rintro j v σ' H17 hj ⟨⟨x7, x10, rfl⟩, k17⟩
              obtain ⟨d, hd2, av⟩ := anyL_at aL hj
              obtain ⟨o1, o2⟩ := oddAr53_ok d (List.mem_of_getElem? hd2)
              have av17 := av.keep k17
              exact both_ok (v := v) (d := d) rfl (fun H0 R h => ⟨_, rfl, _, rfl, _, rfl, _, rfl, _, rfl, h⟩) (.any av17) o2 ⟨rfl, by decide +kernel, by decide +kernel⟩
                (fun way H' hw s Q o => ⟨_, .str x, .int ((q0 : Nat) : Int), .ref hd, v, v, rfl, by
                  have ndT : NumAt H' hd T := (((nd.keep S16).keep k17).keep s)
                  have sz6 : ∀ i, i ≤ x.length → ¬ 6 < szN T i := fun i hi => by have := dn.s i hi; omega
                  rcases (by omega : way = 0 ∨ way = 1) with z | z <;> subst z
                  · exact .inl ⟨rfl, _, .str x, sx, .inr ⟨x, rfl, px, .inr ⟨hd, T, rfl, ndT, nmT0, fun _ => ⟨d, av17.keep s, .inl ⟨o1, o⟩⟩, fun i hi h6 _ => absurd h6 (sz6 i hi)⟩⟩⟩
                  · exact .inr ⟨rfl, _, .str x, sx, .inr ⟨x, rfl, px, _, .int _, .inr ⟨q0, rfl, pq, .inr ⟨hd, T, rfl, ndT, nmT0, fun _ => ⟨d, av17.keep s, .inl ⟨o1, o⟩⟩, fun i hi h6 _ => absurd h6 (sz6 i hi)⟩⟩⟩⟩⟩) fun H' s => ⟨⟨_, _, rfl⟩, k17.trans s⟩
            · rintro σ' H17 ⟨⟨x7, x10, rfl⟩, k17⟩
              have S17 : Same J H17 := S16.trans k17
              -- the sign
              have B17 : Bx H17 p _ := BJ.keep S17
              refine ⟨_, rfl, p, 2, _, rfl, by decide, by decide, B17, by omega, fun r H18 r0 r2 G18 B18 => ?_⟩
              have ndT : NumAt H18 hd T := (nd.keep S17).grow B17 G18
              have sz6 : ∀ i, i ≤ x.length → ¬ 6 < szN T i := fun i hi => by have := dn.s i hi; omega
              obtain ⟨c, hc, hc2⟩ : ∃ c, isArD (.str ⟨#[c]⟩) = true ∧ atI (("><" : String) : Str).cps.toList r = some c := by
                rcases (by omega : r = 0 ∨ r = 1) with e | e
                · subst e
                  exact ⟨62, by decide +kernel, rfl⟩
                · subst e
                  exact ⟨60, by decide +kernel, rfl⟩
              refine ⟨_, _, c, rfl, rfl, (by decide), hc2, ?_⟩
              refine gN ?_
              dsimp only [List.set]
              refine ⟨_, rfl, rfl, _, rfl, ?_⟩
              refine guard (fun H19 k19 => ?_) (fun z k => both_int (m := 7) (fun H0 R h => ⟨_, rfl, _, rfl, _, rfl, _, rfl, h⟩) (by decide) tL (fun way H' hw s Q' o => ⟨_, .str x, .int ((q0 : Nat) : Int), .ref hd, .str ⟨#[c]⟩, .non, rfl, ?_⟩) k)
              rotate_left
              · have n6 : x.length = 6 := by
                  have := V.int.inj (of_decide_eq_true z)
                  omega
                rcases (by omega : way = 0 ∨ way = 1) with z | z <;> subst z
                · exact .inl ⟨rfl, _, .str x, sx, .inr ⟨x, rfl, px, .inr ⟨hd, T, rfl, ndT.keep s, nmT0, fun _ => ⟨_, .str _, .inr (.inl ⟨hc, n6, o⟩)⟩, fun i hi h6 _ => absurd h6 (sz6 i hi)⟩⟩⟩
                · exact .inr ⟨rfl, _, .str x, sx, .inr ⟨x, rfl, px, _, .int _, .inr ⟨q0, rfl, pq, .inr ⟨hd, T, rfl, ndT.keep s, nmT0, fun _ => ⟨_, .str _, .inr (.inl ⟨hc, n6, o⟩)⟩, fun i hi h6 _ => absurd h6 (sz6 i hi)⟩⟩⟩⟩
              refine iteF ?_
              refine ⟨_, rfl, _, _, rfl, rfl, _, rfl, ?_⟩
              refine guard (fun H20 k20 => ?_) (fun z k => ⟨_, rfl, _, rfl, _, rfl, x, q0, hd, T, rfl, px, by have := of_decide_eq_true z; omega, pq, ndT.keep k19, ⟨dn.nd, dn.ok, dn.one, fun i hi => Nat.le_trans (dn.s i hi) (by decide)⟩, l9, fun H' s => ⟨_, rfl, k _ s⟩⟩)
              refine iteF ?_
              exact ⟨⟨_, _, _, _, _, _, _, _, _, _, rfl⟩, S.trans (sm.grow hp (GS.trans ((Grow.of S17).trans (G18.trans (Grow.of (k19.trans k20))))))⟩
    · rintro σ' Hs ⟨⟨x1, x2, x3, x4, x5, x6, x7, x8, x9, x10, rfl⟩, S⟩
      exact q _
end
end K53

set_option Elab.async false
set_option linter.all false
set_option maxRecDepth 100000
set_option maxHeartbeats 8000000
/-! K53N: the end. -/
namespace K53
open PySem PySem.Spec PyProof.Rows L2 Rw
abbrev sIniP : Stmt := inClass (top 6) 0
theorem scIniP : FnScope ["self", "value"] ["self", "value"] (defScope sIniP) := ⟨rfl, rfl, rfl, by decide +kernel, rfl, by decide +kernel, by decide +kernel⟩
theorem isP : IsIni sIniP := ⟨_, _, _, _, rfl, rfl, rfl⟩
abbrev sIniZ : Stmt := inClass (top 7) 0
theorem scIniZ : FnScope ["self", "value"] ["self", "value"] (defScope sIniZ) := ⟨rfl, rfl, rfl, by decide +kernel, rfl, by decide +kernel, by decide +kernel⟩
theorem isZ : IsIni sIniZ := ⟨_, _, _, _, rfl, rfl, rfl⟩
abbrev sIniT : Stmt := inClass (top 8) 0
theorem scIniT : FnScope ["self", "value"] ["self", "value"] (defScope sIniT) := ⟨rfl, rfl, rfl, by decide +kernel, rfl, by decide +kernel, by decide +kernel⟩
theorem isT : IsIni sIniT := ⟨_, _, _, _, rfl, rfl, rfl⟩
abbrev sIniL : Stmt := inClass (top 9) 0
theorem scIniL : FnScope ["self", "value"] ["self", "value"] (defScope sIniL) := ⟨rfl, rfl, rfl, by decide +kernel, rfl, by decide +kernel, by decide +kernel⟩
theorem isL : IsIni sIniL := ⟨_, _, _, _, rfl, rfl, rfl⟩
abbrev sIniN : Stmt := inClass (top 10) 0
theorem scIniN : FnScope ["self", "value"] ["self", "value"] (defScope sIniN) := ⟨rfl, rfl, rfl, by decide +kernel, rfl, by decide +kernel, by decide +kernel⟩
theorem isN : IsIni sIniN := ⟨_, _, _, _, rfl, rfl, rfl⟩
abbrev sIniW : Stmt := inClass (top 11) 0
theorem scIniW : FnScope ["self", "value"] ["self", "value"] (defScope sIniW) := ⟨rfl, rfl, rfl, by decide +kernel, rfl, by decide +kernel, by decide +kernel⟩
theorem isW : IsIni sIniW := ⟨_, _, _, _, rfl, rfl, rfl⟩
abbrev sIniG : Stmt := inClass (top 12) 0
theorem scIniG : FnScope ["self", "value"] ["self", "value"] (defScope sIniG) := ⟨rfl, rfl, rfl, by decide +kernel, rfl, by decide +kernel, by decide +kernel⟩
theorem isG : IsIni sIniG := ⟨_, _, _, _, rfl, rfl, rfl⟩
/-- what is asked of the written part -/
structure Asked (K : PySem.W.Frag) (w : World) (aI aT CR CP CT CZ CN CG CW CL : Addr) (kI : List (Int × Value)) (kT : List (Str × Value)) (tM : Tok) : Prop where
  taI : TabIHere K "INVERSES" aI kI
  taT : TabSHere K w "TURNED" aT kT
  iMOST : PySem.W.nsIn K mainGlobals "MOST" = some (some (.int 6 tM))
  hI : ∀ i, (lookI kI i).isSome = decide (i ∈ primesL)
  hT : ∀ c, (lookS kT ⟨#[c]⟩).isSome = isArr c
  hT2 : ∀ z, (lookS kT z).isSome = isArD (.str z)
  root : PySem.W.nsIn K mainGlobals "RowError" = some (some (.ref CR))
  eP : ErrHere K "InvalidPrime" "InvalidPrime.__init__" sIniP CR CP
  eZ : ErrHere K "InvalidSize" "InvalidSize.__init__" sIniZ CR CZ
  eT : ErrHere K "InvalidPattern" "InvalidPattern.__init__" sIniT CR CT
  eL : ErrHere K "InvalidPlace" "InvalidPlace.__init__" sIniL CR CL
  eN : ErrHere K "InvalidNumbers" "InvalidNumbers.__init__" sIniN CR CN
  eW : ErrHere K "InvalidArrow" "InvalidArrow.__init__" sIniW CR CW
  eG : ErrHere K "TooLarge" "TooLarge.__init__" sIniG CR CG
  cT : PySem.W.isClsIn K CT = true
  cP : PySem.W.isClsIn K CP = true
  cN : PySem.W.isClsIn K CN = true
  cG : PySem.W.isClsIn K CG = true
  cW : PySem.W.isClsIn K CW = true
  cZ : PySem.W.isClsIn K CZ = true
  sTT : PySem.W.subIn K (.ref CT) (.ref CT) = some true
  sPT : PySem.W.subIn K (.ref CP) (.ref CT) = some false
  sPP : PySem.W.subIn K (.ref CP) (.ref CP) = some true
  sNT : PySem.W.subIn K (.ref CN) (.ref CT) = some false
  sNP : PySem.W.subIn K (.ref CN) (.ref CP) = some false
  sNN : PySem.W.subIn K (.ref CN) (.ref CN) = some true
  sGT : PySem.W.subIn K (.ref CG) (.ref CT) = some false
  sGP : PySem.W.subIn K (.ref CG) (.ref CP) = some false
  sGN : PySem.W.subIn K (.ref CG) (.ref CN) = some false
  sGG : PySem.W.subIn K (.ref CG) (.ref CG) = some true
  sWT : PySem.W.subIn K (.ref CW) (.ref CT) = some false
  sWP : PySem.W.subIn K (.ref CW) (.ref CP) = some false
  sWN : PySem.W.subIn K (.ref CW) (.ref CN) = some false
  sWG : PySem.W.subIn K (.ref CW) (.ref CG) = some false
  sWW : PySem.W.subIn K (.ref CW) (.ref CW) = some true
  sZT : PySem.W.subIn K (.ref CZ) (.ref CT) = some false
  sZP : PySem.W.subIn K (.ref CZ) (.ref CP) = some false
  sZN : PySem.W.subIn K (.ref CZ) (.ref CN) = some false
  sZG : PySem.W.subIn K (.ref CZ) (.ref CG) = some false
  sZW : PySem.W.subIn K (.ref CZ) (.ref CW) = some false
  sZZ : PySem.W.subIn K (.ref CZ) (.ref CZ) = some true
  stT : PySem.W.subIn K (.ref CT) (.type "StopIteration") = some false
  stP : PySem.W.subIn K (.ref CP) (.type "StopIteration") = some false
  stN : PySem.W.subIn K (.ref CN) (.type "StopIteration") = some false
  stG : PySem.W.subIn K (.ref CG) (.type "StopIteration") = some false
  stW : PySem.W.subIn K (.ref CW) (.type "StopIteration") = some false
  stZ : PySem.W.subIn K (.ref CZ) (.type "StopIteration") = some false
  dA : DefHere K "numbers_after" sAfter
  d1 : DefHere K "is_number" sNum
  d2 : DflHere K "is_integer" sInt [.none, .none]
  d3 : DefHere K "is_prime" sPrime
  d4 : DefHere K "check_prime" sCheck
  d5 : DefHere K "is_pattern" sPat
  d6 : DefHere K "check_pattern" sCPat
  d7 : DefHere K "is_bar" sBarP
  d8 : DefHere K "check_size" sCSize
  d9 : DefHere K "check_numbers" sCNum
  d10 : DefHere K "check_low" sLow
  d11 : DefHere K "low_sizes" sLowSz
  d12 : DefHere K "power" sPow
  d13 : DefHere K "independent_lists" sInd
  d14 : DefHere K "spaces_within" sSpaces
  d15 : DefHere K "bars" sBars
  d16 : DefHere K "_check_place" sPlace
  d17 : DefHere K "births" sBirths
  d18 : DefHere K "_check_arrow" sCArrow
  d19 : DefHere K "_reaching" sReach
  d20 : DefHere K "_begins" sBegins
  d21 : DefHere K "_positions" sPos
  d22 : DefHere K "ways_after" sWays
  d23 : DefHere K "_law_cell" sCell
  d24 : DefHere K "_law_box" sBox
  d25 : DefHere K "_law_take" sTake
  d26 : DefHere K "_law_arrows" sPatL
  d27 : DefHere K "_law_bars" sBarsL
  d28 : DefHere K "_law_mixed" sMix
  d29 : DefHere K "_law_some_numbers" sSome
  d30 : DefHere K "_law_prime" sPrimeL
  d31 : DefHere K "_law_caught" sCaught
  d32 : DefHere K "_law_both" sBoth
  d33 : DefHere K "_law_last_right" sLastR
  dl : DefHere K "law" sLaw
  z1 : PySem.W.nsIn K mainGlobals "isinstance" = some none
  z2 : PySem.W.nsIn K mainGlobals "int" = some none
  z3 : PySem.W.nsIn K mainGlobals "bool" = some none
  z4 : PySem.W.nsIn K mainGlobals "str" = some none
  z5 : PySem.W.nsIn K mainGlobals "list" = some none
  z6 : PySem.W.nsIn K mainGlobals "tuple" = some none
  z7 : PySem.W.nsIn K mainGlobals "dict" = some none
  z8 : PySem.W.nsIn K mainGlobals "len" = some none
  z9 : PySem.W.nsIn K mainGlobals "all" = some none
  z10 : PySem.W.nsIn K mainGlobals "range" = some none
  z11 : PySem.W.nsIn K mainGlobals "sum" = some none
  z12 : PySem.W.nsIn K mainGlobals "max" = some none
  z13 : PySem.W.nsIn K mainGlobals "min" = some none
  z14 : PySem.W.nsIn K mainGlobals "enumerate" = some none
  z15 : PySem.W.nsIn K mainGlobals "repr" = some none
theorem all_mk {l : PySem.W.OpenLaw} {w : World} {K : PySem.W.Frag} {h : Heap} {mg : Str → Option Value} {fa : Addr} {aI aT CR CP CT CZ CN CG CW CL : Addr} {kI : List (Int × Value)} {kT : List (Str × Value)} {tM : Tok} (X : K.In h) (G : h.Ns mainGlobals mg) (hfa : mg "law" = some (.ref fa)) (Z : Asked K w aI aT CR CP CT CZ CN CG CW CL kI kT tM) :
    ∃ fd : FuncData, (∀ (s : Shared) (v : Value), BindsTo s fd ⟨[v], []⟩ [("_law_script", v)]) ∧ ∀ base : Heap, K.In base → base.Ns mainGlobals mg → FnG l.prog w K mg base CX0 14 fa fd ["_law_script"] (spLaw K) := by
  have zz_isinstance : mg "isinstance" = none := PySem.W.mg_none_of X G Z.z1
  have zz_int : mg "int" = none := PySem.W.mg_none_of X G Z.z2
  have zz_bool : mg "bool" = none := PySem.W.mg_none_of X G Z.z3
  have zz_str : mg "str" = none := PySem.W.mg_none_of X G Z.z4
  have zz_list : mg "list" = none := PySem.W.mg_none_of X G Z.z5
  have zz_tuple : mg "tuple" = none := PySem.W.mg_none_of X G Z.z6
  have zz_dict : mg "dict" = none := PySem.W.mg_none_of X G Z.z7
  have zz_len : mg "len" = none := PySem.W.mg_none_of X G Z.z8
  have zz_all : mg "all" = none := PySem.W.mg_none_of X G Z.z9
  have zz_range : mg "range" = none := PySem.W.mg_none_of X G Z.z10
  have zz_sum : mg "sum" = none := PySem.W.mg_none_of X G Z.z11
  have zz_max : mg "max" = none := PySem.W.mg_none_of X G Z.z12
  have zz_min : mg "min" = none := PySem.W.mg_none_of X G Z.z13
  have zz_enumerate : mg "enumerate" = none := PySem.W.mg_none_of X G Z.z14
  have zz_repr : mg "repr" = none := PySem.W.mg_none_of X G Z.z15
  have eP : Err K mg "InvalidPrime" CP := Z.eP.err X G scIniP isP fun _ _ _ _ _ _ us hl => match us, hl with | [_, _], _ => rfl
  have kxP : PySem.W.subIn K (.ref CP) (.type "BaseException") = some true := eP.xf.exC
  have eZ : Err K mg "InvalidSize" CZ := Z.eZ.err X G scIniZ isZ fun _ _ _ _ _ _ us hl => match us, hl with | [_, _], _ => rfl
  have kxZ : PySem.W.subIn K (.ref CZ) (.type "BaseException") = some true := eZ.xf.exC
  have eT : Err K mg "InvalidPattern" CT := Z.eT.err X G scIniT isT fun _ _ _ _ _ _ us hl => match us, hl with | [_, _], _ => rfl
  have kxT : PySem.W.subIn K (.ref CT) (.type "BaseException") = some true := eT.xf.exC
  have eL : Err K mg "InvalidPlace" CL := Z.eL.err X G scIniL isL fun _ _ _ _ _ _ us hl => match us, hl with | [_, _], _ => rfl
  have eN : Err K mg "InvalidNumbers" CN := Z.eN.err X G scIniN isN fun _ _ _ _ _ _ us hl => match us, hl with | [_, _], _ => rfl
  have kxN : PySem.W.subIn K (.ref CN) (.type "BaseException") = some true := eN.xf.exC
  have eW : Err K mg "InvalidArrow" CW := Z.eW.err X G scIniW isW fun _ _ _ _ _ _ us hl => match us, hl with | [_, _], _ => rfl
  have kxW : PySem.W.subIn K (.ref CW) (.type "BaseException") = some true := eW.xf.exC
  have eG : Err K mg "TooLarge" CG := Z.eG.err X G scIniG isG fun _ _ _ _ _ _ us hl => match us, hl with | [_, _], _ => rfl
  have kxG : PySem.W.subIn K (.ref CG) (.type "BaseException") = some true := eG.xf.exC
  have xTT : PySem.W.exmOne K (.ref CT) (.ref CT) = some true := exm_of kxT Z.cT eT.ox.tyC Z.sTT
  have xPT : PySem.W.exmOne K (.ref CP) (.ref CT) = some false := exm_of kxT Z.cT eT.ox.tyC Z.sPT
  have xPP : PySem.W.exmOne K (.ref CP) (.ref CP) = some true := exm_of kxP Z.cP eP.ox.tyC Z.sPP
  have xNT : PySem.W.exmOne K (.ref CN) (.ref CT) = some false := exm_of kxT Z.cT eT.ox.tyC Z.sNT
  have xNP : PySem.W.exmOne K (.ref CN) (.ref CP) = some false := exm_of kxP Z.cP eP.ox.tyC Z.sNP
  have xNN : PySem.W.exmOne K (.ref CN) (.ref CN) = some true := exm_of kxN Z.cN eN.ox.tyC Z.sNN
  have xGT : PySem.W.exmOne K (.ref CG) (.ref CT) = some false := exm_of kxT Z.cT eT.ox.tyC Z.sGT
  have xGP : PySem.W.exmOne K (.ref CG) (.ref CP) = some false := exm_of kxP Z.cP eP.ox.tyC Z.sGP
  have xGN : PySem.W.exmOne K (.ref CG) (.ref CN) = some false := exm_of kxN Z.cN eN.ox.tyC Z.sGN
  have xGG : PySem.W.exmOne K (.ref CG) (.ref CG) = some true := exm_of kxG Z.cG eG.ox.tyC Z.sGG
  have xWT : PySem.W.exmOne K (.ref CW) (.ref CT) = some false := exm_of kxT Z.cT eT.ox.tyC Z.sWT
  have xWP : PySem.W.exmOne K (.ref CW) (.ref CP) = some false := exm_of kxP Z.cP eP.ox.tyC Z.sWP
  have xWN : PySem.W.exmOne K (.ref CW) (.ref CN) = some false := exm_of kxN Z.cN eN.ox.tyC Z.sWN
  have xWG : PySem.W.exmOne K (.ref CW) (.ref CG) = some false := exm_of kxG Z.cG eG.ox.tyC Z.sWG
  have xWW : PySem.W.exmOne K (.ref CW) (.ref CW) = some true := exm_of kxW Z.cW eW.ox.tyC Z.sWW
  have xZT : PySem.W.exmOne K (.ref CZ) (.ref CT) = some false := exm_of kxT Z.cT eT.ox.tyC Z.sZT
  have xZP : PySem.W.exmOne K (.ref CZ) (.ref CP) = some false := exm_of kxP Z.cP eP.ox.tyC Z.sZP
  have xZN : PySem.W.exmOne K (.ref CZ) (.ref CN) = some false := exm_of kxN Z.cN eN.ox.tyC Z.sZN
  have xZG : PySem.W.exmOne K (.ref CZ) (.ref CG) = some false := exm_of kxG Z.cG eG.ox.tyC Z.sZG
  have xZW : PySem.W.exmOne K (.ref CZ) (.ref CW) = some false := exm_of kxW Z.cW eW.ox.tyC Z.sZW
  have xZZ : PySem.W.exmOne K (.ref CZ) (.ref CZ) = some true := exm_of kxZ Z.cZ eZ.ox.tyC Z.sZZ
  have T : Txt K w mg aI aT CP CT CZ CN CG kI kT := ⟨zz_isinstance, zz_int, zz_bool, zz_str, zz_list, zz_tuple, zz_dict, zz_len, zz_all, zz_range, zz_sum, zz_max, zz_min, PySem.W.mg_of X G Z.taI.1, Z.taI.2, Z.hI, PySem.W.mg_of X G Z.taT.1, Z.taT.2, Z.hT, ⟨tM, PySem.W.mg_of X G Z.iMOST⟩, eP, eT, eZ, eN, eG⟩
  have TC : TxC K mg CR CP CT CZ CN CG CW := ⟨PySem.W.mg_of X G Z.root, xTT, xPT, xPP, xNT, xNP, xNN, xGT, xGP, xGN, xGG, xWT, xWP, xWN, xWG, xWW, xZT, xZP, xZN, xZG, xZW, xZZ, Z.stT, Z.stP, Z.stN, Z.stG, Z.stW, Z.stZ⟩
  have D1 := Z.d1.df (ps := ["value"]) X G fun _ _ _ _ _ _ us hl => match us, hl with | [_], _ => rfl
  have D3 := Z.d3.df (ps := ["value"]) X G fun _ _ _ _ _ _ us hl => match us, hl with | [_], _ => rfl
  have D4 := Z.d4.df (ps := ["prime"]) X G fun _ _ _ _ _ _ us hl => match us, hl with | [_], _ => rfl
  have D5 := Z.d5.df (ps := ["value"]) X G fun _ _ _ _ _ _ us hl => match us, hl with | [_], _ => rfl
  have D6 := Z.d6.df (ps := ["pattern"]) X G fun _ _ _ _ _ _ us hl => match us, hl with | [_], _ => rfl
  have D7 := Z.d7.df (ps := ["pattern", "value"]) X G fun _ _ _ _ _ _ us hl => match us, hl with | [_, _], _ => rfl
  have D8 := Z.d8.df (ps := ["size"]) X G fun _ _ _ _ _ _ us hl => match us, hl with | [_], _ => rfl
  have D9 := Z.d9.df (ps := ["pattern", "numbers"]) X G fun _ _ _ _ _ _ us hl => match us, hl with | [_, _], _ => rfl
  have D10 := Z.d10.df (ps := ["sizes"]) X G fun _ _ _ _ _ _ us hl => match us, hl with | [_], _ => rfl
  have D11 := Z.d11.df (ps := ["pattern", "numbers"]) X G fun _ _ _ _ _ _ us hl => match us, hl with | [_, _], _ => rfl
  have D12 := Z.d12.df (ps := ["base", "times"]) X G fun _ _ _ _ _ _ us hl => match us, hl with | [_, _], _ => rfl
  have D13 := Z.d13.df (ps := ["prime", "many", "length"]) X G fun _ _ _ _ _ _ us hl => match us, hl with | [_, _, _], _ => rfl
  have D14 := Z.d14.df (ps := ["prime", "dimension", "whole"]) X G fun _ _ _ _ _ _ us hl => match us, hl with | [_, _, _], _ => rfl
  have D15 := Z.d15.df (ps := ["pattern"]) X G fun _ _ _ _ _ _ us hl => match us, hl with | [_], _ => rfl
  have D16 := Z.d16.df (ps := ["pattern", "place"]) X G fun _ _ _ _ _ _ us hl => match us, hl with | [_, _], _ => rfl
  have D17 := Z.d17.df (ps := ["pattern", "place"]) X G fun _ _ _ _ _ _ us hl => match us, hl with | [_, _], _ => rfl
  have D18 := Z.d18.df (ps := ["pattern", "arrow"]) X G fun _ _ _ _ _ _ us hl => match us, hl with | [_, _], _ => rfl
  have D19 := Z.d19.df (ps := ["numbers", "place", "end"]) X G fun _ _ _ _ _ _ us hl => match us, hl with | [_, _, _], _ => rfl
  have D20 := Z.d20.df (ps := ["pattern", "numbers", "after"]) X G fun _ _ _ _ _ _ us hl => match us, hl with | [_, _, _], _ => rfl
  have D21 := Z.d21.df (ps := ["prime", "inside", "left"]) X G fun _ _ _ _ _ _ us hl => match us, hl with | [_, _, _], _ => rfl
  have D22 := Z.d22.df (ps := ["pattern", "prime", "numbers", "arrow", "after"]) X G fun _ _ _ _ _ _ us hl => match us, hl with | [_, _, _, _, _], _ => rfl
  have D23 := Z.d23.df (ps := ["_law_script", "_law_k"]) X G fun _ _ _ _ _ _ us hl => match us, hl with | [_, _], _ => rfl
  have D24 := Z.d24.df (ps := ["_law_cell_here"]) X G fun _ _ _ _ _ _ us hl => match us, hl with | [_], _ => rfl
  have D25 := Z.d25.df (ps := ["_law_box_here", "_law_many"]) X G fun _ _ _ _ _ _ us hl => match us, hl with | [_, _], _ => rfl
  have D26 := Z.d26.df (ps := ["_law_box_here", "_law_most"]) X G fun _ _ _ _ _ _ us hl => match us, hl with | [_, _], _ => rfl
  have D27 := Z.d27.df (ps := ["_law_arrows_here"]) X G fun _ _ _ _ _ _ us hl => match us, hl with | [_], _ => rfl
  have D28 := Z.d28.df (ps := ["_law_box_here", "_law_some"]) X G fun _ _ _ _ _ _ us hl => match us, hl with | [_, _], _ => rfl
  have D29 := Z.d29.df (ps := ["_law_box_here", "_law_arrows_here", "_law_high"]) X G fun _ _ _ _ _ _ us hl => match us, hl with | [_, _, _], _ => rfl
  have D30 := Z.d30.df (ps := ["_law_box_here"]) X G fun _ _ _ _ _ _ us hl => match us, hl with | [_], _ => rfl
  have D31 := Z.d31.df (ps := ["_law_way", "_law_arrows_here", "_law_p", "_law_some", "_law_sign", "_law_thing"]) X G fun _ _ _ _ _ _ us hl => match us, hl with | [_, _, _, _, _, _], _ => rfl
  have D32 := Z.d32.df (ps := ["_law_arrows_here", "_law_p", "_law_some", "_law_sign", "_law_thing"]) X G fun _ _ _ _ _ _ us hl => match us, hl with | [_, _, _, _, _], _ => rfl
  have D33 := Z.d33.df (ps := ["_law_arrows_here", "_law_p", "_law_held"]) X G fun _ _ _ _ _ _ us hl => match us, hl with | [_, _, _], _ => rfl
  obtain ⟨f, g, oc, od, kV, dc, pm, an, cd, ct, sl, lk, hc, hk⟩ := Z.dl
  have e := hfa.symm.trans (PySem.W.mg_of X G g)
  cases e
  refine ⟨PySem.W.fnOf "law" "law" (defArgs sLaw) (defBody sLaw) (defScope sLaw) .none kV dc pm an cd ct, fun s v => .of_eq rfl, fun base KB _ => ?_⟩
  have G1 : Own l.prog w K mg base CX0 1 "is_number" ["value"] [] spNum := D1.own fun f fd F => okNum F T
  have G2 : Own l.prog w K mg base CX0 2 "is_integer" ["value", "low", "high"] [] spInt := Z.d2.own3 X G (fun T kV doc pm an cdv ct us its h1 h2 => match us, its, h1, h2 with | [_, _, _], [_, _], _, _ => ⟨_, rfl, rfl⟩) fun f fd F => okInt F G1
  have G3 : Own l.prog w K mg base CX0 2 "is_prime" ["value"] [] spPrime := D3.own fun f fd F => okPrime F T G1
  have G4 : Own l.prog w K mg base (L2.CX l.prog w) 4 "check_prime" ["prime"] [] (spCheck CP) := D4.own fun f fd F => okCheck F T G3
  have G5 : Own l.prog w K mg base CX0 1 "is_pattern" ["value"] [] spPat := D5.own fun f fd F => okPat F T
  have G6 : Own l.prog w K mg base (L2.CX l.prog w) 4 "check_pattern" ["pattern"] [] (spCPat CT) := D6.own fun f fd F => okCPat F T G5
  have G7 : Own l.prog w K mg base CX0 3 "is_bar" ["pattern", "value"] [] spBarP := D7.own fun f fd F => okBarP F T G2
  have G8 : Own l.prog w K mg base (L2.CX l.prog w) 4 "check_size" ["size"] [] (spCSize CZ) := D8.own fun f fd F => okCSize F T G2
  have G9 : Own l.prog w K mg base (L2.CX l.prog w) 5 "check_numbers" ["pattern", "numbers"] [] (spCNumsG CN) := D9.own fun f fd F => okCNum F T G7 G2
  have G10 : Own l.prog w K mg base (L2.CX l.prog w) 4 "check_low" ["sizes"] [] (spLow K CG) := D10.own fun f fd F => okLow F T
  have G11 : Own l.prog w K mg base (L2.CX l.prog w) 6 "low_sizes" ["pattern", "numbers"] [] (spLowSzG CN CG) := D11.own fun f fd F => okLowSz F T G9 G10
  have G12 : Own l.prog w K mg base CX0 1 "power" ["base", "times"] [] spPower := D12.own fun f fd F => okPow F zz_range
  have G13 : Own l.prog w K mg base CX0 2 "independent_lists" ["prime", "many", "length"] [] spIndep := D13.own fun f fd F => okInd F zz_range G12
  have G14 : Own l.prog w K mg base CX0 3 "spaces_within" ["prime", "dimension", "whole"] [] spSpaces0 := D14.own fun f fd F => okSpaces F G13
  have G15 : Own l.prog w K mg base (L2.CX l.prog w) 5 "bars" ["pattern"] [] (spBars CT) := D15.own fun f fd F => okBars F T G6
  have G16 : Own l.prog w K mg base (L2.CX l.prog w) 5 "_check_place" ["pattern", "place"] [] spPlace0 := D16.own fun f fd F => okPlace F T eL G6 G2
  have G17 : Own l.prog w K mg base (L2.CX l.prog w) 6 "births" ["pattern", "place"] [] spBirths0 := D17.own fun f fd F => okBirths F T G16
  have G18 : Own l.prog w K mg base (L2.CX l.prog w) 4 "_check_arrow" ["pattern", "arrow"] [] (spCArrow CW CG) := D18.own fun f fd F => okCArrow F T Z.hT2 eW
  have G19 : Own l.prog w K mg base CX0 1 "_reaching" ["numbers", "place", "end"] [] spReach0 := D19.own fun f fd F => okReach F zz_range
  have G20 : Own l.prog w K mg base (L2.CX l.prog w) 6 "_begins" ["pattern", "numbers", "after"] [] spBegins0 := D20.own fun f fd F => okBegins F zz_len G15
  have G21 : Own l.prog w K mg base CX0 4 "_positions" ["prime", "inside", "left"] [] spPos0 := D21.own fun f fd F => okPos F zz_enumerate zz_sum G14 G12
  have G22 : Own l.prog w K mg base (L2.CX l.prog w) 7 "ways_after" ["pattern", "prime", "numbers", "arrow", "after"] [] (spWays CT CP CN CW CG) := D22.own fun f fd F => okWays F zz_len zz_sum G6 G4 G11 G18 G20 G19 G17 G21 G13
  have G23 : Own l.prog w K mg base CX0 1 "_law_cell" ["_law_script", "_law_k"] [] (spCellR K) := D23.own fun f fd F => okCell F zz_len
  have G24 : Own l.prog w K mg base CX0 1 "_law_box" ["_law_cell_here"] [] spBoxR := D24.own fun f fd F => okBox F zz_max zz_int
  have G25 : Own l.prog w K mg base CX0 1 "_law_take" ["_law_box_here", "_law_many"] [] spTakeR := D25.own fun f fd F => okTake F zz_int
  have G26 : Own l.prog w K mg base CX0 2 "_law_arrows" ["_law_box_here", "_law_most"] [] spPatR := D26.own fun f fd F => okPatL F zz_range G25
  have G27 : Own l.prog w K mg base CX0 1 "_law_bars" ["_law_arrows_here"] [] spBarsN := D27.own fun f fd F => okBarsL F zz_range zz_len
  have G28 : Own l.prog w K mg base CX0 2 "_law_mixed" ["_law_box_here", "_law_some"] [] spMixB := D28.own fun f fd F => okMix F zz_list zz_range zz_len G25
  have G29 : Own l.prog w K mg base CX0 3 "_law_some_numbers" ["_law_box_here", "_law_arrows_here", "_law_high"] [] spSomeN := D29.own fun f fd F => okSome F zz_len zz_range zz_max zz_enumerate zz_int G25 G27 G28
  have G30 : Own l.prog w K mg base CX0 2 "_law_prime" ["_law_box_here"] [] spPrimeR := D30.own fun f fd F => okPrimeL F G25
  have GA0 : OwnGn l.prog w K mg base 7 "numbers_after" ["pattern", "numbers", "arrow", "size"] (spAfter CT CN CW CG CZ) := ownAfter Z.dA X G G6 G11 G18 G8
  have G31 : Own l.prog w K mg base CX0 12 "_law_caught" ["_law_way", "_law_arrows_here", "_law_p", "_law_some", "_law_sign", "_law_thing"] [] spCau := D31.own fun f fd F => okCaught F T eW TC zz_list GA0 G22
  have G32 : OwnG l.prog w K mg base CX0 13 "_law_both" ["_law_arrows_here", "_law_p", "_law_some", "_law_sign", "_law_thing"] [] spBoth := D32.ownG fun f fd F => okBoth F zz_range zz_repr G31
  have G33 : OwnG l.prog w K mg base CX0 13 "_law_last_right" ["_law_arrows_here", "_law_p", "_law_held"] [] spLastR := D33.ownG fun f fd F => okLastR F zz_len zz_repr G31
  exact okLaw (fun_mk (st := sLaw) lk hc hk) ⟨zz_range, zz_max, zz_min, zz_len, zz_repr⟩ ⟨G23, G24, G25, G26, G30, G29, G31, G32, G33⟩
end K53

set_option Elab.async false
open PySem PySem.W PyProof.Rows
set_option maxRecDepth 100000
set_option maxHeartbeats 0
open_top k53head for PySem.Challenge.rw_maprows_k53_maps_refused

open PySem PySem.W PyProof.Rows in
set_option maxRecDepth 100000 in
set_option maxHeartbeats 0 in
set_option pp.maxSteps 20 in
theorem PySem.Challenge.cw_maprows_k53_maps_refused_holds : PySem.Challenge.rw_maprows_k53_maps_refused.Holds := by
  refine k53head ?walk
  k_fill
  refine Rw.walkG (l := PySem.Challenge.rw_maprows_k53_maps_refused) (n := 63) (k := 14) (x := "_law_script") (sp := K53.spLaw) rfl (by decide) rfl rfl ⟨rfl, by decide, by decide⟩ (fun w h Y => PySem.W.kIn_of Y) ?F (fun K H a ns hl _ hs => ⟨a, ns, rfl, hs, hl, fun _ => rfl⟩)
  intro w mg fa h KX G hmg
  refine' K53.all_mk KX G hmg ?Z
  case' Z => refine' ⟨?taI, ?taT, ?iMOST, ?hI, ?hT, ?hT2, ?root, ?eP, ?eZ, ?eT, ?eL, ?eN, ?eW, ?eG, ?cT, ?cP, ?cN, ?cG, ?cW, ?cZ, ?sTT, ?sPT, ?sPP, ?sNT, ?sNP, ?sNN, ?sGT, ?sGP, ?sGN, ?sGG, ?sWT, ?sWP, ?sWN, ?sWG, ?sWW, ?sZT, ?sZP, ?sZN, ?sZG, ?sZW, ?sZZ, ?stT, ?stP, ?stN, ?stG, ?stW, ?stZ, ?dA, ?d1, ?d2, ?d3, ?d4, ?d5, ?d6, ?d7, ?d8, ?d9, ?d10, ?d11, ?d12, ?d13, ?d14, ?d15, ?d16, ?d17, ?d18, ?d19, ?d20, ?d21, ?d22, ?d23, ?d24, ?d25, ?d26, ?d27, ?d28, ?d29, ?d30, ?d31, ?d32, ?d33, ?dl, ?z1, ?z2, ?z3, ?z4, ?z5, ?z6, ?z7, ?z8, ?z9, ?z10, ?z11, ?z12, ?z13, ?z14, ?z15⟩
  (case taI => refine' Rw.TabIHere.of ?g ?k ?t ?z; (case g => k_is); (case k => k_is); (case t => exact .cons rfl rfl rfl (.cons rfl rfl rfl (.cons rfl rfl rfl (.cons rfl rfl rfl (.cons rfl rfl rfl (.cons rfl rfl rfl .nil)))))); (case z => first | rfl | k_is))
  (case taT => refine' Rw.TabSHere.of ?g ?k ?t ?z; (case g => k_is); (case k => k_is); (case t => exact .cons rfl rfl rfl (.cons rfl rfl rfl .nil)); (case z => first | rfl | k_is))
  (case iMOST => k_is)
  (case hI => exact fun i => Rw.prime_tab (us := []) i)
  (case hT => exact fun c => Rw.arr_tab c)
  (case hT2 => exact fun z => Rw.arr_tab2 z)
  (case root => k_is)
  (case eP => refine' Rw.ErrHere.of ?g ?xl ?sa ?ga ?gg ?no ?ini ?ty ?l ?c ?k ?kc ?ex ?tc ?hd; (case g => k_is); (case xl => k_is); (case sa => k_is); (case ga => k_is); (case gg => k_is); (case no => k_is); (case ini => k_is); (case ty => k_is); (case l => k_is); (case c => k_is); (case k => k_is); (case kc => k_is); (case ex => k_is); (case tc => k_is); (case hd => k_is))
  (case eZ => refine' Rw.ErrHere.of ?g ?xl ?sa ?ga ?gg ?no ?ini ?ty ?l ?c ?k ?kc ?ex ?tc ?hd; (case g => k_is); (case xl => k_is); (case sa => k_is); (case ga => k_is); (case gg => k_is); (case no => k_is); (case ini => k_is); (case ty => k_is); (case l => k_is); (case c => k_is); (case k => k_is); (case kc => k_is); (case ex => k_is); (case tc => k_is); (case hd => k_is))
  (case eT => refine' Rw.ErrHere.of ?g ?xl ?sa ?ga ?gg ?no ?ini ?ty ?l ?c ?k ?kc ?ex ?tc ?hd; (case g => k_is); (case xl => k_is); (case sa => k_is); (case ga => k_is); (case gg => k_is); (case no => k_is); (case ini => k_is); (case ty => k_is); (case l => k_is); (case c => k_is); (case k => k_is); (case kc => k_is); (case ex => k_is); (case tc => k_is); (case hd => k_is))
  (case eL => refine' Rw.ErrHere.of ?g ?xl ?sa ?ga ?gg ?no ?ini ?ty ?l ?c ?k ?kc ?ex ?tc ?hd; (case g => k_is); (case xl => k_is); (case sa => k_is); (case ga => k_is); (case gg => k_is); (case no => k_is); (case ini => k_is); (case ty => k_is); (case l => k_is); (case c => k_is); (case k => k_is); (case kc => k_is); (case ex => k_is); (case tc => k_is); (case hd => k_is))
  (case eN => refine' Rw.ErrHere.of ?g ?xl ?sa ?ga ?gg ?no ?ini ?ty ?l ?c ?k ?kc ?ex ?tc ?hd; (case g => k_is); (case xl => k_is); (case sa => k_is); (case ga => k_is); (case gg => k_is); (case no => k_is); (case ini => k_is); (case ty => k_is); (case l => k_is); (case c => k_is); (case k => k_is); (case kc => k_is); (case ex => k_is); (case tc => k_is); (case hd => k_is))
  (case eW => refine' Rw.ErrHere.of ?g ?xl ?sa ?ga ?gg ?no ?ini ?ty ?l ?c ?k ?kc ?ex ?tc ?hd; (case g => k_is); (case xl => k_is); (case sa => k_is); (case ga => k_is); (case gg => k_is); (case no => k_is); (case ini => k_is); (case ty => k_is); (case l => k_is); (case c => k_is); (case k => k_is); (case kc => k_is); (case ex => k_is); (case tc => k_is); (case hd => k_is))
  (case eG => refine' Rw.ErrHere.of ?g ?xl ?sa ?ga ?gg ?no ?ini ?ty ?l ?c ?k ?kc ?ex ?tc ?hd; (case g => k_is); (case xl => k_is); (case sa => k_is); (case ga => k_is); (case gg => k_is); (case no => k_is); (case ini => k_is); (case ty => k_is); (case l => k_is); (case c => k_is); (case k => k_is); (case kc => k_is); (case ex => k_is); (case tc => k_is); (case hd => k_is))
  (case cT => first | rfl | k_is)
  (case cP => first | rfl | k_is)
  (case cN => first | rfl | k_is)
  (case cG => first | rfl | k_is)
  (case cW => first | rfl | k_is)
  (case cZ => first | rfl | k_is)
  (case sTT => first | rfl | k_is)
  (case sPT => first | rfl | k_is)
  (case sPP => first | rfl | k_is)
  (case sNT => first | rfl | k_is)
  (case sNP => first | rfl | k_is)
  (case sNN => first | rfl | k_is)
  (case sGT => first | rfl | k_is)
  (case sGP => first | rfl | k_is)
  (case sGN => first | rfl | k_is)
  (case sGG => first | rfl | k_is)
  (case sWT => first | rfl | k_is)
  (case sWP => first | rfl | k_is)
  (case sWN => first | rfl | k_is)
  (case sWG => first | rfl | k_is)
  (case sWW => first | rfl | k_is)
  (case sZT => first | rfl | k_is)
  (case sZP => first | rfl | k_is)
  (case sZN => first | rfl | k_is)
  (case sZG => first | rfl | k_is)
  (case sZW => first | rfl | k_is)
  (case sZZ => first | rfl | k_is)
  (case stT => first | rfl | k_is)
  (case stP => first | rfl | k_is)
  (case stN => first | rfl | k_is)
  (case stG => first | rfl | k_is)
  (case stW => first | rfl | k_is)
  (case stZ => first | rfl | k_is)
  (case dA => refine' Rw.DefHere.of ?g ?l ?c ?k; (case g => k_is); (case l => k_is); (case c => k_is); (case k => k_is))
  (case d1 => refine' Rw.DefHere.of ?g ?l ?c ?k; (case g => k_is); (case l => k_is); (case c => k_is); (case k => k_is))
  (case d2 => refine' Rw.DflHere.of ?g ?l ?c ?k ?t; (case g => k_is); (case l => k_is); (case c => k_is); (case k => k_is); (case t => k_is))
  (case d3 => refine' Rw.DefHere.of ?g ?l ?c ?k; (case g => k_is); (case l => k_is); (case c => k_is); (case k => k_is))
  (case d4 => refine' Rw.DefHere.of ?g ?l ?c ?k; (case g => k_is); (case l => k_is); (case c => k_is); (case k => k_is))
  (case d5 => refine' Rw.DefHere.of ?g ?l ?c ?k; (case g => k_is); (case l => k_is); (case c => k_is); (case k => k_is))
  (case d6 => refine' Rw.DefHere.of ?g ?l ?c ?k; (case g => k_is); (case l => k_is); (case c => k_is); (case k => k_is))
  (case d7 => refine' Rw.DefHere.of ?g ?l ?c ?k; (case g => k_is); (case l => k_is); (case c => k_is); (case k => k_is))
  (case d8 => refine' Rw.DefHere.of ?g ?l ?c ?k; (case g => k_is); (case l => k_is); (case c => k_is); (case k => k_is))
  (case d9 => refine' Rw.DefHere.of ?g ?l ?c ?k; (case g => k_is); (case l => k_is); (case c => k_is); (case k => k_is))
  (case d10 => refine' Rw.DefHere.of ?g ?l ?c ?k; (case g => k_is); (case l => k_is); (case c => k_is); (case k => k_is))
  (case d11 => refine' Rw.DefHere.of ?g ?l ?c ?k; (case g => k_is); (case l => k_is); (case c => k_is); (case k => k_is))
  (case d12 => refine' Rw.DefHere.of ?g ?l ?c ?k; (case g => k_is); (case l => k_is); (case c => k_is); (case k => k_is))
  (case d13 => refine' Rw.DefHere.of ?g ?l ?c ?k; (case g => k_is); (case l => k_is); (case c => k_is); (case k => k_is))
  (case d14 => refine' Rw.DefHere.of ?g ?l ?c ?k; (case g => k_is); (case l => k_is); (case c => k_is); (case k => k_is))
  (case d15 => refine' Rw.DefHere.of ?g ?l ?c ?k; (case g => k_is); (case l => k_is); (case c => k_is); (case k => k_is))
  (case d16 => refine' Rw.DefHere.of ?g ?l ?c ?k; (case g => k_is); (case l => k_is); (case c => k_is); (case k => k_is))
  (case d17 => refine' Rw.DefHere.of ?g ?l ?c ?k; (case g => k_is); (case l => k_is); (case c => k_is); (case k => k_is))
  (case d18 => refine' Rw.DefHere.of ?g ?l ?c ?k; (case g => k_is); (case l => k_is); (case c => k_is); (case k => k_is))
  (case d19 => refine' Rw.DefHere.of ?g ?l ?c ?k; (case g => k_is); (case l => k_is); (case c => k_is); (case k => k_is))
  (case d20 => refine' Rw.DefHere.of ?g ?l ?c ?k; (case g => k_is); (case l => k_is); (case c => k_is); (case k => k_is))
  (case d21 => refine' Rw.DefHere.of ?g ?l ?c ?k; (case g => k_is); (case l => k_is); (case c => k_is); (case k => k_is))
  (case d22 => refine' Rw.DefHere.of ?g ?l ?c ?k; (case g => k_is); (case l => k_is); (case c => k_is); (case k => k_is))
  (case d23 => refine' Rw.DefHere.of ?g ?l ?c ?k; (case g => k_is); (case l => k_is); (case c => k_is); (case k => k_is))
  (case d24 => refine' Rw.DefHere.of ?g ?l ?c ?k; (case g => k_is); (case l => k_is); (case c => k_is); (case k => k_is))
  (case d25 => refine' Rw.DefHere.of ?g ?l ?c ?k; (case g => k_is); (case l => k_is); (case c => k_is); (case k => k_is))
  (case d26 => refine' Rw.DefHere.of ?g ?l ?c ?k; (case g => k_is); (case l => k_is); (case c => k_is); (case k => k_is))
  (case d27 => refine' Rw.DefHere.of ?g ?l ?c ?k; (case g => k_is); (case l => k_is); (case c => k_is); (case k => k_is))
  (case d28 => refine' Rw.DefHere.of ?g ?l ?c ?k; (case g => k_is); (case l => k_is); (case c => k_is); (case k => k_is))
  (case d29 => refine' Rw.DefHere.of ?g ?l ?c ?k; (case g => k_is); (case l => k_is); (case c => k_is); (case k => k_is))
  (case d30 => refine' Rw.DefHere.of ?g ?l ?c ?k; (case g => k_is); (case l => k_is); (case c => k_is); (case k => k_is))
  (case d31 => refine' Rw.DefHere.of ?g ?l ?c ?k; (case g => k_is); (case l => k_is); (case c => k_is); (case k => k_is))
  (case d32 => refine' Rw.DefHere.of ?g ?l ?c ?k; (case g => k_is); (case l => k_is); (case c => k_is); (case k => k_is))
  (case d33 => refine' Rw.DefHere.of ?g ?l ?c ?k; (case g => k_is); (case l => k_is); (case c => k_is); (case k => k_is))
  (case dl => refine' Rw.DefHere.of ?g ?l ?c ?k; (case g => k_is); (case l => k_is); (case c => k_is); (case k => k_is))
  (case z1 => k_is)
  (case z2 => k_is)
  (case z3 => k_is)
  (case z4 => k_is)
  (case z5 => k_is)
  (case z6 => k_is)
  (case z7 => k_is)
  (case z8 => k_is)
  (case z9 => k_is)
  (case z10 => k_is)
  (case z11 => k_is)
  (case z12 => k_is)
  (case z13 => k_is)
  (case z14 => k_is)
  (case z15 => k_is)
#print axioms PySem.Challenge.cw_maprows_k53_maps_refused_holds
