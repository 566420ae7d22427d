import PyProof.Rows.All
import Wide.All
import OpenK.AllK
import Wide.FinOn
import HandS.ForMost
import HandS.ForExc
import HandS.Lambda
import HandS.Property
import HandS.ClsMeth
import HandS.WideBits
import KE.KeyNested
import KE.KDictKeyed
import KE.KDictWalk
import PyProof.DictRoadsH
import HandS.TupAny
import HandS.TupMul
import HandS.IsInst
import HandS.Wide
import HandS.Flow
import HandS.ExcOwn
import HandS.WordsExc
import HandS.Walk
import HandS.Zip
import KE.GoesEnum
import KE.GoesMore
import HandS.RevRange
import HandS.Dict
import HandS.DictComp
import HandS.SortKw
import HandS.More
import HandS.Strs
import HandS.Style
import HandS.TupSets
import KE.KExcInit
import HandS.RaiseMore
import PyProof.ReprRoads
import HandS.EndTab
import HandS.TryMany
import PySem.Challenge.RW_tablerings_k04_whole_polynomials_reckone
import HandS.HeadHook3
set_option Elab.async false
set_option linter.all false
namespace PM
def co (l : List Int) (i : Nat) : Int := l.getD i 0
@[simp] theorem co_nil (i : Nat) : co [] i = 0 := by simp [co]
@[simp] theorem co_zero (a : Int) (l : List Int) : co (a :: l) 0 = a := by simp [co]
@[simp] theorem co_succ (a : Int) (l : List Int) (i : Nat) : co (a :: l) (i + 1) = co l i := by simp [co]
theorem co_ge {l : List Int} {i : Nat} (h : l.length ≤ i) : co l i = 0 := by
  unfold co; rw [List.getD_eq_getElem?_getD, List.getElem?_eq_none h]; rfl
theorem co_app (l r : List Int) (i : Nat) : co (l ++ r) i = if i < l.length then co l i else co r (i - l.length) := by
  unfold co
  by_cases h : i < l.length
  · rw [if_pos h, List.getD_eq_getElem?_getD, List.getD_eq_getElem?_getD, List.getElem?_append_left h]
  · rw [if_neg h, List.getD_eq_getElem?_getD, List.getD_eq_getElem?_getD, List.getElem?_append_right (by omega)]
theorem co_rep0 (n i : Nat) : co (List.replicate n 0) i = 0 := by
  unfold co
  rw [List.getD_eq_getElem?_getD, List.getElem?_replicate]
  by_cases h : i < n
  · rw [if_pos h]; rfl
  · rw [if_neg h]; rfl
theorem co_set (l : List Int) (n : Nat) (c : Int) (i : Nat) (h : n < l.length) : co (l.set n c) i = if i = n then c else co l i := by
  unfold co
  rw [List.getD_eq_getElem?_getD, List.getD_eq_getElem?_getD, List.getElem?_set]
  by_cases e : n = i
  · rw [if_pos e, if_pos h, if_pos e.symm]; rfl
  · rw [if_neg e, if_neg (fun q => e q.symm)]
theorem co_take (l : List Int) (n i : Nat) : co (l.take n) i = if i < n then co l i else 0 := by
  unfold co
  rw [List.getD_eq_getElem?_getD, List.getD_eq_getElem?_getD, List.getElem?_take]
  by_cases e : i < n
  · rw [if_pos e, if_pos e]
  · rw [if_neg e, if_neg e]; rfl
theorem co_map (f : Int → Int) (h : f 0 = 0) (l : List Int) (i : Nat) : co (l.map f) i = f (co l i) := by
  unfold co
  rw [List.getD_eq_getElem?_getD, List.getD_eq_getElem?_getD, List.getElem?_map]
  cases l[i]? with
  | none => exact h.symm
  | some x => rfl
theorem co_zipWith (f : Int → Int → Int) (h : f 0 0 = 0) : ∀ (l r : List Int) (i : Nat), l.length = r.length → co (List.zipWith f l r) i = f (co l i) (co r i)
  | [], [], i, _ => by simp [h]
  | a :: l, b :: r, 0, _ => by simp
  | a :: l, b :: r, i + 1, e => by
    simp only [List.zipWith_cons_cons, co_succ]
    exact co_zipWith f h l r i (by simpa using e)
theorem co_mem {l : List Int} {i : Nat} (h : i < l.length) : co l i ∈ l := by
  unfold co; rw [List.getD_eq_getElem?_getD, List.getElem?_eq_getElem h]; exact List.getElem_mem h
theorem mem_co {l : List Int} {x : Int} (h : x ∈ l) : ∃ i, i < l.length ∧ co l i = x := by
  obtain ⟨i, hi, e⟩ := List.getElem_of_mem h
  exact ⟨i, hi, by unfold co; rw [List.getD_eq_getElem?_getD, List.getElem?_eq_getElem hi]; exact e⟩
/-! trim -/
def tcons (a : Int) (t : List Int) : List Int := if t = [] ∧ a = 0 then [] else a :: t
def trim : List Int → List Int
  | [] => []
  | a :: r => tcons a (trim r)
theorem co_tcons (a : Int) (t : List Int) (i : Nat) : co (tcons a t) i = co (a :: t) i := by
  unfold tcons
  by_cases h : t = [] ∧ a = 0
  · rw [if_pos h, h.1, h.2]; cases i <;> simp
  · rw [if_neg h]
theorem co_trim : ∀ (l : List Int) (i : Nat), co (trim l) i = co l i
  | [], i => rfl
  | a :: r, 0 => by rw [trim, co_tcons]; simp
  | a :: r, i + 1 => by rw [trim, co_tcons, co_succ, co_succ, co_trim r i]
theorem trim_zero : ∀ (l : List Int), (∀ i, co l i = 0) → trim l = []
  | [], _ => rfl
  | a :: r, h => by
    rw [trim, trim_zero r (fun i => by simpa using h (i + 1))]
    unfold tcons
    rw [if_pos ⟨rfl, by simpa using h 0⟩]
theorem trim_ext : ∀ (l r : List Int), (∀ i, co l i = co r i) → trim l = trim r
  | [], r, h => by rw [trim_zero r (fun i => by rw [← h i]; simp)]; rfl
  | a :: l, [], h => by rw [trim_zero (a :: l) (fun i => by rw [h i]; simp)]; rfl
  | a :: l, b :: r, h => by
    have h0 : a = b := by simpa using h 0
    rw [trim, trim, h0, trim_ext l r (fun i => by simpa using h (i + 1))]
theorem trim_trim (l : List Int) : trim (trim l) = trim l := trim_ext _ _ (co_trim l)
theorem tcons_len (a : Int) (t : List Int) : (tcons a t).length ≤ t.length + 1 := by
  unfold tcons; split <;> simp
theorem trim_len : ∀ l : List Int, (trim l).length ≤ l.length
  | [] => Nat.le_refl _
  | a :: r => by
    have := trim_len r
    have := tcons_len a (trim r)
    rw [trim]; simp only [List.length_cons]; omega
theorem trim_snoc0 (l : List Int) : trim (l ++ [0]) = trim l := trim_ext _ _ (fun i => by
  rw [co_app]; split
  · rfl
  · rename_i h
    rw [co_ge (l := l) (by omega)]
    cases i - l.length <;> simp)
theorem trim_snoc (c : Int) (hc : c ≠ 0) : ∀ l : List Int, trim (l ++ [c]) = l ++ [c]
  | [] => by simp [trim, tcons, hc]
  | a :: l => by
    rw [List.cons_append, trim, trim_snoc c hc l]
    unfold tcons; rw [if_neg (by simp)]
theorem trim_top {l : List Int} (h : trim l = l) (hn : l ≠ []) : co l (l.length - 1) ≠ 0 := by
  intro hc
  obtain ⟨r, c, e⟩ : ∃ r c, l = r ++ [c] := ⟨l.dropLast, l.getLast hn, (List.dropLast_concat_getLast hn).symm⟩
  subst e
  have : c = 0 := by
    rw [co_app] at hc
    simpa using hc
  subst this
  rw [trim_snoc0] at h
  have := trim_len r
  have h2 := congrArg List.length h
  simp at h2; omega
theorem len_le {l : List Int} {n : Nat} (h : trim l = l) (hz : ∀ i, n ≤ i → co l i = 0) : l.length ≤ n := by
  by_cases e : l = []
  · subst e; simp
  · have := trim_top h e
    rcases Nat.lt_or_ge (l.length - 1) n with q | q
    · omega
    · exact absurd (hz _ q) this
theorem trim_eq {l r : List Int} (hl : trim l = l) (hr : trim r = r) (h : ∀ i, co l i = co r i) : l = r := by
  rw [← hl, ← hr]; exact trim_ext _ _ h
/-! congruence -/
def cg (p a b : Int) : Prop := a % p = b % p
instance (p a b : Int) : Decidable (cg p a b) := inferInstanceAs (Decidable (a % p = b % p))
theorem cg_rfl {p a : Int} : cg p a a := rfl
theorem cg_sym {p a b : Int} (h : cg p a b) : cg p b a := h.symm
theorem cg_trans {p a b c : Int} (h : cg p a b) (k : cg p b c) : cg p a c := Eq.trans h k
theorem cg_add {p a b c d : Int} (h : cg p a b) (k : cg p c d) : cg p (a + c) (b + d) := by
  unfold cg at *; rw [Int.add_emod, h, k, ← Int.add_emod]
theorem cg_sub {p a b c d : Int} (h : cg p a b) (k : cg p c d) : cg p (a - c) (b - d) := by
  unfold cg at *; rw [Int.sub_emod, h, k, ← Int.sub_emod]
theorem cg_mul {p a b c d : Int} (h : cg p a b) (k : cg p c d) : cg p (a * c) (b * d) := by
  unfold cg at *; rw [Int.mul_emod, h, k, ← Int.mul_emod]
theorem cg_mod {p a : Int} : cg p (a % p) a := by unfold cg; rw [Int.emod_emod_of_dvd _ (Int.dvd_refl p)]
theorem cg_of {p a b : Int} (h : a = b) : cg p a b := h ▸ rfl
theorem cg_eq {p a b : Int} (h : cg p a b) (a0 : 0 ≤ a) (a1 : a < p) (b0 : 0 ≤ b) (b1 : b < p) : a = b := by
  unfold cg at h; rwa [Int.emod_eq_of_lt a0 a1, Int.emod_eq_of_lt b0 b1] at h
def Red (p : Int) (l : List Int) : Prop := ∀ i, 0 ≤ co l i ∧ co l i < p
theorem red_trim {p : Int} {l : List Int} (h : Red p l) : Red p (trim l) := fun i => by rw [co_trim]; exact h i
theorem red_of_mem {p : Int} (hp : 0 < p) {l : List Int} (h : ∀ x ∈ l, 0 ≤ x ∧ x < p) : Red p l := fun i => by
  rcases Nat.lt_or_ge i l.length with q | q
  · exact h _ (co_mem q)
  · rw [co_ge q]; exact ⟨Int.le_refl 0, hp⟩
theorem mem_of_red {p : Int} {l : List Int} (h : Red p l) : ∀ x ∈ l, 0 ≤ x ∧ x < p := fun x hx => by
  obtain ⟨i, _, e⟩ := mem_co hx; rw [← e]; exact h i
theorem red_eq {p : Int} {l r : List Int} (hl : Red p l) (hr : Red p r) (h : ∀ i, cg p (co l i) (co r i)) (i : Nat) : co l i = co r i :=
  cg_eq (h i) (hl i).1 (hl i).2 (hr i).1 (hr i).2
/-! products -/
def sh (f : Nat → Int) : Nat → Int
  | 0 => 0
  | i + 1 => f i
@[simp] theorem sh0 (f : Nat → Int) : sh f 0 = 0 := rfl
@[simp] theorem shs (f : Nat → Int) (i : Nat) : sh f (i + 1) = f i := rfl
def mu : List Int → (Nat → Int) → Nat → Int
  | [], _, _ => 0
  | a :: l, f, i => a * f i + sh (mu l f) i
theorem mu_co (b : Int) (l : List Int) : ∀ (k : List Int) (i : Nat), mu k (co (b :: l)) i = b * co k i + sh (mu k (co l)) i
  | [], 0 => by simp [mu]
  | [], i + 1 => by simp [mu]
  | a :: k, 0 => by simp [mu, Int.mul_comm]
  | a :: k, i + 1 => by
    simp only [mu, shs, co_succ]
    rw [mu_co b l k i]
    omega
theorem mu_zero : ∀ (k : List Int) (i : Nat), mu k (fun _ => 0) i = 0
  | [], _ => rfl
  | a :: k, 0 => by simp [mu]
  | a :: k, i + 1 => by simp [mu, mu_zero k i]
theorem mu_comm : ∀ (l k : List Int) (i : Nat), mu l (co k) i = mu k (co l) i
  | [], k, i => by
    have : co ([] : List Int) = fun _ => 0 := funext fun i => co_nil i
    rw [this, mu_zero]; rfl
  | a :: l, k, 0 => by rw [mu_co]; simp [mu]
  | a :: l, k, i + 1 => by rw [mu_co]; simp only [mu, shs]; rw [mu_comm l k i]
theorem mu_add (f g : Nat → Int) : ∀ (k : List Int) (i : Nat), mu k (fun j => f j + g j) i = mu k f i + mu k g i
  | [], _ => rfl
  | a :: k, 0 => by simp [mu, Int.mul_add]
  | a :: k, i + 1 => by simp only [mu, shs]; rw [mu_add f g k i, Int.mul_add]; omega
theorem mu_sub (f g : Nat → Int) : ∀ (k : List Int) (i : Nat), mu k (fun j => f j - g j) i = mu k f i - mu k g i
  | [], _ => rfl
  | a :: k, 0 => by simp [mu, Int.mul_sub]
  | a :: k, i + 1 => by simp only [mu, shs]; rw [mu_sub f g k i, Int.mul_sub]; omega
theorem mu_smul (c : Int) (f : Nat → Int) : ∀ (k : List Int) (i : Nat), mu k (fun j => c * f j) i = c * mu k f i
  | [], _ => by simp [mu]
  | a :: k, 0 => by simp [mu, Int.mul_left_comm]
  | a :: k, i + 1 => by simp only [mu, shs]; rw [mu_smul c f k i, Int.mul_add, Int.mul_left_comm]
theorem mu_sh (f : Nat → Int) : ∀ (k : List Int) (i : Nat), mu k (sh f) i = sh (mu k f) i
  | [], 0 => rfl
  | [], i + 1 => rfl
  | a :: k, 0 => by simp [mu]
  | a :: k, i + 1 => by simp only [mu, shs]; rw [mu_sh f k i]
theorem mu_mu (f : Nat → Int) (t : List Int) : ∀ (q : List Int) (i : Nat), mu q (mu t f) i = mu t (mu q f) i
  | [], i => by
    have : mu ([] : List Int) f = fun _ => 0 := rfl
    rw [this, mu_zero]; rfl
  | a :: q, i => by
    have h : mu (a :: q) f = fun j => (fun j => a * f j) j + sh (mu q f) j := rfl
    rw [h, mu_add, mu_smul, mu_sh]
    show a * mu t f i + sh (mu q (mu t f)) i = _
    have : sh (mu q (mu t f)) i = sh (mu t (mu q f)) i := by
      cases i with
      | zero => rfl
      | succ i => exact mu_mu f t q i
    rw [this]
theorem mu_cg {p : Int} {f g : Nat → Int} (h : ∀ i, cg p (f i) (g i)) : ∀ (k : List Int) (i : Nat), cg p (mu k f i) (mu k g i)
  | [], _ => rfl
  | a :: k, 0 => cg_add (cg_mul cg_rfl (h 0)) cg_rfl
  | a :: k, i + 1 => cg_add (cg_mul cg_rfl (h (i + 1))) (mu_cg h k i)
theorem mu_fin {f : Nat → Int} {N : Nat} (h : ∀ i, N ≤ i → f i = 0) : ∀ (k : List Int) (i : Nat), N + k.length ≤ i → mu k f i = 0
  | [], _, _ => rfl
  | a :: k, 0, q => by simp at q
  | a :: k, i + 1, q => by
    simp only [mu, shs]
    simp only [List.length_cons] at q
    rw [h (i + 1) (by omega), mu_fin h k i (by omega)]; simp
def dl (n : Nat) (i : Nat) : Int := if i = n then 1 else 0
theorem mu_dl (n : Nat) : ∀ (k : List Int) (i : Nat), mu k (dl n) i = if i < n then 0 else co k (i - n)
  | [], i => by simp [mu]
  | a :: k, 0 => by
    by_cases h : n = 0
    · subst h; simp [mu, dl]
    · simp [mu, dl, Ne.symm h, Nat.pos_of_ne_zero h]
  | a :: k, i + 1 => by
    simp only [mu, shs]
    rw [mu_dl n k i]
    unfold dl
    rcases Nat.lt_trichotomy (i + 1) n with h | h | h
    · rw [if_neg (by omega), if_pos (by omega), if_pos h]; simp
    · subst h; simp
    · rw [if_neg (by omega), if_neg (by omega), if_neg (by omega), show i + 1 - n = (i - n) + 1 by omega]; simp
theorem mu_top {p : Int} {f : Nat → Int} {n : Nat} (h : ∀ i, n < i → cg p (f i) 0) : ∀ (k : List Int), k ≠ [] → cg p (mu k f (n + k.length - 1)) (f n * co k (k.length - 1))
  | [], e => absurd rfl e
  | [a], _ => by
    have : n + [a].length - 1 = n := by simp
    rw [this]
    cases n with
    | zero => simp [mu, Int.mul_comm]; exact cg_rfl
    | succ n => simp [mu, Int.mul_comm]; exact cg_rfl
  | a :: b :: k, _ => by
    have ih := mu_top h (b :: k) (by simp)
    have e : n + (a :: b :: k).length - 1 = (n + (b :: k).length - 1) + 1 := by simp only [List.length_cons]; omega
    rw [e]
    show cg p (a * f (n + (b :: k).length - 1 + 1) + mu (b :: k) f (n + (b :: k).length - 1)) _
    have h1 : cg p (a * f (n + (b :: k).length - 1 + 1)) (a * 0) := cg_mul cg_rfl (h _ (by simp only [List.length_cons]; omega))
    have h2 : co (a :: b :: k) ((a :: b :: k).length - 1) = co (b :: k) ((b :: k).length - 1) := by simp
    rw [h2]
    have := cg_add h1 ih
    rwa [Int.mul_zero, Int.zero_add] at this
/-! primes -/
def pr (p : Int) : Prop := p = 2 ∨ p = 3 ∨ p = 5 ∨ p = 7
theorem pr_pos {p : Int} (h : pr p) : 0 < p := by unfold pr at h; omega
def inv (p a : Int) : Int := if p = 2 then 1 else if p = 3 then a else if p = 5 then (if a = 2 then 3 else if a = 3 then 2 else a) else (if a = 2 then 4 else if a = 4 then 2 else if a = 3 then 5 else if a = 5 then 3 else a)
theorem inv_ok {p a : Int} (h : pr p) (h0 : 0 < a) (h1 : a < p) : 0 < inv p a ∧ inv p a < p ∧ cg p (a * inv p a) 1 := by
  rcases h with rfl | rfl | rfl | rfl
  · obtain rfl : a = 1 := by omega
    decide
  · obtain rfl | rfl : a = 1 ∨ a = 2 := by omega
    all_goals decide
  · obtain rfl | rfl | rfl | rfl : a = 1 ∨ a = 2 ∨ a = 3 ∨ a = 4 := by omega
    all_goals decide
  · obtain rfl | rfl | rfl | rfl | rfl | rfl : a = 1 ∨ a = 2 ∨ a = 3 ∨ a = 4 ∨ a = 5 ∨ a = 6 := by omega
    all_goals decide
theorem no_div {p a c : Int} (h : pr p) (h0 : 0 < a) (h1 : a < p) (k : cg p (c * a) 0) : cg p c 0 := by
  have := (inv_ok h h0 h1).2.2
  have e : c * a * inv p a = c * (a * inv p a) := Int.mul_assoc _ _ _
  have k2 : cg p (c * a * inv p a) (0 * inv p a) := cg_mul k cg_rfl
  rw [e, Int.zero_mul] at k2
  have k3 : cg p (c * (a * inv p a)) (c * 1) := cg_mul cg_rfl this
  rw [Int.mul_one] at k3
  exact cg_trans (cg_sym k3) k2
/-- quotient and rest are one -/
theorem uniq0 {p : Int} (hp : pr p) {b : List Int} (hb : Red p b) (tb : trim b = b) (nb : b ≠ []) {f : Nat → Int} {N : Nat} (hN : ∀ i, N ≤ i → f i = 0) (hz : ∀ i, b.length ≤ i + 1 → cg p (mu b f i) 0) : ∀ i, cg p (f i) 0 := by
  have key : ∀ k n, N ≤ n + k → cg p (f n) 0 := by
    intro k
    induction k with
    | zero => intro n h; rw [hN n (by omega)]; exact cg_rfl
    | succ k ih =>
      intro n h
      have h1 := mu_top (p := p) (f := f) (n := n) (fun i hi => ih i (by omega)) b nb
      have hl : b.length ≠ 0 := fun e => nb (List.length_eq_zero_iff.mp e)
      have h2 := hz (n + b.length - 1) (by omega)
      have h3 := cg_trans (cg_sym h1) h2
      have ht := trim_top tb nb
      have hr := hb (b.length - 1)
      exact no_div hp (by omega) hr.2 h3
  intro i
  exact key N i (by omega)
structure Div (p : Int) (a b : List Int) (g : Nat → Int) (r : List Int) : Prop where
  fin : ∃ N, ∀ i, N ≤ i → g i = 0
  eq : ∀ i, cg p (co a i) (mu b g i + co r i)
  lt : ∀ i, b.length ≤ i + 1 → co r i = 0
theorem uniq {p : Int} (hp : pr p) {a b : List Int} (hb : Red p b) (tb : trim b = b) (nb : b ≠ []) {g1 g2 : Nat → Int} {r1 r2 : List Int} (h1 : Div p a b g1 r1) (h2 : Div p a b g2 r2) : (∀ i, cg p (g1 i) (g2 i)) ∧ ∀ i, cg p (co r1 i) (co r2 i) := by
  obtain ⟨N1, n1⟩ := h1.fin
  obtain ⟨N2, n2⟩ := h2.fin
  have hd : ∀ i, cg p (mu b (fun j => g1 j - g2 j) i) (co r2 i - co r1 i) := by
    intro i
    rw [mu_sub]
    have := cg_sub (cg_trans (cg_sym (h1.eq i)) (h2.eq i)) (c := mu b g2 i + co r1 i) (cg_rfl)
    have e1 : mu b g1 i + co r1 i - (mu b g2 i + co r1 i) = mu b g1 i - mu b g2 i := by omega
    have e2 : mu b g2 i + co r2 i - (mu b g2 i + co r1 i) = co r2 i - co r1 i := by omega
    rwa [e1, e2] at this
  have h0 := uniq0 hp hb tb nb (f := fun j => g1 j - g2 j) (N := N1 + N2) (fun i hi => by
      show g1 i - g2 i = 0
      rw [n1 i (by omega), n2 i (by omega)]; rfl)
    (fun i hi => by
      have := hd i
      rwa [h1.lt i hi, h2.lt i hi] at this)
  refine ⟨fun i => ?_, fun i => ?_⟩
  · have := cg_add (h0 i) (cg_rfl (a := g2 i))
    have e : g1 i - g2 i + g2 i = g1 i := by omega
    rwa [e, Int.zero_add] at this
  · have h3 := hd i
    have h4 : cg p (mu b (fun j => g1 j - g2 j) i) 0 := by
      have := mu_cg (g := fun _ => 0) h0 b i
      rwa [mu_zero] at this
    have h5 := cg_add (cg_trans (cg_sym h4) h3) (cg_rfl (a := co r1 i))
    have e : co r2 i - co r1 i + co r1 i = co r2 i := by omega
    rwa [e, Int.zero_add] at h5
/-- multiples -/
def Mul (p : Int) (t : List Int) (a : List Int) : Prop := ∃ g N, (∀ i, N ≤ i → g i = 0) ∧ ∀ i, cg p (co a i) (mu t g i)
theorem mul_rest {p : Int} {t a b r : List Int} {q : List Int} (ha : Mul p t a) (hb : Mul p t b) (he : ∀ i, cg p (co a i) (mu b (co q) i + co r i)) : Mul p t r := by
  obtain ⟨g, N, gn, ge⟩ := ha
  obtain ⟨k, M, kn, ke⟩ := hb
  refine ⟨fun j => g j - mu q k j, N + (M + q.length), fun i hi => ?_, fun i => ?_⟩
  · show g i - mu q k i = 0
    rw [gn i (by omega), mu_fin kn q i (by omega)]; rfl
  · rw [mu_sub]
    have h1 : cg p (co r i) (co a i - mu b (co q) i) := by
      have := cg_sub (cg_sym (he i)) (cg_rfl (a := mu b (co q) i))
      have e : mu b (co q) i + co r i - mu b (co q) i = co r i := by omega
      rwa [e] at this
    have h2 : cg p (mu b (co q) i) (mu t (mu q k) i) := by
      rw [mu_comm, ← mu_mu]
      exact mu_cg ke q i
    exact cg_trans h1 (cg_sub (ge i) h2)
theorem mul_scale {p : Int} {t a r : List Int} {c : Int} (ha : Mul p t a) (he : ∀ i, cg p (co r i) (c * co a i)) : Mul p t r := by
  obtain ⟨g, N, gn, ge⟩ := ha
  refine ⟨fun j => c * g j, N, fun i hi => by show c * g i = 0; rw [gn i hi]; simp, fun i => ?_⟩
  rw [mu_smul]
  exact cg_trans (he i) (cg_mul cg_rfl (ge i))
theorem mul_prod {p : Int} {t x r : List Int} (he : ∀ i, cg p (co r i) (mu x (co t) i)) : Mul p t r :=
  ⟨co x, x.length, fun i hi => co_ge hi, fun i => by rw [mu_comm t x i]; exact he i⟩
end PM

set_option Elab.async false
set_option linter.all false
namespace PM
/-! rows, what they span -/
structure Row (p : Int) (w : Nat) (r : List Int) : Prop where
  n : r.length = w
  r : Red p r
inductive Sp (p : Int) (R : List (List Int)) : (Nat → Int) → Prop
  | zero : Sp p R (fun _ => 0)
  | add {f : Nat → Int} {r : List Int} (c : Int) : Sp p R f → r ∈ R → Sp p R (fun i => f i + c * co r i)
  | cgr {f g : Nat → Int} : Sp p R f → (∀ i, cg p (f i) (g i)) → Sp p R g
section
variable {p : Int} {R R' : List (List Int)} {f g : Nat → Int}
theorem Sp.mem {r : List Int} (h : r ∈ R) : Sp p R (co r) := (Sp.add 1 Sp.zero h).cgr fun i => cg_of (by simp)
theorem Sp.lin (hf : Sp p R f) (c : Int) (hg : Sp p R g) : Sp p R (fun i => f i + c * g i) := by
  induction hg with
  | zero => exact hf.cgr (fun i => cg_of (by simp))
  | add d _ hr ih => exact (Sp.add (c * d) ih hr).cgr fun i => cg_of (by rw [Int.mul_add, Int.mul_assoc, Int.add_assoc])
  | cgr _ he ih => exact ih.cgr fun i => cg_add cg_rfl (cg_mul cg_rfl (he i))
theorem Sp.trans (h : ∀ r ∈ R, Sp p R' (co r)) (hf : Sp p R f) : Sp p R' f := by
  induction hf with
  | zero => exact .zero
  | add c _ hr ih => exact ih.lin c (h _ hr)
  | cgr _ he ih => exact ih.cgr he
theorem Sp.mono (h : ∀ r ∈ R, r ∈ R') (hf : Sp p R f) : Sp p R' f := hf.trans fun r hr => .mem (h r hr)
theorem Sp.smul (c : Int) (hf : Sp p R f) : Sp p R (fun i => c * f i) := (Sp.zero.lin c hf).cgr fun i => cg_of (by simp)
theorem Sp.sub (hf : Sp p R f) (hg : Sp p R g) : Sp p R (fun i => f i - g i) := (hf.lin (-1) hg).cgr fun i => cg_of (by omega)
theorem Sp.low {k : Nat} (h : ∀ r ∈ R, co r k = 0) (hf : Sp p R f) : cg p (f k) 0 := by
  induction hf with
  | zero => exact cg_rfl
  | add c _ hr ih => exact cg_trans (cg_add ih (cg_rfl (a := c * _))) (cg_of (by rw [h _ hr]; simp))
  | cgr _ he ih => exact cg_trans (cg_sym (he k)) ih
/-- the same spans -/
structure Same (p : Int) (R R' : List (List Int)) : Prop where
  l : ∀ r ∈ R, Sp p R' (co r)
  r : ∀ r ∈ R', Sp p R (co r)
theorem Same.refl : Same p R R := ⟨fun r h => .mem h, fun r h => .mem h⟩
theorem Same.symm (h : Same p R R') : Same p R' R := ⟨h.r, h.l⟩
theorem Same.trans {R2 : List (List Int)} (h : Same p R R') (k : Same p R' R2) : Same p R R2 := ⟨fun r hr => (h.l r hr).trans k.l, fun r hr => (k.r r hr).trans h.r⟩
theorem Same.to (h : Same p R R') (hf : Sp p R f) : Sp p R' f := hf.trans h.l
end
/-! steps, bases: rows by their leads -/
structure Ech (p : Int) (w : Nat) (B : List (Nat × List Int)) : Prop where
  row : ∀ b ∈ B, Row p w b.2
  lt : ∀ b ∈ B, b.1 < w
  one : ∀ b ∈ B, co b.2 b.1 = 1
  low : ∀ b ∈ B, ∀ i, i < b.1 → co b.2 i = 0
  nd : (B.map (·.1)).Nodup
structure Bas (p : Int) (w : Nat) (B : List (Nat × List Int)) : Prop extends Ech p w B where
  off : ∀ b ∈ B, ∀ c ∈ B, b.1 ≠ c.1 → co b.2 c.1 = 0
abbrev rowsB (B : List (Nat × List Int)) : List (List Int) := B.map (·.2)
def sm : List (Nat × List Int) → (Nat → Int) → Nat → Int
  | [], _, _ => 0
  | b :: B, f, i => f b.1 * co b.2 i + sm B f i
theorem sm_lin (f g : Nat → Int) (c : Int) (i : Nat) : ∀ B, sm B (fun j => f j + c * g j) i = sm B f i + c * sm B g i
  | [] => by simp [sm]
  | b :: B => by
    simp only [sm]
    rw [sm_lin f g c i B, Int.add_mul, Int.mul_add, Int.mul_assoc]
    omega
theorem sm_cg {p : Int} {f g : Nat → Int} (h : ∀ i, cg p (f i) (g i)) (i : Nat) : ∀ B, cg p (sm B f i) (sm B g i)
  | [] => cg_rfl
  | b :: B => cg_add (cg_mul (h _) cg_rfl) (sm_cg h i B)
theorem sm_none {p : Int} {f : Nat → Int} (i : Nat) : ∀ B : List (Nat × List Int), (∀ b ∈ B, cg p (f b.1 * co b.2 i) 0) → cg p (sm B f i) 0
  | [], _ => cg_rfl
  | b :: B, h => by
    have := cg_add (h b (by simp)) (sm_none i B fun c hc => h c (by simp [hc]))
    rwa [Int.add_zero] at this
theorem sm_single {f : Nat → Int} (i : Nat) : ∀ (B : List (Nat × List Int)) (b0 : Nat × List Int), (B.map (·.1)).Nodup → b0 ∈ B → f b0.1 = 1 → (∀ c ∈ B, c.1 ≠ b0.1 → f c.1 = 0) → sm B f i = co b0.2 i
  | b :: B, b0, nd, hm, h1, h0 => by
    rw [List.map_cons, List.nodup_cons] at nd
    have zero : ∀ C : List (Nat × List Int), (∀ c ∈ C, f c.1 = 0) → sm C f i = 0 := by
      intro C
      induction C with
      | nil => intro _; rfl
      | cons c C ih => intro h; simp only [sm]; rw [h c (by simp), ih (fun d hd => h d (by simp [hd]))]; simp
    rcases List.mem_cons.mp hm with e | hm
    · subst e
      simp only [sm]
      rw [h1, zero B (fun c hc => h0 c (by simp [hc]) (fun e => nd.1 (List.mem_map.mpr ⟨c, hc, e⟩)))]
      simp
    · have hb : b.1 ≠ b0.1 := fun e => nd.1 (List.mem_map.mpr ⟨b0, hm, e.symm⟩)
      simp only [sm]
      rw [h0 b (by simp) hb, sm_single i B b0 nd.2 hm h1 (fun c hc => h0 c (by simp [hc]))]
      simp
section
variable {p : Int} {w : Nat} {B B' : List (Nat × List Int)} {f : Nat → Int}
theorem Bas.coef (hB : Bas p w B) (hf : Sp p (rowsB B) f) (i : Nat) : cg p (f i) (sm B f i) := by
  induction hf with
  | zero => exact cg_sym (sm_none i B fun b _ => cg_of (by simp))
  | @add g r c _ hr ih =>
    obtain ⟨b0, hb, rfl⟩ := List.mem_map.mp hr
    rw [sm_lin]
    rw [sm_single i B b0 hB.nd hb (hB.one b0 hb) (fun d hd e => hB.off b0 hb d hd (Ne.symm e))]
    exact cg_add ih cg_rfl
  | cgr _ he ih => exact cg_trans (cg_sym (he i)) (cg_trans ih (sm_cg he i B))
/-- what is 0 at all leads is 0 -/
theorem Bas.zero (hB : Bas p w B) (hf : Sp p (rowsB B) f) (h0 : ∀ b ∈ B, f b.1 = 0) (i : Nat) : cg p (f i) 0 :=
  cg_trans (hB.coef hf i) (sm_none i B fun b hb => cg_of (by rw [h0 b hb]; simp))
theorem Bas.lead (hB : Bas p w B) (hf : Sp p (rowsB B) f) {k : Nat} (h0 : ∀ i, i < k → f i = 0) (h1 : ¬ cg p (f k) 0) : k ∈ B.map (·.1) := Classical.byContradiction fun hn => h1 (by
  refine cg_trans (hB.coef hf k) (sm_none k B fun b hb => ?_)
  have hk : b.1 ≠ k := fun e => hn (List.mem_map.mpr ⟨b, hb, e⟩)
  rcases Nat.lt_or_ge b.1 k with z | z
  · rw [h0 _ z]; exact cg_of (by simp)
  · rw [hB.low b hb k (by omega)]; exact cg_of (by simp))
theorem one_ne {p : Int} (hp : pr p) : ¬ cg p 1 0 := by
  rcases hp with rfl | rfl | rfl | rfl <;> decide
theorem Bas.sub (hp : pr p) (h : Bas p w B) (h' : Bas p w B') (hs : ∀ r ∈ rowsB B, Sp p (rowsB B') (co r)) : ∀ b ∈ B, b.1 ∈ B'.map (·.1) := fun b hb =>
  h'.lead (hs b.2 (List.mem_map.mpr ⟨b, hb, rfl⟩)) (h.low b hb) (by rw [h.one b hb]; exact one_ne hp)
theorem row_ext {l r : List Int} (hn : l.length = r.length) (h : ∀ i, co l i = co r i) : l = r := by
  refine List.ext_getElem hn fun i h1 h2 => ?_
  have := h i
  unfold co at this
  rwa [List.getD_eq_getElem?_getD, List.getD_eq_getElem?_getD, List.getElem?_eq_getElem h1, List.getElem?_eq_getElem h2] at this
theorem Bas.same (hp : pr p) (h : Bas p w B) (h' : Bas p w B') (hs : Same p (rowsB B) (rowsB B')) : ∀ b ∈ B, b ∈ B' := fun b hb => by
  obtain ⟨c, hc, e⟩ := List.mem_map.mp (h.sub hp h' hs.l b hb)
  have h1 : ∀ i, cg p (co b.2 i) (co c.2 i) := fun i => by
    refine cg_trans (h'.coef (hs.l b.2 (List.mem_map.mpr ⟨b, hb, rfl⟩)) i) (cg_of (sm_single i B' c h'.nd hc (by rw [e]; exact h.one b hb) fun d hd ne => ?_))
    obtain ⟨d', hd', e'⟩ := List.mem_map.mp (h'.sub hp h hs.r d hd)
    rw [← e']
    exact h.off b hb d' hd' (fun z => ne (by rw [← e', ← z, e]))
  have h2 : b.2 = c.2 := row_ext (by rw [(h.row b hb).n, (h'.row c hc).n]) (red_eq (h.row b hb).r (h'.row c hc).r h1)
  have : b = c := Prod.ext e.symm h2
  rw [this]; exact hc
def Asc (B : List (Nat × List Int)) : Prop := B.Pairwise (fun a b => a.1 < b.1)
theorem asc_ext : ∀ {l r : List (Nat × List Int)}, Asc l → Asc r → (∀ x, x ∈ l ↔ x ∈ r) → l = r
  | [], [], _, _, _ => rfl
  | [], b :: r, _, _, h => by have := (h b).mpr (by simp); cases this
  | a :: l, [], _, _, h => by have := (h a).mp (by simp); cases this
  | a :: l, b :: r, hl, hr, h => by
    unfold Asc at hl hr
    rw [List.pairwise_cons] at hl hr
    have e : a = b := by
      rcases List.mem_cons.mp ((h a).mp (by simp)) with q | q
      · exact q
      · rcases List.mem_cons.mp ((h b).mpr (by simp)) with q2 | q2
        · exact q2.symm
        · have := hr.1 a q; have := hl.1 b q2; omega
    subst e
    congr 1
    refine asc_ext hl.2 hr.2 fun x => ⟨fun hx => ?_, fun hx => ?_⟩
    · rcases List.mem_cons.mp ((h x).mp (by simp [hx])) with q | q
      · subst q; exact absurd (hl.1 _ hx) (Nat.lt_irrefl _)
      · exact q
    · rcases List.mem_cons.mp ((h x).mpr (by simp [hx])) with q | q
      · subst q; exact absurd (hr.1 _ hx) (Nat.lt_irrefl _)
      · exact q
/-- reduced bases, ascending -/
def IsB (p : Int) (w : Nat) (R : List (List Int)) : Prop := ∃ B, Bas p w B ∧ Asc B ∧ R = rowsB B
theorem IsB.uniq (hp : pr p) {R R' : List (List Int)} (h : IsB p w R) (h' : IsB p w R') (hs : Same p R R') : R = R' := by
  obtain ⟨B, h1, h2, rfl⟩ := h
  obtain ⟨B', h3, h4, rfl⟩ := h'
  rw [asc_ext h2 h4 fun x => ⟨h1.same hp h3 hs x, h3.same hp h1 hs.symm x⟩]
theorem asc_len : ∀ {B : List (Nat × List Int)} {k : Nat}, Asc B → (∀ b ∈ B, k ≤ b.1 ∧ b.1 < w) → B.length + k ≤ max k w
  | [], k, _, _ => by simp; omega
  | b :: B, k, h, hw => by
    unfold Asc at h
    rw [List.pairwise_cons] at h
    have h1 := hw b (by simp)
    have ih := asc_len (B := B) (k := b.1 + 1) h.2 (fun c hc => ⟨h.1 c hc, (hw c (by simp [hc])).2⟩)
    simp only [List.length_cons]
    omega
theorem IsB.len {R : List (List Int)} (h : IsB p w R) : R.length ≤ w := by
  obtain ⟨B, h1, h2, rfl⟩ := h
  have := asc_len (k := 0) h2 (fun b hb => ⟨Nat.zero_le _, h1.lt b hb⟩)
  simp at this ⊢
  omega
theorem IsB.row {R : List (List Int)} (h : IsB p w R) : ∀ r ∈ R, Row p w r := by
  obtain ⟨B, h1, h2, rfl⟩ := h
  intro r hr
  obtain ⟨b, hb, rfl⟩ := List.mem_map.mp hr
  exact h1.row b hb
end
end PM

set_option Elab.async false
set_option linter.all false
set_option maxRecDepth 100000
set_option maxHeartbeats 1000000
namespace DL
open PySem PySem.Spec L2
/-- the tables of code objects, with the names of those -/
class Tbs where
  T : List (Addr × Str)
  cls : Nat → Option (Addr × List Str)
  glo : Nat → Option Addr
  P : Program
  w : World
variable [Tbs]

/-! ### data -/
inductive D where
  | non | bl (b : Bool) | int (i : Int) | str (x : Str)
  | tup (xs : List D) | lst (xs : List D) | frl (xs : List D) | dic (kvs : List (Key × D)) | tdc (kvs : List (D × D)) | ref (n : Nat) | obj (v : V) | glo (n : Nat)
  deriving Inhabited
/-- keys that are tuples of ints, texts and such tuples -/
abbrev KT := PySem.NestedKey
mutual
def ktD : D → Option KT
  | .non => some .none
  | .bl b => some (.num (if b = true then 1 else 0))
  | .int n => some (.num n)
  | .str x => some (.text x)
  | .tup ds => (ktDs ds).map .tup
  | _ => none
def ktDs : List D → Option (List KT)
  | [] => some []
  | d :: ds => match ktD d, ktDs ds with
    | some k, some ks => some (k :: ks)
    | _, _ => none
end
/-- a dict with such keys: each with the address of its tuple and its value -/
def TDo (a : Addr) (es : List (KT × Addr × V)) : Heap → Prop := fun h => (a == sysModules) = false ∧ es.length ≤ sizeLine ∧ (∀ e ∈ es, e.1.depth ≤ 8) ∧ ∃ xs : List (KT × Addr × Value), Paired (fun p q => p.1 = q.1 ∧ p.2.1 = q.2.1 ∧ RelV p.2.2 q.2.2) es xs ∧
  ∃ o ds ep, h.get? a = some o ∧ o.ExactDict ∧ o.data = .dict ds ep ∧ ds.toList = xs.map (fun x => (⟨x.1.hash Tbs.w, .ref x.2.1, x.2.2⟩ : DictEntry)) ∧ (xs.map (·.1)).Nodup
theorem code_tdo {a c : Addr} {q : Str} {es : List (KT × Addr × V)} : HO.ext (TDo a es) ≠ LamX.CodeO c q := fun z => by
  unfold LamX.CodeO at z
  injection z with e
  have h0 := congrFun e ⟨Array.replicate (c + 1) { cls := .none, data := .fields #[.none, .str q 0] }, {}⟩
  have gt : ∀ (b : Addr) (o : Obj), Heap.get? ⟨Array.replicate (c + 1) { cls := .none, data := .fields #[.none, .str q 0] }, {}⟩ b = some o → o = { cls := .none, data := .fields #[.none, .str q 0] } := by
    intro b o h
    unfold Heap.get? at h
    simp only [Array.getElem?_replicate] at h
    by_cases hb : b < c + 1
    · rw [if_pos hb] at h
      exact (Option.some.inj h).symm
    · rw [if_neg hb] at h
      cases h
  have h1 : (∃ (oc : Obj) (vs : Array Value) (t : Tok), Heap.get? ⟨Array.replicate (c + 1) { cls := .none, data := .fields #[.none, .str q 0] }, {}⟩ c = some oc ∧ oc.data = .fields vs ∧ vs[1]? = some (.str q t)) := by
    refine ⟨{ cls := .none, data := .fields #[.none, .str q 0] }, #[.none, .str q 0], 0, ?_, rfl, rfl⟩
    unfold Heap.get?
    simp only [Array.getElem?_replicate]
    rw [if_pos (Nat.lt_succ_self c)]
  rw [← h0] at h1
  obtain ⟨_, _, _, xs, _, o, ds, ep, e1, _, e2, _⟩ := h1
  rw [gt _ _ e1] at e2
  cases e2
/-- an object that may be stored into -/
inductive LO where
  | lst (xs : List D) | dic (kvs : List (Key × D)) | tdc (kvs : List (D × D)) | ins (c : Nat) (fs : List D) | lck (o : LO)
abbrev LH := List LO
abbrev DEnv := List (Option D)
/-- the addresses of the objects that may be stored into; those of lists that are being made -/
structure Mu where
  m : List Addr
  x : List Addr
/-- a tuple that is read: its object known, without a dict of its own (and none of what is stored into), or of the module -/
def SqM (K : PySem.W.Frag) (m : List Addr) (H : Hp) (a : Addr) (xs : List V) : Prop :=
  (∃ o : Obj, H a = some (.frz o (.tup xs)) ∧ o.dict = none ∧ a ∉ m) ∨
    ∃ (o : Obj) (its : Array Value) (n : Nat), K.lookup a = some o ∧ o.cls = .type "tuple" ∧ o.dict = none ∧ o.data = .seq its n ∧ its.size ≤ sizeLine ∧ Vals xs its.toList
/-- a list that is read alone: tracked or locked (and none of what is stored into or being made), or of the module -/
def SqR (K : PySem.W.Frag) (M : Mu) (H : Hp) (a : Addr) (xs : List V) : Prop :=
  (Rd H a (.lst xs) ∧ a ∉ M.m ∧ a ∉ M.x) ∨
    ∃ (o : Obj) (its : Array Value) (n : Nat), K.lookup a = some o ∧ o.cls = .type "list" ∧ o.dict = none ∧ o.data = .seq its n ∧ its.size ≤ sizeLine ∧ Vals xs its.toList
mutual
def Rep (K : PySem.W.Frag) (M : Mu) (H : Hp) : D → V → Prop
  | .non, v => v = .non
  | .bl b, v => v = .bl b
  | .int i, v => v = .int i
  | .str x, v => v = .str x
  | .tup ds, v => ∃ a vs, v = .ref a ∧ SqM K M.m H a vs ∧ RepAll K M H ds vs
  | .lst ds, v => ∃ a vs, v = .ref a ∧ H a = some (.lst vs) ∧ a ∉ M.m ∧ a ∉ M.x ∧ RepAll K M H ds vs
  | .frl ds, v => ∃ a vs, v = .ref a ∧ SqR K M H a vs ∧ RepAll K M H ds vs
  | .dic ds, v => ∃ a kvs, v = .ref a ∧ Rd H a (.dK kvs) ∧ a ∉ M.m ∧ a ∉ M.x ∧ RepKV K M H ds kvs
  | .tdc ds, v => ∃ a es, v = .ref a ∧ Rd H a (.ext (TDo a es)) ∧ a ∉ M.m ∧ a ∉ M.x ∧ RepTK K M H ds es
  | .ref n, v => ∃ a, v = .ref a ∧ M.m[n]? = some a
  | .obj w, v => v = w
  | .glo n, v => ∃ a, Tbs.glo n = some a ∧ v = .ref a
def RepAll (K : PySem.W.Frag) (M : Mu) (H : Hp) : List D → List V → Prop
  | [], vs => vs = []
  | d :: ds, vs => ∃ v r, vs = v :: r ∧ Rep K M H d v ∧ RepAll K M H ds r
def RepKV (K : PySem.W.Frag) (M : Mu) (H : Hp) : List (Key × D) → List (Key × V) → Prop
  | [], vs => vs = []
  | kd :: ds, vs => ∃ v r, vs = (kd.1, v) :: r ∧ Rep K M H kd.2 v ∧ RepKV K M H ds r
def RepTK (K : PySem.W.Frag) (M : Mu) (H : Hp) : List (D × D) → List (KT × Addr × V) → Prop
  | [], es => es = []
  | kd :: ds, es => ∃ k b v r, es = (k, b, v) :: r ∧ ktD kd.1 = some k ∧ Rep K M H kd.1 (.ref b) ∧ Rep K M H kd.2 v ∧ RepTK K M H ds r
end
/-- something that is no table of code -/
def Liv (H : Hp) (a : Addr) : Prop := ∃ o, H a = some o ∧ ∀ ps, o ≠ .tbl ps
theorem Liv.ne {H : Hp} {a : Addr} (h : Liv H a) : H a ≠ none := by
  obtain ⟨o, e, _⟩ := h
  rw [e]; exact fun z => nomatch z
theorem Liv.of {H : Hp} {a : Addr} {o : HO} (e : H a = some o) (n : ∀ ps, o ≠ .tbl ps) : Liv H a := ⟨o, e, n⟩
theorem Liv.lst {H : Hp} {a : Addr} {xs : List V} (e : H a = some (.lst xs)) : Liv H a := ⟨_, e, fun _ z => nomatch z⟩
theorem Liv.frz {H : Hp} {a : Addr} {o : Obj} {u : HO} (e : H a = some (.frz o u)) : Liv H a := ⟨_, e, fun _ z => nomatch z⟩
theorem Liv.upd {H : Hp} {a b : Addr} {u : HO} (n : ∀ ps, u ≠ .tbl ps) (h : b ≠ a → Liv H b) : Liv (L2.upd H a u) b := by
  by_cases z : b = a
  · rw [z]; exact ⟨u, upd_same, n⟩
  · obtain ⟨o, e, m⟩ := h z
    exact ⟨o, (upd_ne z).trans e, m⟩
theorem tabS_upd {H : Hp} {a P : Addr} {q : Str} {u : HO} (t : LamX.TabS H P q) (h1 : ∀ ps, H a ≠ some (.tbl ps)) (h2 : ∀ c q, H a ≠ some (LamX.CodeO c q)) : LamX.TabS (L2.upd H a u) P q := by
  obtain ⟨ps, e, k, h⟩ := t
  refine ⟨ps, (upd_ne (fun z : P = a => h1 ps (by rw [← z]; exact e))).trans e, k, fun pos cv hc => ?_⟩
  obtain ⟨c, e1, e2⟩ := h pos cv hc
  exact ⟨c, e1, (upd_ne (fun z : c = a => h2 c q (by rw [← z]; exact e2))).trans e2⟩
theorem code_lst {c : Addr} {q : Str} (xs : List V) : LamX.CodeO c q ≠ .lst xs := fun z => by
  unfold LamX.CodeO at z
  cases z
theorem code_dK {c : Addr} {q : Str} (xs : List (Key × V)) : LamX.CodeO c q ≠ .dK xs := fun z => by
  unfold LamX.CodeO at z
  cases z
theorem code_frz {c : Addr} {q : Str} (o : Obj) (u : HO) : LamX.CodeO c q ≠ .frz o u := fun z => by
  unfold LamX.CodeO at z
  cases z
theorem tabS_lst {H : Hp} {a P : Addr} {q : Str} {u : HO} {xs : List V} (t : LamX.TabS H P q) (e : H a = some (.lst xs)) : LamX.TabS (L2.upd H a u) P q :=
  tabS_upd t (fun ps z => by rw [e] at z; cases z) (fun c q z => by rw [e] at z; exact code_lst _ (Option.some.inj z).symm)
theorem tabS_dK {H : Hp} {a P : Addr} {q : Str} {u : HO} {xs : List (Key × V)} (t : LamX.TabS H P q) (e : H a = some (.dK xs)) : LamX.TabS (L2.upd H a u) P q :=
  tabS_upd t (fun ps z => by rw [e] at z; cases z) (fun c q z => by rw [e] at z; exact code_dK _ (Option.some.inj z).symm)
theorem tabS_frz {H : Hp} {a P : Addr} {q : Str} {u w : HO} {o : Obj} (t : LamX.TabS H P q) (e : H a = some (.frz o w)) : LamX.TabS (L2.upd H a u) P q :=
  tabS_upd t (fun ps z => by rw [e] at z; cases z) (fun c q z => by rw [e] at z; exact code_frz _ _ (Option.some.inj z).symm)
theorem tabS_none {H : Hp} {a P : Addr} {q : Str} {u : HO} (t : LamX.TabS H P q) (e : H a = none) : LamX.TabS (L2.upd H a u) P q :=
  tabS_upd t (fun ps z => by rw [e] at z; cases z) (fun c q z => by rw [e] at z; cases z)
/-- from one heap to a later one: all that is tracked stays, but what may be stored into (and the tables of code); what may be stored into has grown by new objects -/
structure To (M : Mu) (H : Hp) (M' : Mu) (H' : Hp) : Prop where
  keep : ∀ b o, b ∉ M.m → H b = some o → (∀ ps, o ≠ .tbl ps) → H' b = some o
  live : ∀ b, Liv H b → Liv H' b
  tabs : ∀ p ∈ Tbs.T, LamX.TabS H p.1 p.2 → LamX.TabS H' p.1 p.2
  m : ∃ ex, M'.m = M.m ++ ex ∧ ∀ a ∈ ex, ¬ Liv H a
  x : ∃ ex, M'.x = ex ++ M.x ∧ ∀ a ∈ ex, ¬ Liv H a
  frz : ∀ b o u, H b = some (.frz o u) → H' b = some (.frz o u)
theorem To.refl {M : Mu} {H : Hp} : To M H M H := ⟨fun _ _ _ h _ => h, fun _ h => h, fun _ _ h => h, ⟨[], by simp, fun _ h => nomatch h⟩, ⟨[], by simp, fun _ h => nomatch h⟩, fun _ _ _ h => h⟩
theorem Rd.some' {H : Hp} {a : Addr} {u : HO} (h : Rd H a u) (ht : ∀ ps, u ≠ .tbl ps := by exact fun _ z => nomatch z) : Liv H a := by
  rcases h with h | ⟨o, h⟩
  · exact ⟨_, h, ht⟩
  · exact .frz h
section
variable {K : PySem.W.Frag} {M M' M1 M2 : Mu} {H H' H1 H2 : Hp}
theorem To.rd {a : Addr} {u : HO} (e : To M H M' H') (n : a ∉ M.m) (h : Rd H a u) (ht : ∀ ps, u ≠ .tbl ps) : Rd H' a u := by
  rcases h with h | ⟨o, h⟩
  · exact .inl (e.keep _ _ n h ht)
  · exact .inr ⟨o, e.keep _ _ n h (fun ps z => nomatch z)⟩
theorem To.nm (g : To M H M' H') {a : Addr} (h : Liv H a) (n : a ∉ M.m) : a ∉ M'.m := by
  obtain ⟨ex, e, f⟩ := g.m
  rw [e]
  intro q
  rcases List.mem_append.mp q with q | q
  · exact n q
  · exact f a q h
theorem To.nx (g : To M H M' H') {a : Addr} (h : Liv H a) (n : a ∉ M.x) : a ∉ M'.x := by
  obtain ⟨ex, e, f⟩ := g.x
  rw [e]
  intro q
  rcases List.mem_append.mp q with q | q
  · exact f a q h
  · exact n q
theorem To.get (g : To M H M' H') {n : Nat} {a : Addr} (h : M.m[n]? = Option.some a) : M'.m[n]? = Option.some a := by
  obtain ⟨ex, e, f⟩ := g.m
  rw [e, List.getElem?_append_left (List.getElem?_eq_some_iff.mp h).1]
  exact h
theorem To.trans (a : To M H M1 H1) (b : To M1 H1 M2 H2) : To M H M2 H2 := by
  refine ⟨fun c o n h t => b.keep c o (a.nm (.of h t) n) (a.keep c o n h t) t, fun c h => b.live c (a.live c h), fun p hp h => b.tabs p hp (a.tabs p hp h), ?_, ?_, fun c o u h => b.frz c o u (a.frz c o u h)⟩
  · obtain ⟨ex, e, f⟩ := a.m
    obtain ⟨ex2, e2, f2⟩ := b.m
    refine ⟨ex ++ ex2, by rw [e2, e, List.append_assoc], fun c hc => ?_⟩
    rcases List.mem_append.mp hc with q | q
    · exact f c q
    · exact fun z => f2 c q (a.live c z)
  · obtain ⟨ey, e3, f3⟩ := a.x
    obtain ⟨ey2, e4, f4⟩ := b.x
    refine ⟨ey2 ++ ey, by rw [e4, e3, List.append_assoc], fun c hc => ?_⟩
    rcases List.mem_append.mp hc with q | q
    · exact fun z => f4 c q (a.live c z)
    · exact f3 c q
theorem SqM.mono {a : Addr} {xs : List V} (e : To M H M' H') (h : SqM K M.m H a xs) : SqM K M'.m H' a xs := by
  rcases h with ⟨o, h, d, n⟩ | h
  · exact .inl ⟨o, e.keep _ _ n h (fun ps z => nomatch z), d, e.nm (.frz h) n⟩
  · exact .inr h
theorem SqR.l {K : PySem.W.Frag} {M : Mu} {H : Hp} {a : Addr} {vs : List V} (h : SqR K M H a vs) : SqL K H a vs := by
  rcases h with ⟨h, _⟩ | h
  · exact .inl h
  · exact .inr h
theorem SqR.mono {a : Addr} {xs : List V} (e : To M H M' H') (h : SqR K M H a xs) : SqR K M' H' a xs := by
  rcases h with ⟨h, n, n2⟩ | h
  · exact .inl ⟨e.rd n h (fun ps z => nomatch z), e.nm (Rd.some' h) n, e.nx (Rd.some' h) n2⟩
  · exact .inr h
mutual
theorem Rep.mono (e : To M H M' H') : ∀ (d : D) (v : V), Rep K M H d v → Rep K M' H' d v
  | .non, _, h => h
  | .bl _, _, h => h
  | .int _, _, h => h
  | .str _, _, h => h
  | .tup ds, _, ⟨a, vs, e1, h, r⟩ => ⟨a, vs, e1, h.mono e, RepAll.mono e ds vs r⟩
  | .lst ds, _, ⟨a, vs, e1, h, n, n2, r⟩ => ⟨a, vs, e1, e.keep a _ n h (fun ps z => nomatch z), e.nm (.lst h) n, e.nx (.lst h) n2, RepAll.mono e ds vs r⟩
  | .frl ds, _, ⟨a, vs, e1, h, r⟩ => ⟨a, vs, e1, h.mono e, RepAll.mono e ds vs r⟩
  | .dic ds, _, ⟨a, vs, e1, h, n, n2, r⟩ => ⟨a, vs, e1, e.rd n h (fun ps z => nomatch z), e.nm (Rd.some' h) n, e.nx (Rd.some' h) n2, RepKV.mono e ds vs r⟩
  | .tdc ds, _, ⟨a, es, e1, h, n, n2, r⟩ => ⟨a, es, e1, e.rd n h (fun ps z => nomatch z), e.nm (Rd.some' h) n, e.nx (Rd.some' h) n2, RepTK.mono e ds es r⟩
  | .ref _, _, ⟨a, e1, h⟩ => ⟨a, e1, e.get h⟩
  | .obj _, _, h => h
  | .glo _, _, h => h
theorem RepAll.mono (e : To M H M' H') : ∀ (ds : List D) (vs : List V), RepAll K M H ds vs → RepAll K M' H' ds vs
  | [], _, h => h
  | d :: ds, _, ⟨v, r, e1, h, t⟩ => ⟨v, r, e1, Rep.mono e d v h, RepAll.mono e ds r t⟩
theorem RepKV.mono (e : To M H M' H') : ∀ (ds : List (Key × D)) (vs : List (Key × V)), RepKV K M H ds vs → RepKV K M' H' ds vs
  | [], _, h => h
  | kd :: ds, _, ⟨v, r, e1, h, t⟩ => ⟨v, r, e1, Rep.mono e kd.2 v h, RepKV.mono e ds r t⟩
theorem RepTK.mono (e : To M H M' H') : ∀ (ds : List (D × D)) (es : List (KT × Addr × V)), RepTK K M H ds es → RepTK K M' H' ds es
  | [], _, h => h
  | kd :: ds, _, ⟨k, b, v, r, e1, hk, h1, h, t⟩ => ⟨k, b, v, r, e1, hk, Rep.mono e kd.1 _ h1, Rep.mono e kd.2 v h, RepTK.mono e ds r t⟩
end
end
/-! ### the heap of what may be stored into -/
/-- what of H an object shows, from what it holds -/
def RepU (K : PySem.W.Frag) (M : Mu) (H : Hp) (a : Addr) : LO → HO → Prop
  | .lst ds, u => ∃ vs, u = .lst vs ∧ RepAll K M H ds vs
  | .dic ds, u => ∃ vs, u = .dK vs ∧ RepKV K M H ds vs
  | .tdc ds, u => ∃ es, u = .ext (TDo a es) ∧ RepTK K M H ds es
  | .lck o, w => ∃ ob u, w = .frz ob u ∧ RepU K M H a o u
  | .ins c ds, u => ∃ C names dx us, Tbs.cls c = some (C, names) ∧ ds.length ≤ names.length ∧ u = .ins C dx ((names.take ds.length).zip us) ∧ RepAll K M H ds us
def RepO (K : PySem.W.Frag) (M : Mu) (H : Hp) (a : Addr) (o : LO) : Prop := ∃ u, H a = some u ∧ RepU K M H a o u
theorem RepU.nt {K : PySem.W.Frag} {M : Mu} {H : Hp} {a : Addr} : ∀ {o : LO} {u : HO}, RepU K M H a o u → (∀ ps, u ≠ .tbl ps) ∧ (∀ c q, u ≠ LamX.CodeO c q)
  | .lst _, _, ⟨_, e, _⟩ => by rw [e]; exact ⟨(fun _ z => nomatch z), fun c q z => by unfold LamX.CodeO at z; cases z⟩
  | .dic _, _, ⟨_, e, _⟩ => by rw [e]; exact ⟨(fun _ z => nomatch z), fun c q z => by unfold LamX.CodeO at z; cases z⟩
  | .tdc _, _, ⟨_, e, _⟩ => by rw [e]; exact ⟨(fun _ z => nomatch z), fun c q => code_tdo⟩
  | .lck _, _, ⟨_, _, e, _⟩ => by rw [e]; exact ⟨(fun _ z => nomatch z), fun c q z => code_frz _ _ z.symm⟩
  | .ins _ _, _, ⟨_, _, _, _, _, _, e, _⟩ => by rw [e]; exact ⟨(fun _ z => nomatch z), fun c q z => by unfold LamX.CodeO at z; cases z⟩
theorem RepU.nfz {K : PySem.W.Frag} {M : Mu} {H : Hp} {a : Addr} : ∀ {o : LO} {u : HO}, RepU K M H a o u → (∀ o', o ≠ .lck o') → ∀ ob w, u ≠ .frz ob w
  | .lst _, _, ⟨_, e, _⟩, _ => by rw [e]; exact fun _ _ z => nomatch z
  | .dic _, _, ⟨_, e, _⟩, _ => by rw [e]; exact fun _ _ z => nomatch z
  | .tdc _, _, ⟨_, e, _⟩, _ => by rw [e]; exact fun _ _ z => nomatch z
  | .lck o, _, _, h => absurd rfl (h o)
  | .ins _ _, _, ⟨_, _, _, _, _, _, e, _⟩, _ => by rw [e]; exact fun _ _ z => nomatch z
theorem RepU.mono {K : PySem.W.Frag} {M M' : Mu} {H H' : Hp} {a : Addr} (x : To M H M' H') : ∀ {o : LO} {u : HO}, RepU K M H a o u → RepU K M' H' a o u
  | .lst ds, _, ⟨vs, e, r⟩ => ⟨vs, e, r.mono x⟩
  | .dic ds, _, ⟨vs, e, r⟩ => ⟨vs, e, RepKV.mono x _ _ r⟩
  | .tdc ds, _, ⟨vs, e, r⟩ => ⟨vs, e, RepTK.mono x _ _ r⟩
  | .lck o, _, ⟨ob, u, e, r⟩ => ⟨ob, u, e, RepU.mono x r⟩
  | .ins c ds, _, ⟨C, n, dx, us, e, h, h2, r⟩ => ⟨C, n, dx, us, e, h, h2, r.mono x⟩
structure Sim (K : PySem.W.Frag) (M : Mu) (H : Hp) (L : LH) : Prop where
  len : M.m.length = L.length
  nod : M.m.Nodup
  at_ : ∀ (n : Nat) (a : Addr) (o : LO), M.m[n]? = some a → L[n]? = some o → RepO K M H a o
  xs : ∀ a ∈ M.x, Liv H a
  tb : ∀ p ∈ Tbs.T, LamX.TabS H p.1 p.2
theorem RepO.some' {K : PySem.W.Frag} {M : Mu} {H : Hp} {a : Addr} {o : LO} (h : RepO K M H a o) : H a ≠ none := by
  obtain ⟨u, e, _⟩ := h
  rw [e]; exact fun z => nomatch z
theorem Sim.mo {K : PySem.W.Frag} {M : Mu} {H : Hp} {L : LH} (s : Sim K M H L) : ∀ a ∈ M.m, ∃ (n : Nat) (o : LO) (u : HO), M.m[n]? = some a ∧ L[n]? = some o ∧ H a = some u ∧ RepU K M H a o u := fun a ha => by
  obtain ⟨n, hn, e⟩ := List.getElem_of_mem ha
  have hl : n < L.length := by rw [← s.len]; exact hn
  have e1 : M.m[n]? = some a := by rw [List.getElem?_eq_getElem hn, e]
  obtain ⟨u, e2, r⟩ := s.at_ n a L[n] e1 (List.getElem?_eq_getElem hl)
  exact ⟨n, _, u, e1, List.getElem?_eq_getElem hl, e2, r⟩
theorem Sim.ms {K : PySem.W.Frag} {M : Mu} {H : Hp} {L : LH} (s : Sim K M H L) : ∀ a ∈ M.m, H a ≠ none := fun a ha => by
  obtain ⟨_, _, u, _, _, e, _⟩ := s.mo a ha
  rw [e]; exact fun z => nomatch z
/-- a new object that is not stored into -/
theorem To.new {M : Mu} {H : Hp} {p : Addr} {o : HO} (h : H p = none) : To M H M (upd H p o) := ⟨fun b u _ e _ => by
  rw [upd_ne (ne_of_none e h)]; exact e, fun b e => by
  have z : b ≠ p := fun z => e.ne (by rw [z]; exact h)
  obtain ⟨u, q, n⟩ := e
  exact ⟨u, (upd_ne z).trans q, n⟩, fun q _ t => tabS_none t h, To.refl.m, To.refl.x, fun b ob u e => by rw [upd_ne (ne_of_none e h)]; exact e⟩
theorem RepO.keep {K : PySem.W.Frag} {M M' : Mu} {H H' : Hp} {a : Addr} (e : To M H M' H') (ha : H' a = H a) {o : LO} : RepO K M H a o → RepO K M' H' a o
  | ⟨u, q, r⟩ => ⟨u, ha.trans q, r.mono e⟩
theorem Sim.new {K : PySem.W.Frag} {M : Mu} {H : Hp} {L : LH} {p : Addr} {o : HO} (s : Sim K M H L) (h : H p = none) : Sim K M (upd H p o) L where
  len := s.len
  nod := s.nod
  at_ := fun n a u e1 e2 => (s.at_ n a u e1 e2).keep (To.new h) (upd_ne (fun z => by
    have q := s.ms a (List.mem_of_getElem? e1)
    rw [z] at q; exact q h))
  xs := fun a ha => (To.new (M := M) h).live a (s.xs a ha)
  tb := fun q hq => tabS_none (s.tb q hq) h
/-! ### results -/
structure Exn where
  cls : Nat
  val : Option D
/-- the field of the classes of errors that keep one -/
def efN : Nat → Str
  | 100 => "reason"
  | 101 => "given"
  | 102 => "most"
  | _ => ""
inductive R (α : Type) where
  | ok (a : α) (L : LH) | exc (e : Exn) (L : LH) | no
/-- how an exception is borne -/
def XR (K : PySem.W.Frag) (ct : Nat → Option Addr) (M : Mu) (e : Exn) (cls : Value) (dd : Option Addr) (H : Hp) : Prop :=
  ∃ C, ct e.cls = some C ∧ cls = .ref C ∧ match e.val with
    | none => True
    | some d => ∃ a v, dd = some a ∧ H a = some (.xd [(efN e.cls, v)]) ∧ a ∉ M.m ∧ Rep K M H d v
/-- the slots -/
def EnvR (K : PySem.W.Frag) (M : Mu) (H : Hp) (env : DEnv) (σ : St) : Prop := σ.length = env.length ∧ ∀ (i : Nat) (d : D), env[i]? = some (some d) → ∃ v, σ[i]? = some (some v) ∧ Rep K M H d v
theorem EnvR.mono {K : PySem.W.Frag} {M M' : Mu} {H H' : Hp} {env : DEnv} {σ : St} (e : To M H M' H') (h : EnvR K M H env σ) : EnvR K M' H' env σ :=
  ⟨h.1, fun i d q => let ⟨v, e1, r⟩ := h.2 i d q; ⟨v, e1, r.mono e⟩⟩
theorem EnvR.set {K : PySem.W.Frag} {M : Mu} {H : Hp} {env : DEnv} {σ : St} {i : Nat} {d : D} {v : V} (h : EnvR K M H env σ) (r : Rep K M H d v) : EnvR K M H (env.set i (some d)) (σ.set i (some v)) := by
  refine ⟨by simp [h.1], fun j d' q => ?_⟩
  by_cases e : i = j
  · subst e
    by_cases hl : i < env.length
    · rw [List.getElem?_set_self hl] at q
      have q' : d = d' := by simpa using q
      subst q'
      exact ⟨v, by rw [List.getElem?_set_self (by rw [h.1]; exact hl)], r⟩
    · rw [List.set_eq_of_length_le (by omega)] at q
      have := (List.getElem?_eq_some_iff.mp q).1
      omega
  · rw [List.getElem?_set_ne e] at q
    obtain ⟨v', e1, r'⟩ := h.2 j d' q
    exact ⟨v', by rw [List.getElem?_set_ne e]; exact e1, r'⟩
/-- K and the classes of errors -/
structure Sg where
  K : PySem.W.Frag
  ct : Nat → Option Addr
variable {S : Sg}
abbrev WH := Value → Option Addr → Hp → Prop
/-- what a result must lead to: P of the value, the heap of what may be stored into, the abstract heap -/
def PostG {α : Type} (S : Sg) (w : WH) (M : Mu) (H : Hp) (P : α → LH → Mu → Hp → Prop) : R α → Prop
  | .ok a L => ∀ H' M', To M H M' H' → Sim S.K M' H' L → P a L M' H'
  | .exc e L => ∀ cls dd H' M', To M H M' H' → Sim S.K M' H' L → XR S.K S.ct M' e cls dd H' → w cls dd H'
  | .no => False
def R.bind {α β : Type} : R α → (α → LH → R β) → R β
  | .ok a L, k => k a L
  | .exc e L, _ => .exc e L
  | .no, _ => .no
def PV (S : Sg) (Q : VK) (d : D) (_ : LH) (M' : Mu) (H' : Hp) : Prop := ∀ v, Rep S.K M' H' d v → Q v H'
def PVA (S : Sg) (Q : List V → Hp → Prop) (d : List D) (_ : LH) (M' : Mu) (H' : Hp) : Prop := ∀ v, RepAll S.K M' H' d v → Q v H'
theorem PostG.ext {α : Type} {w : WH} {M M1 : Mu} {H H1 : Hp} {P : α → LH → Mu → Hp → Prop} (x1 : To M H M1 H1) : ∀ {r : R α}, PostG S w M H P r → PostG S w M1 H1 P r
  | .ok _ _, q => fun H2 M2 x2 s2 => q H2 M2 (x1.trans x2) s2
  | .exc _ _, q => fun c dd H2 M2 x2 s2 r2 => q c dd H2 M2 (x1.trans x2) s2 r2
  | .no, q => q
theorem PostG.imp {α : Type} {w : WH} {M : Mu} {H : Hp} {P P' : α → LH → Mu → Hp → Prop} (i : ∀ a L M' H', To M H M' H' → Sim S.K M' H' L → P a L M' H' → P' a L M' H') : ∀ {r : R α}, PostG S w M H P r → PostG S w M H P' r
  | .ok _ _, q => fun H2 M2 x2 s2 => i _ _ M2 H2 x2 s2 (q H2 M2 x2 s2)
  | .exc _ _, q => q
  | .no, q => q
theorem PostG.bind {α β : Type} {w : WH} {M : Mu} {H : Hp} {P : β → LH → Mu → Hp → Prop} {k : α → LH → R β} : ∀ {r : R α}, PostG S w M H P (r.bind k) → PostG S w M H (fun a L1 M1 H1 => PostG S w M1 H1 P (k a L1)) r
  | .ok _ _, q => fun H2 M2 x2 s2 => PostG.ext x2 q
  | .exc _ _, q => q
  | .no, q => q
/-- one, then the next -/
theorem PostG.seq {α β : Type} {w : WH} {M : Mu} {H : Hp} {P : β → LH → Mu → Hp → Prop} {P' : α → LH → Mu → Hp → Prop} {k : α → LH → R β} {r : R α} (h : PostG S w M H P (r.bind k))
    (i : ∀ a L1 M1 H1, To M H M1 H1 → Sim S.K M1 H1 L1 → PostG S w M1 H1 P (k a L1) → P' a L1 M1 H1) : PostG S w M H P' r := h.bind.imp i
abbrev DE := DEnv → LH → R D
abbrev DA := DEnv → LH → R (List D)
/-- the reading of an expression that gives what f tells -/
def tD (S : Sg) (W : St → WH) (f : DE) : TE := fun σ H Q => ∃ env L M, EnvR S.K M H env σ ∧ Sim S.K M H L ∧ PostG S (W σ) M H (PV S Q) (f env L)
def tDA (S : Sg) (W : St → WH) (f : DA) : TA := fun σ H Q => ∃ env L M, EnvR S.K M H env σ ∧ Sim S.K M H L ∧ PostG S (W σ) M H (PVA S Q) (f env L)
/-- weaken the reading -/
theorem pe_imp {X : Cx} {e : Expr} {t t' : TE} (h : PE X e t) (i : ∀ σ H Q, t' σ H Q → t σ H Q) : PE X e t' := ⟨fun pins s σ H Q I q => h.run pins s σ H Q I (i σ H Q q)⟩
theorem pa_imp {X : Cx} {e : List Expr} {t t' : TA} (h : PA X e t) (i : ∀ σ H Q, t' σ H Q → t σ H Q) : PA X e t' := ⟨fun p pins s σ H Q I q => h.run p pins s σ H Q I (i σ H Q q)⟩
theorem pt_imp {X : Cx} {e : Expr} {t t' : TT} (h : PT X e t) (i : ∀ σ H Q, t' σ H Q → t σ H Q) : PT X e t' := ⟨fun pins s σ H Q I q => h.run pins s σ H Q I (i σ H Q q)⟩
theorem ps_imp {X : Cx} {e : Stmt} {t t' : TS} (h : PS X e t) (i : ∀ D σ H, t' D σ H → t D σ H) : PS X e t' := ⟨fun pins s σ H D I q => h.run pins s σ H D I (i D σ H q)⟩
theorem pss_imp {X : Cx} {e : List Stmt} {t t' : TS} (h : PSs X e t) (i : ∀ D σ H, t' D σ H → t D σ H) : PSs X e t' := ⟨fun pins s σ H D I q => h.run pins s σ H D I (i D σ H q)⟩
end DL

set_option Elab.async false
set_option linter.all false
set_option maxRecDepth 100000
set_option maxHeartbeats 1000000
namespace DL
open PySem PySem.Spec L2
variable [Tbs]
variable {S : Sg} {X : Cx} {W : St → WH}

/-! ### the functions -/
def dVar (i : Nat) : DE := fun env L => match env[i]? with
  | some (some d) => .ok d L
  | _ => .no
def dC (d : D) : DE := fun _ L => .ok d L
/-- two values, then a function of both -/
def d2 (k : D → D → LH → R D) (f g : DE) : DE := fun env L => (f env L).bind fun a L1 => (g env L1).bind fun b L2 => k a b L2
def d1 (k : D → LH → R D) (f : DE) : DE := fun env L => (f env L).bind k
def orNo : Option D → LH → R D
  | some d, L => .ok d L
  | none, _ => .no
def daNil : DA := fun _ L => .ok [] L
def daCons (f : DE) (g : DA) : DA := fun env L => (f env L).bind fun a L1 => (g env L1).bind fun b L2 => .ok (a :: b) L2
/-- the arguments, then a function of them -/
def dL (k : List D → LH → R D) (g : DA) : DE := fun env L => (g env L).bind k

/-! ### names and constants -/
theorem de_var {i : Nat} {e : Expr} (h : PE X e (tVar i)) : PE X e (tD S W (dVar i)) := pe_imp h fun σ H Q ⟨env, L, M, he, hs, hp⟩ => by
  unfold dVar at hp
  split at hp
  · rename_i d e
    obtain ⟨v, e1, r⟩ := he.2 i d e
    exact ⟨v, e1, hp H M To.refl hs v r⟩
  · exact hp.elim
theorem de_c {d : D} {v : V} {e : Expr} (h : PE X e (tC v)) (r : ∀ M H, Rep S.K M H d v) : PE X e (tD S W (dC d)) := pe_imp h fun σ H Q ⟨env, L, M, he, hs, hp⟩ => hp H M To.refl hs v (r M H)
theorem de_int {i : Int} {j pos} : PE X (.Constant (.int i) j pos) (tD S W (dC (.int i))) := de_c pe_int fun _ _ => rfl
theorem de_bl {b : Bool} {j pos} : PE X (.Constant (.bool b) j pos) (tD S W (dC (.bl b))) := de_c pe_bl fun _ _ => rfl
theorem de_non {j pos} : PE X (.Constant .none j pos) (tD S W (dC .non)) := de_c pe_non fun _ _ => rfl
theorem de_str {x : Str} {j pos} : PE X (.Constant (.str x) j pos) (tD S W (dC (.str x))) := de_c pe_str fun _ _ => rfl

/-! ### two values, an operator -/
/-- a rule r of two values does what k tells -/
def Does2 (S : Sg) (r : R2) (k : D → D → LH → R D) : Prop := ∀ (M : Mu) (H : Hp) (L : LH) (a b : D) (x y : V) (Q : VK) (w : WH), Sim S.K M H L → Rep S.K M H a x → Rep S.K M H b y → PostG S w M H (PV S Q) (k a b L) → r x y H Q
def Does1 (S : Sg) (r : V → Hp → VK → Prop) (k : D → LH → R D) : Prop := ∀ (M : Mu) (H : Hp) (L : LH) (a : D) (x : V) (Q : VK) (w : WH), Sim S.K M H L → Rep S.K M H a x → PostG S w M H (PV S Q) (k a L) → r x H Q
def DoesL (S : Sg) (r : List V → Hp → VK → Prop) (k : List D → LH → R D) : Prop := ∀ (M : Mu) (H : Hp) (L : LH) (a : List D) (x : List V) (Q : VK) (w : WH), Sim S.K M H L → RepAll S.K M H a x → PostG S w M H (PV S Q) (k a L) → r x H Q
theorem tD2 {f g : DE} {k : D → D → LH → R D} {r : R2} (hk : Does2 S r k) (σ : St) (H : Hp) (Q : VK) : tD S W (d2 k f g) σ H Q → tOp r (tD S W f) (tD S W g) σ H Q := by
  rintro ⟨env, L, M, he, hs, hp⟩
  refine ⟨env, L, M, he, hs, PostG.seq hp fun a L1 M1 H1 x1 s1 q v ra => ⟨env, L1, M1, he.mono x1, s1, PostG.seq q fun b L2 M2 H2 x2 s2 q2 y rb => ?_⟩⟩
  exact hk M2 H2 L2 a b v y Q _ s2 (ra.mono x2) rb q2
theorem tD1 {f : DE} {k : D → LH → R D} {r : V → Hp → VK → Prop} (hk : Does1 S r k) (σ : St) (H : Hp) (Q : VK) : tD S W (d1 k f) σ H Q → tUn r (tD S W f) σ H Q := by
  rintro ⟨env, L, M, he, hs, hp⟩
  refine ⟨env, L, M, he, hs, PostG.seq hp fun a L1 M1 H1 x1 s1 q v ra => ?_⟩
  exact hk M1 H1 L1 a v Q _ s1 ra q
theorem tDL {g : DA} {k : List D → LH → R D} {r : List V → Hp → VK → Prop} (hk : DoesL S r k) (σ : St) (H : Hp) (Q : VK) : tD S W (dL k g) σ H Q → tCB r (tDA S W g) σ H Q := by
  rintro ⟨env, L, M, he, hs, hp⟩
  refine ⟨env, L, M, he, hs, PostG.seq hp fun a L1 M1 H1 x1 s1 q v ra => ?_⟩
  exact hk M1 H1 L1 a v Q _ s1 ra q
theorem da_nil : PA X [] (tDA S W daNil) := pa_imp pa_nil fun σ H Q ⟨env, L, M, he, hs, hp⟩ => hp H M To.refl hs [] rfl
theorem da_cons {e : Expr} {es : List Expr} {f : DE} {g : DA} (hf : PE X e (tD S W f)) (hg : PA X es (tDA S W g)) (h : PA X es (tDA S W g) → PE X e (tD S W f) → PA X (e :: es) (tCons (tD S W f) (tDA S W g))) : PA X (e :: es) (tDA S W (daCons f g)) := pa_imp (h hg hf) fun σ H Q => by
  rintro ⟨env, L, M, he, hs, hp⟩
  refine ⟨env, L, M, he, hs, PostG.seq hp fun a L1 M1 H1 x1 s1 q v ra => ⟨env, L1, M1, he.mono x1, s1, PostG.seq q fun b L2 M2 H2 x2 s2 q2 y rb => ?_⟩⟩
  exact q2 H2 M2 To.refl s2 _ ⟨v, y, rfl, ra.mono x2, rb⟩
theorem de_op {a b : Expr} {op : Operator} {f g : DE} {k : D → D → LH → R D} {r : R2} {pos : Pos} (ho : OpR X (binaryOp op) r) (hk : Does2 S r k) (ha : PE X a (tD S W f)) (hb : PE X b (tD S W g)) : PE X (.BinOp a op b pos) (tD S W (d2 k f g)) := pe_imp (pe_op ho ha hb) (tD2 hk)
theorem de_cmp {a b : Expr} {op : CmpOp} {f g : DE} {k : D → D → LH → R D} {r : R2} {pos : Pos} (ho : OpR X (compareOp op) r) (hk : Does2 S r k) (ha : PE X a (tD S W f)) (hb : PE X b (tD S W g)) (hm : behindInMarks op b = false) : PE X (.Compare a [op] [b] pos) (tD S W (d2 k f g)) := pe_imp (pe_cmpR ho ha hb hm) (tD2 hk)
/-! ### ints -/
def k2I (p : Int → Int → Option D) : D → D → LH → R D := fun a b L => match a, b with
  | .int i, .int j => orNo (p i j) L
  | _, _ => .no
theorem does_int {C : Int → Int → Prop} {g : Int → Int → V} {p : Int → Int → Option D} (h : ∀ i j d, p i j = some d → C i j ∧ ∀ M H, Rep S.K M H d (g i j)) : Does2 S (rI C g) (k2I p) := by
  intro M H L a b x y Q w hs ra rb hp
  unfold k2I at hp
  split at hp
  · rename_i i j
    cases e : p i j with
    | none => rw [e] at hp; exact hp.elim
    | some d =>
      rw [e] at hp
      obtain ⟨c, r⟩ := h i j d e
      exact ⟨i, j, ra, rb, c, hp H M To.refl hs _ (r M H)⟩
  · exact hp.elim
theorem does_int0 {g : Int → Int → V} {p : Int → Int → D} (h : ∀ i j M H, Rep S.K M H (p i j) (g i j)) : Does2 S (rI0 g) (k2I fun i j => some (p i j)) := by
  intro M H L a b x y Q w hs ra rb hp
  unfold k2I at hp
  split at hp
  · rename_i i j
    exact ⟨i, j, ra, rb, hp H M To.refl hs _ (h i j M H)⟩
  · exact hp.elim
def kAdd := k2I fun i j => some (.int (i + j))
def kSub := k2I fun i j => some (.int (i - j))
def small64 (i : Int) : Bool := decide (-(2 ^ 64) < i ∧ i < 2 ^ 64)
def kMul := k2I fun i j => if small64 i || small64 j then some (.int (i * j)) else none
def kMod := k2I fun i j => if 0 < j then some (.int (i % j)) else none
def kDiv := k2I fun i j => if 0 < j ∧ j < 1073741824 then some (.int (i / j)) else none
def kLt := k2I fun i j => some (.bl (decide (i < j)))
def kLe := k2I fun i j => some (.bl (decide (i ≤ j)))
def kGt := k2I fun i j => some (.bl (decide (j < i)))
def kGe := k2I fun i j => some (.bl (decide (j ≤ i)))
theorem does_add : Does2 S (rI0 fun i j => .int (i + j)) kAdd := does_int0 fun _ _ _ _ => rfl
theorem does_sub : Does2 S (rI0 fun i j => .int (i - j)) kSub := does_int0 fun _ _ _ _ => rfl
theorem does_lt : Does2 S (rI0 fun i j => .bl (decide (i < j))) kLt := does_int0 fun _ _ _ _ => rfl
theorem does_le : Does2 S (rI0 fun i j => .bl (decide (i ≤ j))) kLe := does_int0 fun _ _ _ _ => rfl
theorem does_gt : Does2 S (rI0 fun i j => .bl (decide (j < i))) kGt := does_int0 fun _ _ _ _ => rfl
theorem does_ge : Does2 S (rI0 fun i j => .bl (decide (j ≤ i))) kGe := does_int0 fun _ _ _ _ => rfl
theorem does_mul : Does2 S (rI CMul fun i j => .int (i * j)) kMul := does_int fun i j d h => by
  by_cases e : (small64 i || small64 j) = true
  · rw [if_pos e] at h
    have h' : d = .int (i * j) := by simpa using h.symm
    subst h'
    refine ⟨?_, fun _ _ => rfl⟩
    rw [Bool.or_eq_true] at e
    exact e.imp (fun q => of_decide_eq_true q) (fun q => of_decide_eq_true q)
  · rw [if_neg e] at h; cases h
theorem does_mod : Does2 S (rI (fun _ j => 0 < j) fun i j => .int (i % j)) kMod := does_int fun i j d h => by
  by_cases e : 0 < j
  · rw [if_pos e] at h
    have h' : d = .int (i % j) := by simpa using h.symm
    subst h'
    exact ⟨e, fun _ _ => rfl⟩
  · rw [if_neg e] at h; cases h
theorem does_div : Does2 S (rI CDiv fun i j => .int (i / j)) kDiv := does_int fun i j d h => by
  by_cases e : 0 < j ∧ j < 1073741824
  · rw [if_pos e] at h
    have h' : d = .int (i / j) := by simpa using h.symm
    subst h'
    exact ⟨e, fun _ _ => rfl⟩
  · rw [if_neg e] at h; cases h
end DL

set_option Elab.async false
set_option linter.all false
set_option maxRecDepth 100000
set_option maxHeartbeats 1000000
namespace DL
open PySem PySem.Spec L2
variable [Tbs]
variable {S : Sg} {X : Cx} {W : St → WH}
/-! ### lists and tuples read -/
/-- the items of a list (false) or a tuple (true) -/
def seqD (L : LH) : D → Option (Bool × List D)
  | .tup ds => some (true, ds)
  | .lst ds => some (false, ds)
  | .frl ds => some (false, ds)
  | .ref n => match L[n]? with
    | some (.lst ds) => some (false, ds)
    | _ => none
  | _ => none
def SqB (K : PySem.W.Frag) (H : Hp) (b : Bool) (a : Addr) (vs : List V) : Prop := if b = true then SqT K H a vs else SqL K H a vs
theorem SqM.t {K : PySem.W.Frag} {m : List Addr} {H : Hp} {a : Addr} {vs : List V} (h : SqM K m H a vs) : SqT K H a vs := by
  rcases h with ⟨o, h, _, _⟩ | ⟨o, its, n, h1, h2, _, h3, h4, h5⟩
  · exact .inl (.inr ⟨o, h⟩)
  · exact .inr ⟨o, its, n, h1, h2, h3, h4, h5⟩
theorem seqD_ok {M : Mu} {H : Hp} {L : LH} (s : Sim S.K M H L) : ∀ {d : D} {v : V} {b : Bool} {ds : List D}, Rep S.K M H d v → seqD L d = some (b, ds) → ∃ a vs, v = .ref a ∧ SqB S.K H b a vs ∧ RepAll S.K M H ds vs := by
  intro d v b ds r e
  cases d with
  | tup xs =>
    have e' : (true, xs) = (b, ds) := Option.some.inj e
    cases e'
    obtain ⟨a, vs, e1, h, q⟩ := r
    exact ⟨a, vs, e1, h.t, q⟩
  | lst xs =>
    have e' : (false, xs) = (b, ds) := Option.some.inj e
    cases e'
    obtain ⟨a, vs, e1, h, _, _, q⟩ := r
    exact ⟨a, vs, e1, .inl (.inl h), q⟩
  | frl xs =>
    have e' : (false, xs) = (b, ds) := Option.some.inj e
    cases e'
    obtain ⟨a, vs, e1, h, q⟩ := r
    exact ⟨a, vs, e1, h.l, q⟩
  | ref n =>
    obtain ⟨a, e1, hm⟩ := r
    have e0 : (match L[n]? with | some (.lst ds) => some (false, ds) | _ => none) = some (b, ds) := e
    cases hl : L[n]? with
    | none => rw [hl] at e0; cases e0
    | some o =>
      rw [hl] at e0
      cases o with
      | lst xs =>
        have e' : (false, xs) = (b, ds) := Option.some.inj e0
        cases e'
        obtain ⟨_, h, vs, rfl, q⟩ := s.at_ n a _ hm hl
        exact ⟨a, vs, e1, .inl (.inl h), q⟩
      | dic _ => cases e0
      | tdc _ => cases e0
      | lck _ => cases e0
      | ins _ _ => cases e0
  | non => cases e
  | bl _ => cases e
  | int _ => cases e
  | str _ => cases e
  | dic _ => cases e
  | tdc _ => cases e
  | obj _ => cases e
  | glo _ => cases e
theorem RepAll.len {K : PySem.W.Frag} {M : Mu} {H : Hp} : ∀ {ds : List D} {vs : List V}, RepAll K M H ds vs → vs.length = ds.length
  | [], _, h => by cases h; rfl
  | _ :: _, _, ⟨v, r, e, _, t⟩ => by rw [e, List.length_cons, List.length_cons, RepAll.len t]
theorem RepAll.get {K : PySem.W.Frag} {M : Mu} {H : Hp} : ∀ {ds : List D} {vs : List V} {i : Nat} {d : D}, RepAll K M H ds vs → ds[i]? = some d → ∃ v, vs[i]? = some v ∧ Rep K M H d v
  | [], _, _, _, _, e => by simp at e
  | _ :: _, _, 0, _, ⟨v, r, e1, h, t⟩, e => by
    have e' := Option.some.inj e
    subst e' e1
    exact ⟨v, rfl, h⟩
  | _ :: _, _, i + 1, _, ⟨v, r, e1, h, t⟩, e => by
    subst e1
    exact RepAll.get (i := i) t (by simpa using e)
theorem RepAll.get' {K : PySem.W.Frag} {M : Mu} {H : Hp} : ∀ {ds : List D} {vs : List V} {i : Nat} {v : V}, RepAll K M H ds vs → vs[i]? = some v → ∃ d, ds[i]? = some d ∧ Rep K M H d v
  | [], _, _, _, h, e => by cases h; simp at e
  | _ :: _, _, 0, _, ⟨v, r, e1, h, t⟩, e => by
    subst e1
    have e' := Option.some.inj e
    subst e'
    exact ⟨_, rfl, h⟩
  | _ :: _, _, i + 1, _, ⟨v, r, e1, h, t⟩, e => by
    subst e1
    obtain ⟨d, e2, q⟩ := RepAll.get' (i := i) t (by simpa using e)
    exact ⟨d, by simpa using e2, q⟩
theorem RepAll.app {K : PySem.W.Frag} {M : Mu} {H : Hp} : ∀ {ds es : List D} {vs us : List V}, RepAll K M H ds vs → RepAll K M H es us → RepAll K M H (ds ++ es) (vs ++ us)
  | [], _, _, _, h, q => by cases h; exact q
  | _ :: _, _, _, _, ⟨v, r, e1, h, t⟩, q => ⟨v, r ++ _, by rw [e1]; rfl, h, RepAll.app t q⟩
theorem RepAll.drop {K : PySem.W.Frag} {M : Mu} {H : Hp} : ∀ {ds : List D} {vs : List V} (n : Nat), RepAll K M H ds vs → RepAll K M H (ds.drop n) (vs.drop n)
  | _, _, 0, h => h
  | [], _, _ + 1, h => by cases h; rfl
  | _ :: _, _, n + 1, ⟨v, r, e1, h, t⟩ => by subst e1; exact RepAll.drop n t
theorem RepAll.take {K : PySem.W.Frag} {M : Mu} {H : Hp} : ∀ {ds : List D} {vs : List V} (n : Nat), RepAll K M H ds vs → RepAll K M H (ds.take n) (vs.take n)
  | _, _, 0, h => by rw [List.take_zero, List.take_zero]; rfl
  | [], _, _ + 1, h => by cases h; rfl
  | _ :: _, _, n + 1, ⟨v, r, e1, h, t⟩ => by subst e1; exact ⟨v, r.take n, rfl, h, RepAll.take n t⟩
theorem RepAll.rep {K : PySem.W.Frag} {M : Mu} {H : Hp} {ds : List D} {vs : List V} (h : RepAll K M H ds vs) : ∀ n, RepAll K M H (List.replicate n ds).flatten (List.replicate n vs).flatten
  | 0 => rfl
  | n + 1 => by
    rw [List.replicate_succ, List.replicate_succ, List.flatten_cons, List.flatten_cons]
    exact h.app (RepAll.rep h n)
theorem RepAll.set {K : PySem.W.Frag} {M : Mu} {H : Hp} {d : D} {v : V} (hd : Rep K M H d v) : ∀ {ds : List D} {vs : List V} (i : Nat), RepAll K M H ds vs → RepAll K M H (ds.set i d) (vs.set i v)
  | [], _, _, h => by cases h; rfl
  | _ :: _, _, 0, ⟨u, r, e1, h, t⟩ => by subst e1; exact ⟨v, r, rfl, hd, t⟩
  | _ :: _, _, i + 1, ⟨u, r, e1, h, t⟩ => by subst e1; exact ⟨u, r.set i v, rfl, h, RepAll.set hd i t⟩
theorem RepAll.one {K : PySem.W.Frag} {M : Mu} {H : Hp} {d : D} {v : V} (h : Rep K M H d v) : RepAll K M H [d] [v] := ⟨v, [], rfl, h, rfl⟩
theorem RepAll.two {K : PySem.W.Frag} {M : Mu} {H : Hp} {d e : D} {vs : List V} (h : RepAll K M H [d, e] vs) : ∃ v u, vs = [v, u] ∧ Rep K M H d v ∧ Rep K M H e u := by
  obtain ⟨v, r, e1, h1, u, r2, e2, h2, e3⟩ := h
  cases e3
  subst e2
  exact ⟨v, u, e1, h1, h2⟩
theorem RepAll.single {K : PySem.W.Frag} {M : Mu} {H : Hp} {d : D} {vs : List V} (h : RepAll K M H [d] vs) : ∃ v, vs = [v] ∧ Rep K M H d v := by
  obtain ⟨v, r, e1, h1, e3⟩ := h
  cases e3
  exact ⟨v, e1, h1⟩
theorem RepAll.ints {K : PySem.W.Frag} {M : Mu} {H : Hp} : ∀ {is : List Int} {vs : List V}, RepAll K M H (is.map D.int) vs → vs = is.map V.int
  | [], _, h => h
  | i :: is, _, ⟨v, r, e1, h, t⟩ => by
    have h' : v = .int i := h
    rw [e1, h', RepAll.ints t]; rfl
theorem RepAll.of_ints {K : PySem.W.Frag} {M : Mu} {H : Hp} : ∀ (is : List Int), RepAll K M H (is.map D.int) (is.map V.int)
  | [] => rfl
  | i :: is => ⟨_, _, rfl, rfl, RepAll.of_ints is⟩
theorem RepAll.bls {K : PySem.W.Frag} {M : Mu} {H : Hp} : ∀ {is : List Bool} {vs : List V}, RepAll K M H (is.map D.bl) vs → vs = is.map V.bl
  | [], _, h => h
  | i :: is, _, ⟨v, r, e1, h, t⟩ => by
    have h' : v = .bl i := h
    rw [e1, h', RepAll.bls t]; rfl
/-! ### new objects -/
theorem post_new {w : WH} {M : Mu} {H : Hp} {L : LH} {P : D → LH → Mu → Hp → Prop} {d : D} (hp : PostG S w M H P (.ok d L)) (hs : Sim S.K M H L) {p : Addr} {o : HO} (hn : H p = none) : P d L M (upd H p o) := hp _ _ (To.new hn) (hs.new hn)
theorem nm_new {K : PySem.W.Frag} {M : Mu} {H : Hp} {L : LH} (hs : Sim K M H L) {p : Addr} (hn : H p = none) : p ∉ M.m ∧ p ∉ M.x := ⟨fun z => hs.ms p z hn, fun z => (hs.xs p z).ne hn⟩
theorem rep_tup_new {M : Mu} {H : Hp} {L : LH} (hs : Sim S.K M H L) {p : Addr} (hn : H p = none) {o : Obj} (ho : o.dict = none) {ds : List D} {vs : List V} (r : RepAll S.K M H ds vs) : Rep S.K M (upd H p (.frz o (.tup vs))) (.tup ds) (.ref p) :=
  ⟨p, vs, rfl, .inl ⟨o, upd_same, ho, (nm_new hs hn).1⟩, r.mono (To.new hn)⟩
theorem rep_lst_new {M : Mu} {H : Hp} {L : LH} (hs : Sim S.K M H L) {p : Addr} (hn : H p = none) {ds : List D} {vs : List V} (r : RepAll S.K M H ds vs) : Rep S.K M (upd H p (.lst vs)) (.lst ds) (.ref p) :=
  ⟨p, vs, rfl, upd_same, (nm_new hs hn).1, (nm_new hs hn).2, r.mono (To.new hn)⟩
def fits (n : Nat) : Bool := decide (n ≤ 16777216)
theorem fits_ok {n : Nat} (h : fits n = true) : n ≤ sizeLine := by rw [sizeLine_eq]; exact of_decide_eq_true h
/-- (a, b, ..): a new tuple, its object known -/
def tTupF (t : TA) : TE := fun σ H Q => t σ H fun xs H1 => xs.length ≤ sizeLine ∧ ∀ p (o : Obj), H1 p = none → o.dict = none → Q (.ref p) (upd H1 p (.frz o (.tup xs)))
theorem pe_tupF {es : List Expr} {x1} {pos : Pos} {t : TA} (h : PA X es t) : PE X (.Tuple es x1 pos) (tTupF t) := ⟨fun pins s σ H Q I hq =>
  wpAny_Tuple_spliced (thn (h.run pos pins s σ H _ I hq) fun us s1 ⟨xs, H1, I1, r, z, q⟩ => ⟨by rw [← r.length]; exact z,
    .ref s1.heap.objs.size, upd H1 s1.heap.objs.size (.frz { cls := .type "tuple", data := .seq us.toArray } (.tup xs)), I1.laid (t' := s1.toks) (fun b u e => Heap.get?_push_of_some _ e) (Nat.le_refl _) ⟨Heap.get?_push_size _ rfl, z, us, r, _, Heap.get?_push_size _ rfl, rfl, _, rfl⟩, rfl, q _ _ (I1.hok.fresh (Nat.le_refl _)) rfl⟩)⟩
def kTup : List D → LH → R D := fun ds L => if fits ds.length then .ok (.tup ds) L else .no
def kLst : List D → LH → R D := fun ds L => if fits ds.length then .ok (.lst ds) L else .no
theorem de_tup {es : List Expr} {x1} {pos : Pos} {g : DA} (ha : PA X es (tDA S W g)) : PE X (.Tuple es x1 pos) (tD S W (dL kTup g)) := pe_imp (pe_tupF ha) fun σ H Q => by
  rintro ⟨env, L, M, he, hs, hp⟩
  refine ⟨env, L, M, he, hs, PostG.seq hp fun ds L1 M1 H1 x1 s1 q vs r => ?_⟩
  unfold kTup at q
  split at q
  · rename_i hf
    exact ⟨by rw [r.len]; exact fits_ok hf, fun p o hn ho => post_new q s1 hn _ (rep_tup_new s1 hn ho r)⟩
  · exact q.elim
theorem de_lst {es : List Expr} {pos : Pos} {g : DA} (ha : PA X es (tDA S W g)) : PE X (.List es pos) (tD S W (dL kLst g)) := pe_imp (pe_lst ha) fun σ H Q => by
  rintro ⟨env, L, M, he, hs, hp⟩
  refine ⟨env, L, M, he, hs, PostG.seq hp fun ds L1 M1 H1 x1 s1 q vs r => ?_⟩
  unfold kLst at q
  split at q
  · rename_i hf
    exact ⟨by rw [r.len]; exact fits_ok hf, fun p hn => post_new q s1 hn _ (rep_lst_new s1 hn r)⟩
  · exact q.elim
/-! ### len, items -/
def kLen : List D → LH → R D := fun ds L => match ds with
  | [d] => match seqD L d with
    | some (_, xs) => .ok (.int xs.length) L
    | none => .no
  | _ => .no
theorem does_len : DoesL S (fun xs H Q => ∃ x n, xs = [x] ∧ LenV S.K x H n ∧ Q (.int n) H) kLen := by
  intro M H L a x Q w hs ra hp
  unfold kLen at hp
  split at hp
  · rename_i d
    split at hp
    · rename_i b xs e
      obtain ⟨v, rfl, r⟩ := ra.single
      obtain ⟨a, vs, rfl, h, q⟩ := seqD_ok hs r e
      refine ⟨_, xs.length, rfl, ?_, hp H M To.refl hs _ rfl⟩
      cases b with
      | true => exact .inr ⟨vs, h, q.len.symm⟩
      | false => exact .inl ⟨vs, h, q.len.symm⟩
    · exact hp.elim
  · exact hp.elim
def kIx : D → D → LH → R D := fun a b L => match seqD L a, b with
  | some (_, xs), .int i => orNo (atI xs i) L
  | _, _ => .no
theorem atI_rep {K : PySem.W.Frag} {M : Mu} {H : Hp} {ds : List D} {vs : List V} {i : Int} {d : D} (r : RepAll K M H ds vs) (e : atI ds i = some d) : ∃ v, atI vs i = some v ∧ Rep K M H d v := by
  unfold atI at e ⊢
  rw [r.len]
  cases q : ixN ds.length i with
  | none => rw [q] at e; cases e
  | some j =>
    rw [q] at e
    exact r.get e
theorem does_ix : Does2 S (rIx S.K) kIx := by
  intro M H L a b x y Q w hs ra rb hp
  unfold kIx at hp
  split at hp
  · rename_i bb xs i e
    cases q : atI xs i with
    | none => rw [q] at hp; exact hp.elim
    | some d =>
      rw [q] at hp
      obtain ⟨a, vs, rfl, h, r⟩ := seqD_ok hs ra e
      obtain ⟨v, e2, rv⟩ := atI_rep r q
      have fin := hp H M To.refl hs v rv
      cases bb with
      | true => exact .inr (.inl ⟨a, vs, i, v, rfl, rb, h, e2, fin⟩)
      | false => exact .inl ⟨a, vs, i, v, rfl, rb, h, e2, fin⟩
  · exact hp.elim
theorem de_ix {a b : Expr} {f g : DE} {pos : Pos} (hK : X.K = S.K) (ha : PE X a (tD S W f)) (hb : PE X b (tD S W g)) (hs : PlainIx b) : PE X (.Subscript a b pos) (tD S W (d2 kIx f g)) := pe_imp (pe_ix (r := rIx S.K) (by rw [← hK]; exact ix_seq) ha hb hs) (tD2 does_ix)
end DL

set_option Elab.async false
set_option linter.all false
set_option maxRecDepth 100000
set_option maxHeartbeats 4000000
namespace DL
open PySem PySem.Spec PyProof.Rows L2
theorem tuple_mulSame (l : Addr) (items : Array Value) (n : Nat) (dd : Option Addr) (sl : Array (Option Value)) (x : Int) (u : Tok) (c0 : (decide (x < -(2 ^ 63)) || decide (x ≥ 2 ^ 63)) = false) (c1 : (items.isEmpty || x == 1) = true) :
    Meets (Builtin.«tuple.__mul__» ⟨[.ref l, .int x u], []⟩) (fun _ R s => s.heap.get? l = some { cls := .type "tuple", dict := dd, data := .seq items n, slots := sl } ∧
      R (.ok (.ret (Value.ref l))) s) :=
  .of_wp fun prog w A R s h => by
    obtain ⟨hp, g, d, tk, os⟩ := s
    obtain ⟨hl, h⟩ := h
    have f1 := AutoSeq1.idx_int
    wp_walk using wpAny_loadPart' hl
    repeat (first
      | (refine wpAny_ite_false (decide_eq_false (by rw [c0]; exact Bool.false_ne_true)) ?_; wp_walk using wpAny_loadPart' hl)
      | (rw [if_pos c1]; wp_walk using wpAny_loadPart' hl))
    exact ⟨_, rfl, h⟩
theorem tuple_mulZero (l : Addr) (items : Array Value) (n : Nat) (dd : Option Addr) (sl : Array (Option Value)) (x : Int) (u : Tok) (c0 : (decide (x < -(2 ^ 63)) || decide (x ≥ 2 ^ 63)) = false) (c1 : (items.isEmpty || x == 1) = false) (c2 : (decide (x ≤ 0) || items.isEmpty) = true) :
    Meets (Builtin.«tuple.__mul__» ⟨[.ref l, .int x u], []⟩) (fun _ R s => s.heap.get? l = some { cls := .type "tuple", dict := dd, data := .seq items n, slots := sl } ∧
      R (.ok (.ret (Value.ref s.heap.objs.size))) { s with heap := s.heap.push { cls := Value.type "tuple", data := Data.seq #[] }, toks := s.toks }) :=
  .of_wp fun prog w A R s h => by
    obtain ⟨hp, g, d, tk, os⟩ := s
    obtain ⟨hl, h⟩ := h
    have f1 := AutoSeq1.idx_int
    wp_walk using wpAny_loadPart' hl
    repeat (first
      | (refine wpAny_ite_false (decide_eq_false (by rw [c0]; exact Bool.false_ne_true)) ?_; wp_walk using wpAny_loadPart' hl)
      | (refine wpAny_ite_false (decide_eq_false (by rw [c1]; exact Bool.false_ne_true)) ?_; wp_walk using wpAny_loadPart' hl)
      | (rw [if_pos c2]; wp_walk using wpAny_loadPart' hl))
    exact ⟨_, rfl, h⟩
def rRepA (K : PySem.W.Frag) : R2 := fun x y H Q => ∃ l k xs, x = .ref l ∧ y = .int k ∧ SqT K H l xs ∧ -(2 ^ 63) ≤ k ∧ k < 2 ^ 63 ∧ xs.length * k.toNat ≤ sizeLine ∧ (xs = [] ∨ k = 1 → Q (.ref l) H) ∧
  (xs ≠ [] → k ≠ 1 → ∀ p (o : Obj), H p = none → o.dict = none → Q (.ref p) (upd H p (.frz o (.tup (List.replicate k.toNat xs).flatten))))
theorem op_repA {X : Cx} : OpR X (binaryOp .Mult) (rRepA X.K) := by
  intro pins s σ H x y v u Q I rx ry h
  obtain ⟨l, k, xs, rfl, rfl, hT, h1, h2, hz, q1, q2⟩ := h
  cases rx
  obtain ⟨t, rfl⟩ := ry
  obtain ⟨its, r, ⟨⟨cls, dd, data, sl⟩, ho, hc, n, hd⟩, hs⟩ := I.tuple hT
  simp only at hc hd
  subst hc hd
  have hle : its.length = xs.length := r.length.symm
  have c0 : (decide (k < -(2 ^ 63)) || decide (k ≥ 2 ^ 63)) = false := by
    rw [decide_eq_false (by omega), decide_eq_false (by omega)] <;> rfl
  by_cases e1 : xs = [] ∨ k = 1
  · have c1 : (its.toArray.isEmpty || k == 1) = true := by
      rcases e1 with e | e
      · have : its = [] := List.eq_nil_of_length_eq_zero (by rw [hle, e]; rfl)
        rw [this]; rfl
      · rw [e]; simp
    refine wpAny_binaryOp_repeat_ref (T := "tuple") (U := "int") (by decide) ⟨_, ho, rfl⟩ (fun s' => typeIs_int s' k t) noFill_tuple_mul F.fills_int_mul F.slot_int_rmul repeat_tuple F.slot_int_index.lookup
      (call_meets F.slot_int_rmul (typeIs_int s k t) F.entry_int_rmul (F.args_int_rmul_2 _ _) (int_rmul_tuple k t l its.toArray n dd sl)
        ⟨ho, rfl, ⟨_, ho, rfl⟩, call_meets F.slot_tuple_mul ⟨_, ho, rfl⟩ F.entry_tuple_mul (F.args_tuple_mul_2 _ _) (tuple_mulSame l its.toArray n dd sl k t c0 c1) ⟨ho, ?_⟩⟩)
    exact ⟨.ref l, H, I, rfl, q1 e1⟩
  · have hne : xs ≠ [] := fun e => e1 (.inl e)
    have hk1 : k ≠ 1 := fun e => e1 (.inr e)
    have hn : its ≠ [] := fun e => hne (by
      rw [e] at hle
      exact List.eq_nil_of_length_eq_zero hle.symm)
    have hi : its.toArray.isEmpty = false := by
      cases its with
      | nil => exact absurd rfl hn
      | cons a b => rfl
    have hsz0 : its.toArray.size = xs.length := by rw [List.size_toArray, hle]
    have c1 : (its.toArray.isEmpty || k == 1) = false := by
      rw [hi, Bool.false_or]
      exact beq_eq_false_iff_ne.mpr hk1
    by_cases k0 : k ≤ 0
    · have c2 : (decide (k ≤ 0) || its.toArray.isEmpty) = true := by rw [decide_eq_true k0]; rfl
      refine wpAny_binaryOp_repeat_ref (T := "tuple") (U := "int") (by decide) ⟨_, ho, rfl⟩ (fun s' => typeIs_int s' k t) noFill_tuple_mul F.fills_int_mul F.slot_int_rmul repeat_tuple F.slot_int_index.lookup
        (call_meets F.slot_int_rmul (typeIs_int s k t) F.entry_int_rmul (F.args_int_rmul_2 _ _) (int_rmul_tuple k t l its.toArray n dd sl)
          ⟨ho, rfl, ⟨_, ho, rfl⟩, call_meets F.slot_tuple_mul ⟨_, ho, rfl⟩ F.entry_tuple_mul (F.args_tuple_mul_2 _ _) (tuple_mulZero l its.toArray n dd sl k t c0 c1 c2) ⟨ho, ?_⟩⟩)
      have ek : k.toNat = 0 := by omega
      have q := q2 hne hk1
      rw [ek, List.replicate_zero, List.flatten_nil] at q
      refine ⟨.ref s.heap.objs.size, _, I.laid (t' := s.toks) (o := .frz { cls := Value.type "tuple", data := Data.seq #[] } (.tup [])) (fun b ob q => Heap.get?_push_of_some _ q) (Nat.le_refl _) ?_, rfl, q _ _ (I.hok.fresh (Nat.le_refl _)) rfl⟩
      exact ⟨Heap.get?_push_size _ rfl, Nat.zero_le _, [], .nil, IsTup.new _ _⟩
    · have hm : ((its.toArray.size : Nat) : Int) * k ≤ 16777216 := by
        rw [hsz0]
        have a0 : ((xs.length * k.toNat : Nat) : Int) ≤ 16777216 := by rw [sizeLine_eq] at hz; exact Int.ofNat_le.mpr hz
        rw [Int.natCast_mul, Int.toNat_of_nonneg (by omega)] at a0
        exact a0
      have flen : (List.replicate k.toNat its).flatten.length ≤ sizeLine := by
        rw [PyProof.Rows.lm_len_rep_flat, hle, Nat.mul_comm]
        exact hz
      have c2 : (decide (k ≤ 0) || its.toArray.isEmpty) = false := by
        rw [hi, Bool.or_false]
        exact decide_eq_false k0
      have c4 : Builtin.Tuple.tupleTooMany (((its.toArray.size : Nat) : Int) * k) = false := by
        unfold Builtin.Tuple.tupleTooMany
        rw [sizeLine_eq]
        exact decide_eq_false (by omega)
      refine wpAny_binaryOp_repeat_ref (T := "tuple") (U := "int") (by decide) ⟨_, ho, rfl⟩ (fun s' => typeIs_int s' k t) noFill_tuple_mul F.fills_int_mul F.slot_int_rmul repeat_tuple F.slot_int_index.lookup
        (call_meets F.slot_int_rmul (typeIs_int s k t) F.entry_int_rmul (F.args_int_rmul_2 _ _) (int_rmul_tuple k t l its.toArray n dd sl)
          ⟨ho, rfl, ⟨_, ho, rfl⟩, call_meets F.slot_tuple_mul ⟨_, ho, rfl⟩ F.entry_tuple_mul (F.args_tuple_mul_2 _ _) (tuple_mulW l its.toArray n dd sl k t c0 c1 c2 (by omega) c4 (by rw [size_rep, List.size_toArray]; exact flen)) ⟨ho, ?_⟩⟩)
      rw [size_rep]
      refine ⟨.ref s.heap.objs.size, _, I.laid (t' := s.toks) (o := .frz { cls := .type "tuple", data := .seq (List.replicate k.toNat its).flatten.toArray } (.tup (List.replicate k.toNat xs).flatten)) (fun b ob q => Heap.get?_push_of_some _ q) (Nat.le_refl _) ?_, rfl, q2 hne hk1 _ _ (I.hok.fresh (Nat.le_refl _)) rfl⟩
      exact ⟨Heap.get?_push_size _ rfl, by rw [PyProof.Rows.lm_len_rep_flat, Nat.mul_comm]; exact hz, _, r.rep k.toNat, IsTup.new _ _⟩
end DL

set_option Elab.async false
set_option linter.all false
set_option maxRecDepth 100000
set_option maxHeartbeats 1000000
namespace DL
open PySem PySem.Spec PyProof.Rows L2
variable [Tbs]
/-! ### new tuples, their objects known -/
variable {X : Cx}
def rCatF (K : PySem.W.Frag) : R2 := fun x y H Q => ∃ a b xs ys, x = .ref a ∧ y = .ref b ∧ SqT K H a xs ∧ SqT K H b ys ∧ xs.length + ys.length ≤ sizeLine ∧
  (xs = [] → Q (.ref b) H) ∧ (xs ≠ [] → ys = [] → Q (.ref a) H) ∧ (xs ≠ [] → ys ≠ [] → ∀ p (o : Obj), H p = none → o.dict = none → Q (.ref p) (upd H p (.frz o (.tup (xs ++ ys)))))
theorem op_catF : OpR X (binaryOp .Add) (rCatF X.K) := by
  intro pins s σ H x y v u Q I rx ry ⟨a, b, xs, ys, ex, ey, ha, hb, hz, q0, q1, q2⟩
  subst ex; subst ey; cases rx; cases ry
  obtain ⟨its, r1, p1, _⟩ := I.tuple ha; obtain ⟨its2, r2, p2, _⟩ := I.tuple hb
  by_cases hx : xs = []
  · subst hx; cases r1
    exact cat_tup0 p1 p2 ⟨.ref b, H, I, rfl, q0 rfl⟩
  · refine HT.cat_tup p1 p2 (fun z => hx (r1.nil_iff.mp z)) (fun z => ⟨.ref a, H, I, rfl, q1 hx (r2.nil_iff.mp z)⟩) (fun z => ?_) (by rw [← r1.length, ← r2.length]; exact hz)
    exact ⟨.ref s.heap.objs.size, _, I.laid (t' := s.toks) (o := .frz { cls := .type "tuple", data := .seq (its ++ its2).toArray } (.tup (xs ++ ys))) (fun b ob q => Heap.get?_push_of_some _ q) (Nat.le_refl _) ⟨Heap.get?_push_size _ rfl, by rw [List.length_append]; exact hz, _, r1.append r2, IsTup.new _ _⟩, rfl, q2 hx (fun w => z (r2.nil_iff.mpr w)) _ _ (I.hok.fresh (Nat.le_refl _)) rfl⟩
def rSlF (K : PySem.W.Frag) : V → Option Int → Option Int → Hp → VK → Prop := fun x lo hi H Q => ∃ a xs, x = .ref a ∧ SqT K H a xs ∧
  (HT.sIx xs.length 0 lo = 0 ∧ HT.sIx xs.length xs.length hi = xs.length → Q (.ref a) H) ∧ (¬ (HT.sIx xs.length 0 lo = 0 ∧ HT.sIx xs.length xs.length hi = xs.length) → ∀ p (o : Obj), H p = none → o.dict = none → Q (.ref p) (upd H p (.frz o (.tup (cutV xs lo hi)))))
theorem sl_tupF : SlR X (rSlF X.K) := by
  intro pins s σ H x v vl vu lo hi sl Q I rx hs pl pu ⟨a, xs, ex, hx, q1, q2⟩
  subst ex; cases rx
  obtain ⟨its, r, ht, hz⟩ := I.tuple hx
  have hlen : its.toArray.size = xs.length := by rw [List.size_toArray]; exact r.length.symm
  refine ⟨"tuple", _, PyProof.Rows.slot_tuple_getitem.lookup, ht.typeIs, ?_⟩
  by_cases hw : HT.sIx xs.length 0 lo = 0 ∧ HT.sIx xs.length xs.length hi = xs.length
  · exact getItem_tuple_whole ht hs pl pu (by rw [hlen]; exact hw) ⟨.ref a, H, I, rfl, q1 hw⟩
  · refine HT.getItem_tuple_cut ht hs pl pu (by rw [hlen]; exact hw) ?_ (by rw [hlen]; exact hz)
    rw [hlen]
    exact ⟨.ref s.heap.objs.size, _, I.laid (t' := s.toks) (o := .frz { cls := .type "tuple", data := .seq ((its.toArray.toList.drop (HT.sIx xs.length 0 lo)).take (HT.sIx xs.length xs.length hi - HT.sIx xs.length 0 lo)).toArray } (.tup (cutV xs lo hi))) (fun b ob q => Heap.get?_push_of_some _ q) (Nat.le_refl _)
      ⟨Heap.get?_push_size _ rfl, Nat.le_trans (cutV_length xs lo hi) hz, _, (r.drop (HT.sIx xs.length 0 lo)).take (HT.sIx xs.length xs.length hi - HT.sIx xs.length 0 lo), IsTup.new _ _⟩, rfl, q2 hw _ _ (I.hok.fresh (Nat.le_refl _)) rfl⟩
theorem call_tupF : CallR X (.type "tuple") (fun xs H Q => ∃ p ys, xs = [.ref p] ∧ ((SqL X.K H p ys ∧ ∀ l (o : Obj), H l = none → o.dict = none → Q (.ref l) (upd H l (.frz o (.tup ys)))) ∨ (SqT X.K H p ys ∧ Q (.ref p) H))) := by
  intro pins s σ H xs us Q I r ⟨p, ys, ex, h⟩
  subst ex
  rw [Vals.ref1 r]
  rcases h with ⟨hq, q⟩ | ⟨hq, q⟩
  · obtain ⟨its, r', pl, hz⟩ := I.list hq; have hlen := r'.length
    refine call_tuple_list pl.isList (fun h' kp => ?_) (by simp only [List.size_toArray] <;> omega)
    have I1 : Inv X pins σ H { s with heap := h' } := I.kept (t' := s.toks) kp
    exact ⟨.ref h'.objs.size, _, I1.laid (t' := s.toks) (o := .frz { cls := .type "tuple", data := .seq its.toArray } (.tup ys)) (fun b o e => Heap.get?_push_of_some _ e) (Nat.le_refl _) ⟨Heap.get?_push_size _ rfl, hz, its, r', IsTup.new _ _⟩, rfl, q _ _ (I1.hok.fresh (Nat.le_refl _)) rfl⟩
  · obtain ⟨its, r', pl, hz⟩ := I.tuple hq; exact call_tuple_same pl ⟨.ref p, H, I, rfl, q⟩
end DL

set_option Elab.async false
set_option linter.all false
set_option maxRecDepth 100000
set_option maxHeartbeats 1000000
namespace DL
open PySem PySem.Spec L2
variable [Tbs]
variable {S : Sg} {X : Cx} {W : St → WH}
/-! ### either of two rules -/
def rOr (r r' : R2) : R2 := fun x y H Q => r x y H Q ∨ r' x y H Q
theorem op_or {f : Value → Value → Sem Value} {r r' : R2} (h : OpR X f r) (h' : OpR X f r') : OpR X f (rOr r r') := by
  intro pins s σ H x y v u Q I rx ry q
  rcases q with q | q
  · exact h pins s σ H x y v u Q I rx ry q
  · exact h' pins s σ H x y v u Q I rx ry q
def rOrL (r r' : List V → Hp → VK → Prop) : List V → Hp → VK → Prop := fun x H Q => r x H Q ∨ r' x H Q
theorem call_or {f : Value} {r r' : List V → Hp → VK → Prop} (h : CallR X f r) (h' : CallR X f r') : CallR X f (rOrL r r') := by
  intro pins s σ H x v Q I rx q
  rcases q with q | q
  · exact h pins s σ H x v Q I rx q
  · exact h' pins s σ H x v Q I rx q
/-- a list that stands by itself -/
def lstD (L : LH) : D → Option (List D)
  | .lst ds => some ds
  | .ref n => match L[n]? with
    | some (.lst ds) => some ds
    | _ => none
  | _ => none
theorem lstD_ok {M : Mu} {H : Hp} {L : LH} (s : Sim S.K M H L) : ∀ {d : D} {v : V} {ds : List D}, Rep S.K M H d v → lstD L d = some ds → ∃ a vs, v = .ref a ∧ H a = some (.lst vs) ∧ RepAll S.K M H ds vs := by
  intro d v ds r e
  cases d with
  | lst xs =>
    have e' : xs = ds := Option.some.inj e
    subst e'
    obtain ⟨a, vs, e1, h, _, _, q⟩ := r
    exact ⟨a, vs, e1, h, q⟩
  | ref n =>
    obtain ⟨a, e1, hm⟩ := r
    have e0 : (match L[n]? with | some (.lst ds) => some ds | _ => none) = some ds := e
    cases hl : L[n]? with
    | none => rw [hl] at e0; cases e0
    | some o =>
      rw [hl] at e0
      cases o with
      | lst xs =>
        have e' : xs = ds := Option.some.inj e0
        subst e'
        obtain ⟨_, h, vs, rfl, q⟩ := s.at_ n a _ hm hl
        exact ⟨a, vs, e1, h, q⟩
      | dic _ => cases e0
      | tdc _ => cases e0
      | lck _ => cases e0
      | ins _ _ => cases e0
  | tup _ => cases e
  | frl _ => cases e
  | non => cases e
  | bl _ => cases e
  | int _ => cases e
  | str _ => cases e
  | dic _ => cases e
  | tdc _ => cases e
  | obj _ => cases e
  | glo _ => cases e
def tupD : D → Option (List D)
  | .tup ds => some ds
  | _ => none
theorem tupD_ok {M : Mu} {H : Hp} : ∀ {d : D} {v : V} {ds : List D}, Rep S.K M H d v → tupD d = some ds → ∃ a vs, v = .ref a ∧ SqT S.K H a vs ∧ RepAll S.K M H ds vs ∧ d = .tup ds := by
  intro d v ds r e
  cases d with
  | tup xs =>
    have e' : xs = ds := Option.some.inj e
    subst e'
    obtain ⟨a, vs, e1, h, q⟩ := r
    exact ⟨a, vs, e1, h.t, q, rfl⟩
  | _ => cases e
theorem RepAll.nil_iff {K : PySem.W.Frag} {M : Mu} {H : Hp} {ds : List D} {vs : List V} (r : RepAll K M H ds vs) : vs = [] ↔ ds = [] := by
  cases ds with
  | nil => have : vs = [] := r; simp [this]
  | cons d ds => obtain ⟨v, t, e, _⟩ := r; simp [e]
/-! ### a + b -/
def plusSeq (L : LH) (a b : D) : R D := match tupD a, tupD b with
  | some xs, some ys => if fits (xs.length + ys.length) then .ok (.tup (xs ++ ys)) L else .no
  | _, _ => match lstD L a, lstD L b with
    | some xs, some ys => if fits (xs.length + ys.length) then .ok (.lst (xs ++ ys)) L else .no
    | _, _ => .no
def kPlus : D → D → LH → R D := fun a b L => match a with
  | .int i => (match b with
    | .int j => .ok (.int (i + j)) L
    | _ => .no)
  | .str x => (match b with
    | .str y => if fits (x.length + y.length) then .ok (.str (x ++ y)) L else .no
    | _ => .no)
  | _ => plusSeq L a b
def rPlus (K : PySem.W.Frag) : R2 := rOr (rI0 fun i j => .int (i + j)) (rOr (fun x y H Q => ∃ i j, x = .str i ∧ y = .str j ∧ i.length + j.length ≤ sizeLine ∧ Q (.str (i ++ j)) H) (rOr (rCatF K) rCat))
theorem op_plus : OpR X (binaryOp .Add) (rPlus X.K) := op_or op_add (op_or op_add_str (op_or op_catF op_cat))
theorem plusSeq_ok {M : Mu} {H : Hp} {L : LH} {a b : D} {x y : V} {Q : VK} {w : WH} (hs : Sim S.K M H L) (ra : Rep S.K M H a x) (rb : Rep S.K M H b y) (hp : PostG S w M H (PV S Q) (plusSeq L a b)) : rOr (rCatF S.K) rCat x y H Q := by
  unfold plusSeq at hp
  split at hp
  · rename_i xs ys e1 e2
    obtain ⟨p, vs, rfl, h1, r1, rfl⟩ := tupD_ok ra e1
    obtain ⟨q, us, rfl, h2, r2, rfl⟩ := tupD_ok rb e2
    split at hp
    · rename_i hf
      refine .inl ⟨p, q, vs, us, rfl, rfl, h1, h2, by rw [r1.len, r2.len]; exact fits_ok hf, fun z => ?_, fun _ z => ?_, fun _ _ l o hn ho => post_new hp hs hn _ (rep_tup_new hs hn ho (r1.app r2))⟩
      · have z' := r1.nil_iff.mp z
        subst z'
        exact hp H M To.refl hs _ rb
      · have z' := r2.nil_iff.mp z
        subst z'
        rw [List.append_nil] at hp
        exact hp H M To.refl hs _ ra
    · exact hp.elim
  · split at hp
    · rename_i xs ys e1 e2
      obtain ⟨p, vs, rfl, h1, r1⟩ := lstD_ok hs ra e1
      obtain ⟨q, us, rfl, h2, r2⟩ := lstD_ok hs rb e2
      split at hp
      · rename_i hf
        exact .inr ⟨p, q, vs, us, rfl, rfl, h1, h2, by rw [r1.len, r2.len]; exact fits_ok hf, fun l hn => post_new hp hs hn _ (rep_lst_new hs hn (r1.app r2))⟩
      · exact hp.elim
    · exact hp.elim
theorem does_plus : Does2 S (rPlus S.K) kPlus := by
  intro M H L a b x y Q w hs ra rb hp
  unfold kPlus at hp
  split at hp
  · split at hp
    · exact .inl ⟨_, _, ra, rb, hp H M To.refl hs _ rfl⟩
    · exact hp.elim
  · split at hp
    · split at hp
      · rename_i hf
        exact .inr (.inl ⟨_, _, ra, rb, fits_ok hf, hp H M To.refl hs _ rfl⟩)
      · exact hp.elim
    · exact hp.elim
  · exact .inr (.inr (plusSeq_ok hs ra rb hp))
/-! ### a * b -/
def mulOk (i j : Int) : Bool := small64 i || small64 j || decide (i.natAbs.log2 + j.natAbs.log2 < 1000000)
def repOk (n : Nat) (k : Int) : Bool := decide (-(2 ^ 63) ≤ k ∧ k < 2 ^ 63) && fits (n * k.toNat)
def kTimes : D → D → LH → R D := fun a b L => match b with
  | .int k => (match a with
    | .int i => if mulOk i k then .ok (.int (i * k)) L else .no
    | .tup xs => if repOk xs.length k then .ok (.tup (List.replicate k.toNat xs).flatten) L else .no
    | _ => match lstD L a with
      | some xs => if repOk xs.length k then .ok (.lst (List.replicate k.toNat xs).flatten) L else .no
      | none => .no)
  | _ => .no
def rTimes (K : PySem.W.Frag) : R2 := rOr (rI CMul fun i j => .int (i * j)) (rOr (rI CMulW fun i j => .int (i * j)) (rOr (rRepA K) rRep))
theorem op_times : OpR X (binaryOp .Mult) (rTimes X.K) := op_or op_mul (op_or op_mulW (op_or op_repA op_rep))
theorem does_times : Does2 S (rTimes S.K) kTimes := by
  intro M H L a b x y Q w hs ra rb hp
  unfold kTimes at hp
  split at hp
  · rename_i k
    split at hp
    · rename_i i
      split at hp
      · rename_i hm
        have fin := hp H M To.refl hs _ rfl
        unfold mulOk at hm
        rw [Bool.or_eq_true, Bool.or_eq_true] at hm
        rcases hm with (hm | hm) | hm
        · exact .inl ⟨_, _, ra, rb, .inl (of_decide_eq_true hm), fin⟩
        · exact .inl ⟨_, _, ra, rb, .inr (of_decide_eq_true hm), fin⟩
        · exact .inr (.inl ⟨_, _, ra, rb, (of_decide_eq_true hm : i.natAbs.log2 + k.natAbs.log2 < 1000000), fin⟩)
      · exact hp.elim
    · rename_i xs
      split at hp
      · rename_i hf
        obtain ⟨p, vs, rfl, h, r⟩ := id ra
        unfold repOk at hf
        rw [Bool.and_eq_true] at hf
        obtain ⟨f1, f2⟩ := hf
        obtain ⟨f3, f4⟩ := of_decide_eq_true f1
        refine .inr (.inr (.inl ⟨p, k, vs, rfl, rb, h.t, f3, f4, by rw [r.len]; exact fits_ok f2, fun z => ?_, fun _ _ l o hn ho => post_new hp hs hn _ (rep_tup_new hs hn ho (r.rep k.toNat))⟩))
        rcases z with z | z
        · have z' := r.nil_iff.mp z
          subst z'
          have e : (List.replicate k.toNat ([] : List D)).flatten = [] := by simp
          rw [e] at hp
          exact hp H M To.refl hs _ ra
        · subst z
          have e : (List.replicate (1 : Int).toNat xs).flatten = xs := by simp
          rw [e] at hp
          exact hp H M To.refl hs _ ra
      · exact hp.elim
    · split at hp
      · rename_i xs e
        split at hp
        · rename_i hf
          unfold repOk at hf
          rw [Bool.and_eq_true] at hf
          obtain ⟨f1, f2⟩ := hf
          obtain ⟨f3, f4⟩ := of_decide_eq_true f1
          obtain ⟨p, vs, rfl, h, r⟩ := lstD_ok hs ra e
          exact .inr (.inr (.inr ⟨p, k, vs, rfl, rb, h, f3, f4, by rw [r.len]; exact fits_ok f2, fun l hn => post_new hp hs hn _ (rep_lst_new hs hn (r.rep k.toNat))⟩))
        · exact hp.elim
      · exact hp.elim
  · exact hp.elim
/-! ### // % ** of any size -/
def CPowW (i j : Int) : Prop := 0 ≤ j ∧ (Builtin.Int.intBits i : Int) * j ≤ 2 ^ 27
theorem op_powW : OpR X (binaryOp .Pow) (rI CPowW fun i j => .int (i ^ j.toNat)) := by
  intro pins s σ H x y v u Q I rx ry h
  obtain ⟨i, j, rfl, rfl, c, q⟩ := h
  obtain ⟨t, rfl⟩ := rx
  obtain ⟨t', rfl⟩ := ry
  exact PyProof.Rows.pow_int c.1 c.2 ⟨.int _, H, I.tok _, ⟨_, rfl⟩, q⟩
def kPow := k2I fun i j => if 0 ≤ j ∧ (Builtin.Int.intBits i : Int) * j ≤ 2 ^ 27 then some (.int (i ^ j.toNat)) else none
theorem does_pow : Does2 S (rI CPowW fun i j => .int (i ^ j.toNat)) kPow := does_int fun i j d h => by
  by_cases e : 0 ≤ j ∧ (Builtin.Int.intBits i : Int) * j ≤ 2 ^ 27
  · rw [if_pos e] at h
    have h' : d = .int (i ^ j.toNat) := by simpa using h.symm
    subst h'
    exact ⟨e, fun _ _ => rfl⟩
  · rw [if_neg e] at h; cases h
def kDivW := k2I fun i j => if 0 < j ∧ j.natAbs.log2 < 9000 then some (.int (i / j)) else none
theorem does_divW : Does2 S (rI CDivW fun i j => .int (i / j)) kDivW := does_int fun i j d h => by
  by_cases e : 0 < j ∧ j.natAbs.log2 < 9000
  · rw [if_pos e] at h
    have h' : d = .int (i / j) := by simpa using h.symm
    subst h'
    exact ⟨e, fun _ _ => rfl⟩
  · rw [if_neg e] at h; cases h
/-! ### slices -/
def cutD (xs : List D) (lo hi : Option Int) : List D := (xs.drop (HT.sIx xs.length 0 lo)).take (HT.sIx xs.length xs.length hi - HT.sIx xs.length 0 lo)
theorem cut_rep {K : PySem.W.Frag} {M : Mu} {H : Hp} {ds : List D} {vs : List V} (lo hi : Option Int) (r : RepAll K M H ds vs) : RepAll K M H (cutD ds lo hi) (cutV vs lo hi) := by
  unfold cutD cutV
  rw [r.len]
  exact (r.drop _).take _
def kSlice (lo hi : Option Int) (a : D) (L : LH) : R D := match a with
  | .tup xs => .ok (.tup (cutD xs lo hi)) L
  | _ => match seqD L a with
    | some (false, xs) => .ok (.lst (cutD xs lo hi)) L
    | _ => .no
def rSlice (K : PySem.W.Frag) : V → Option Int → Option Int → Hp → VK → Prop := fun x lo hi H Q => rSlF K x lo hi H Q ∨ rSlL K x lo hi H Q
theorem sl_any : SlR X (rSlice X.K) := SlR.or sl_tupF sl_list
theorem sIx_whole {n : Nat} {lo hi : Option Int} (h : HT.sIx n 0 lo = 0 ∧ HT.sIx n n hi = n) (xs : List D) (hn : xs.length = n) : cutD xs lo hi = xs := by
  unfold cutD
  rw [hn, h.1, h.2, List.drop_zero, Nat.sub_zero, ← hn, List.take_length]
theorem does_slice {M : Mu} {H : Hp} {L : LH} {a : D} {x : V} {Q : VK} {w : WH} {lo hi : Option Int} (hs : Sim S.K M H L) (ra : Rep S.K M H a x) (hp : PostG S w M H (PV S Q) (kSlice lo hi a L)) : rSlice S.K x lo hi H Q := by
  unfold kSlice at hp
  split at hp
  · rename_i xs
    obtain ⟨p, vs, rfl, h, r⟩ := id ra
    refine .inl ⟨p, vs, rfl, h.t, fun z => ?_, fun _ l o hn ho => post_new hp hs hn _ (rep_tup_new hs hn ho (cut_rep lo hi r))⟩
    rw [r.len] at z
    rw [sIx_whole z xs rfl] at hp
    exact hp H M To.refl hs _ ra
  · split at hp
    · rename_i xs e
      obtain ⟨p, vs, rfl, h, r⟩ := seqD_ok hs ra e
      exact .inr ⟨p, vs, rfl, h, fun l hn => post_new hp hs hn _ (rep_lst_new hs hn (cut_rep lo hi r))⟩
    · exact hp.elim
abbrev DO := DEnv → LH → R (Option Int)
def tDO (S : Sg) (W : St → WH) (f : DO) : TO := fun σ H Q => ∃ env L M, EnvR S.K M H env σ ∧ Sim S.K M H L ∧ PostG S (W σ) M H (fun o _ _ H' => Q o H') (f env L)
def doNone : DO := fun _ L => .ok none L
def doSome (f : DE) : DO := fun env L => (f env L).bind fun d L1 => match d with
  | .int i => .ok (some i) L1
  | _ => .no
theorem po_imp {e : Option Expr} {t t' : TO} (h : PO X e t) (i : ∀ σ H Q, t' σ H Q → t σ H Q) : PO X e t' := ⟨fun pins s σ H Q I q => h.run pins s σ H Q I (i σ H Q q)⟩
theorem do_none : PO X none (tDO S W doNone) := po_imp po_none fun σ H Q ⟨env, L, M, he, hs, hp⟩ => hp H M To.refl hs
theorem do_some {e : Expr} {f : DE} (h : PE X e (tD S W f)) : PO X (some e) (tDO S W (doSome f)) := po_imp (po_some h) fun σ H Q => by
  rintro ⟨env, L, M, he, hs, hp⟩
  refine ⟨env, L, M, he, hs, PostG.seq hp fun d L1 M1 H1 x1 s1 q v r => ?_⟩
  cases d with
  | int i => exact ⟨i, r, q H1 M1 To.refl s1⟩
  | _ => exact q.elim
def dSlice (f : DE) (g h : DO) : DE := fun env L => (f env L).bind fun a L1 => (g env L1).bind fun lo L2 => (h env L2).bind fun hi L3 => kSlice lo hi a L3
theorem de_slice {e : Expr} {lo hi : Option Expr} {f : DE} {g h : DO} {pos p2 : Pos} (hK : X.K = S.K) (he : PE X e (tD S W f)) (hl : PO X lo (tDO S W g)) (hu : PO X hi (tDO S W h)) : PE X (.Subscript e (.Slice lo hi none p2) pos) (tD S W (dSlice f g h)) :=
  pe_imp (pe_slice (r := rSlice S.K) (by rw [← hK]; exact sl_any) he hl hu) fun σ H Q => by
    rintro ⟨env, L, M, he, hs, hp⟩
    refine ⟨env, L, M, he, hs, PostG.seq hp fun a L1 M1 H1 x1 s1 q x ra => ⟨env, L1, M1, he.mono x1, s1, PostG.seq q fun l L2 M2 H2 x2 s2 q2 => ⟨env, L2, M2, he.mono (x1.trans x2), s2, PostG.seq q2 fun u L3 M3 H3 x3 s3 q3 => ?_⟩⟩⟩
    exact does_slice s3 (ra.mono (x2.trans x3)) q3
/-! ### tuple(x), list(x) -/
def kTupleOf : List D → LH → R D := fun ds L => match ds with
  | [d] => match seqD L d with
    | some (_, xs) => .ok (.tup xs) L
    | none => .no
  | _ => .no
theorem seqD_tup {L : LH} {d : D} {xs : List D} (e : seqD L d = some (true, xs)) : d = .tup xs := by
  cases d with
  | tup ys => have e' : (true, ys) = (true, xs) := Option.some.inj e; cases e'; rfl
  | lst ys => have e' : (false, ys) = (true, xs) := Option.some.inj e; cases e'
  | frl ys => have e' : (false, ys) = (true, xs) := Option.some.inj e; cases e'
  | ref n =>
    have e0 : (match L[n]? with | some (.lst ds) => some (false, ds) | _ => none) = some (true, xs) := e
    split at e0
    · cases e0
    · cases e0
  | non => cases e
  | bl _ => cases e
  | int _ => cases e
  | str _ => cases e
  | dic _ => cases e
  | tdc _ => cases e
  | obj _ => cases e
  | glo _ => cases e
theorem does_tupleOf : DoesL S (fun xs H Q => ∃ p ys, xs = [.ref p] ∧ ((SqL S.K H p ys ∧ ∀ l (o : Obj), H l = none → o.dict = none → Q (.ref l) (upd H l (.frz o (.tup ys)))) ∨ (SqT S.K H p ys ∧ Q (.ref p) H))) kTupleOf := by
  intro M H L a x Q w hs ra hp
  unfold kTupleOf at hp
  split at hp
  · rename_i d
    split at hp
    · rename_i b xs e
      obtain ⟨v, rfl, r⟩ := ra.single
      obtain ⟨p, vs, rfl, h, q⟩ := seqD_ok hs r e
      refine ⟨p, vs, rfl, ?_⟩
      cases b with
      | true =>
        have e' := seqD_tup e
        subst e'
        exact .inr ⟨h, hp H M To.refl hs _ r⟩
      | false => exact .inl ⟨h, fun l o hn ho => post_new hp hs hn _ (rep_tup_new hs hn ho q)⟩
    · exact hp.elim
  · exact hp.elim
def kListOf : List D → LH → R D := fun ds L => match ds with
  | [d] => match seqD L d with
    | some (_, xs) => .ok (.lst xs) L
    | none => .no
  | _ => .no
theorem does_listOf : DoesL S (fun xs H Q => ∃ p ys, xs = [.ref p] ∧ (SqL S.K H p ys ∨ SqT S.K H p ys) ∧ ∀ l, H l = none → Q (.ref l) (upd H l (.lst ys))) kListOf := by
  intro M H L a x Q w hs ra hp
  unfold kListOf at hp
  split at hp
  · rename_i d
    split at hp
    · rename_i b xs e
      obtain ⟨v, rfl, r⟩ := ra.single
      obtain ⟨p, vs, rfl, h, q⟩ := seqD_ok hs r e
      refine ⟨p, vs, rfl, ?_, fun l hn => post_new hp hs hn _ (rep_lst_new hs hn q)⟩
      cases b with
      | true => exact .inr h
      | false => exact .inl h
    · exact hp.elim
  · exact hp.elim
end DL

set_option Elab.async false
set_option linter.all false
set_option maxRecDepth 100000
set_option maxHeartbeats 1000000
namespace DL
open PySem PySem.Spec L2
variable [Tbs]
variable {S : Sg} {X : Cx} {W : St → WH}
abbrev DT := DEnv → LH → R Bool
def PB (Q : Bool → Hp → Prop) (b : Bool) (_ : LH) (_ : Mu) (H' : Hp) : Prop := Q b H'
def tT (S : Sg) (W : St → WH) (f : DT) : TT := fun σ H Q => ∃ env L M, EnvR S.K M H env σ ∧ Sim S.K M H L ∧ PostG S (W σ) M H (PB Q) (f env L)
/-! ### truth -/
def truD (L : LH) : D → Option Bool
  | .non => some false
  | .bl b => some b
  | .int i => some (i != 0)
  | .str x => if fits x.length then some ((x.length : Int) != 0) else none
  | .dic _ => none
  | .tdc _ => none
  | d => (seqD L d).map fun p => !p.2.isEmpty
theorem RepKV.emp {K : PySem.W.Frag} {M : Mu} {H : Hp} {ds : List (Key × D)} {vs : List (Key × V)} (r : RepKV K M H ds vs) : vs.isEmpty = ds.isEmpty := by
  cases ds with
  | nil => have : vs = [] := r; rw [this]; rfl
  | cons d ds => obtain ⟨v, t, e, _⟩ := r; rw [e]; rfl
theorem RepAll.emp {K : PySem.W.Frag} {M : Mu} {H : Hp} {ds : List D} {vs : List V} (r : RepAll K M H ds vs) : vs.isEmpty = ds.isEmpty := by
  cases ds with
  | nil => have : vs = [] := r; rw [this]; rfl
  | cons d ds => obtain ⟨v, t, e, _⟩ := r; rw [e]; rfl
theorem truSeq {M : Mu} {H : Hp} {L : LH} {d : D} {v : V} {k : Bool} (hs : Sim S.K M H L) (r : Rep S.K M H d v) (e : ((seqD L d).map fun p => !p.2.isEmpty) = some k) : TruV S.K v H k := by
  cases q : seqD L d with
  | none => rw [q] at e; cases e
  | some p =>
    obtain ⟨b, xs⟩ := p
    rw [q] at e
    have e' : (!xs.isEmpty) = k := Option.some.inj e
    obtain ⟨a, vs, rfl, h, ra⟩ := seqD_ok hs r q
    have e2 : k = !vs.isEmpty := by rw [ra.emp]; exact e'.symm
    cases b with
    | true => exact .inr (.inl ⟨vs, h, e2⟩)
    | false => exact .inl ⟨vs, h, e2⟩
theorem truD_ok {M : Mu} {H : Hp} {L : LH} {d : D} {v : V} {k : Bool} (hs : Sim S.K M H L) (r : Rep S.K M H d v) (e : truD L d = some k) : TruV S.K v H k := by
  cases d with
  | non => have r' : v = .non := r; subst r'; exact (Option.some.inj e).symm
  | bl b => have r' : v = .bl b := r; subst r'; exact (Option.some.inj e).symm
  | int i => have r' : v = .int i := r; subst r'; exact (Option.some.inj e).symm
  | str x =>
    have r' : v = .str x := r
    subst r'
    have e0 : (if fits x.length then some ((x.length : Int) != 0) else none) = some k := e
    split at e0
    · rename_i hf
      exact ⟨fits_ok hf, (Option.some.inj e0).symm⟩
    · cases e0
  | dic ks => cases e
  | tdc _ => cases e
  | tup xs => exact truSeq hs r e
  | lst xs => exact truSeq hs r e
  | frl xs => exact truSeq hs r e
  | ref n => exact truSeq hs r e
  | obj w => cases e
  | glo _ => cases e
def dTruth (f : DE) : DT := fun env L => (f env L).bind fun d L1 => match truD L1 d with
  | some b => .ok b L1
  | none => .no
theorem dt_truth {e : Expr} {f : DE} (hK : X.K = S.K) (h : PE X e (tD S W f)) (he : ∀ whole, isTrue e X.env whole = (do let v ← whole; standAt e.pos; holding [v] (truthy v)) := by intro _; rfl) : PT X e (tT S W (dTruth f)) :=
  pt_imp (pt_truth h he) fun σ H Q => by
    rintro ⟨env, L, M, he, hs, hp⟩
    refine ⟨env, L, M, he, hs, PostG.seq hp fun d L1 M1 H1 x1 s1 q v r => ?_⟩
    cases e : truD L1 d with
    | none => rw [e] at q; exact q.elim
    | some k =>
      rw [e] at q
      exact ⟨k, by rw [hK]; exact truD_ok s1 r e, q H1 M1 To.refl s1⟩
def dAnd (f g : DT) : DT := fun env L => (f env L).bind fun b L1 => if b = true then g env L1 else .ok false L1
def dOr (f g : DT) : DT := fun env L => (f env L).bind fun b L1 => if b = true then .ok true L1 else g env L1
def dNot (f : DT) : DT := fun env L => (f env L).bind fun b L1 => .ok (!b) L1
theorem dt_and {a b : Expr} {rest : List Expr} {pos : Pos} {f g : DT} (ha : PT X a (tT S W f)) (hb : PW X (.BoolOp .And (b :: rest) pos) (tT S W g)) : PW X (.BoolOp .And (a :: b :: rest) pos) (tT S W (dAnd f g)) := by
  refine ⟨fun wh pins s σ H Q I h => (pw_and ha hb).run wh pins s σ H Q I ?_⟩
  obtain ⟨env, L, M, he, hs, hp⟩ := h
  refine ⟨env, L, M, he, hs, PostG.seq hp fun d L1 M1 H1 x1 s1 q => ?_⟩
  show if d = true then _ else _
  split
  · rename_i e
    rw [if_pos e] at q
    exact ⟨env, L1, M1, he.mono x1, s1, q⟩
  · rename_i e
    rw [if_neg e] at q
    exact q H1 M1 To.refl s1
theorem dt_or {a b : Expr} {rest : List Expr} {pos : Pos} {f g : DT} (ha : PT X a (tT S W f)) (hb : PW X (.BoolOp .Or (b :: rest) pos) (tT S W g)) : PW X (.BoolOp .Or (a :: b :: rest) pos) (tT S W (dOr f g)) := by
  refine ⟨fun wh pins s σ H Q I h => (pw_or ha hb).run wh pins s σ H Q I ?_⟩
  obtain ⟨env, L, M, he, hs, hp⟩ := h
  refine ⟨env, L, M, he, hs, PostG.seq hp fun d L1 M1 H1 x1 s1 q => ?_⟩
  show if d = true then _ else _
  split
  · rename_i e
    rw [if_pos e] at q
    exact q H1 M1 To.refl s1
  · rename_i e
    rw [if_neg e] at q
    exact ⟨env, L1, M1, he.mono x1, s1, q⟩
theorem dt_not {a : Expr} {pos : Pos} {f : DT} (ha : PT X a (tT S W f)) : PT X (.UnaryOp .Not a pos) (tT S W (dNot f)) := pt_imp (pt_not ha) fun σ H Q => by
  rintro ⟨env, L, M, he, hs, hp⟩
  exact ⟨env, L, M, he, hs, PostG.seq hp fun d L1 M1 H1 x1 s1 q => q H1 M1 To.refl s1⟩
/-! ### and, or, not, if as values -/
def truK (d : D) (L : LH) (k : Bool → R D) : R D := match truD L d with
  | some b => k b
  | none => .no
def deAnd (f g : DE) : DE := fun env L => (f env L).bind fun a L1 => truK a L1 fun b => if b = true then g env L1 else .ok a L1
def deOr (f g : DE) : DE := fun env L => (f env L).bind fun a L1 => truK a L1 fun b => if b = true then .ok a L1 else g env L1
def deNot (f : DE) : DE := fun env L => (f env L).bind fun a L1 => truK a L1 fun b => .ok (.bl (!b)) L1
def dIf (t : DT) (f g : DE) : DE := fun env L => (t env L).bind fun b L1 => if b = true then f env L1 else g env L1
theorem de_ifExp {c a b : Expr} {t : DT} {f g : DE} {pos : Pos} (hc : PT X c (tT S W t)) (ha : PE X a (tD S W f)) (hb : PE X b (tD S W g)) : PE X (.IfExp c a b pos) (tD S W (dIf t f g)) := pe_imp (pe_ifExp hc ha hb) fun σ H Q => by
  rintro ⟨env, L, M, he, hs, hp⟩
  refine ⟨env, L, M, he, hs, PostG.seq hp fun d L1 M1 H1 x1 s1 q => ?_⟩
  show if d = true then _ else _
  split
  · rename_i e
    rw [if_pos e] at q
    exact ⟨env, L1, M1, he.mono x1, s1, q⟩
  · rename_i e
    rw [if_neg e] at q
    exact ⟨env, L1, M1, he.mono x1, s1, q⟩
theorem de_and {a b : Expr} {rest : List Expr} {pos : Pos} {f g : DE} (hK : X.K = S.K) (ha : PE X a (tD S W f)) (hb : PE X (.BoolOp .And (b :: rest) pos) (tD S W g)) : PE X (.BoolOp .And (a :: b :: rest) pos) (tD S W (deAnd f g)) := pe_imp (pe_andT ha hb) fun σ H Q => by
  rintro ⟨env, L, M, he, hs, hp⟩
  refine ⟨env, L, M, he, hs, PostG.seq hp fun d L1 M1 H1 x1 s1 q v r => ?_⟩
  unfold truK at q
  cases e : truD L1 d with
  | none => rw [e] at q; exact q.elim
  | some k =>
    rw [e] at q
    refine ⟨k, by rw [hK]; exact truD_ok s1 r e, ?_⟩
    have q' : PostG S (W σ) M1 H1 (PV S Q) (if k = true then g env L1 else .ok d L1) := q
    split
    · rename_i e2
      rw [if_pos e2] at q'
      exact ⟨env, L1, M1, he.mono x1, s1, q'⟩
    · rename_i e2
      rw [if_neg e2] at q'
      exact q' H1 M1 To.refl s1 v r
theorem de_or {a b : Expr} {rest : List Expr} {pos : Pos} {f g : DE} (hK : X.K = S.K) (ha : PE X a (tD S W f)) (hb : PE X (.BoolOp .Or (b :: rest) pos) (tD S W g)) : PE X (.BoolOp .Or (a :: b :: rest) pos) (tD S W (deOr f g)) := pe_imp (pe_orT ha hb) fun σ H Q => by
  rintro ⟨env, L, M, he, hs, hp⟩
  refine ⟨env, L, M, he, hs, PostG.seq hp fun d L1 M1 H1 x1 s1 q v r => ?_⟩
  unfold truK at q
  cases e : truD L1 d with
  | none => rw [e] at q; exact q.elim
  | some k =>
    rw [e] at q
    refine ⟨k, by rw [hK]; exact truD_ok s1 r e, ?_⟩
    have q' : PostG S (W σ) M1 H1 (PV S Q) (if k = true then .ok d L1 else g env L1) := q
    split
    · rename_i e2
      rw [if_pos e2] at q'
      exact q' H1 M1 To.refl s1 v r
    · rename_i e2
      rw [if_neg e2] at q'
      exact ⟨env, L1, M1, he.mono x1, s1, q'⟩
theorem de_not {a : Expr} {pos : Pos} {f : DE} (hK : X.K = S.K) (ha : PE X a (tD S W f)) : PE X (.UnaryOp .Not a pos) (tD S W (deNot f)) := pe_imp (pe_notT ha) fun σ H Q => by
  rintro ⟨env, L, M, he, hs, hp⟩
  refine ⟨env, L, M, he, hs, PostG.seq hp fun d L1 M1 H1 x1 s1 q v r => ?_⟩
  unfold truK at q
  cases e : truD L1 d with
  | none => rw [e] at q; exact q.elim
  | some k =>
    rw [e] at q
    exact ⟨k, by rw [hK]; exact truD_ok s1 r e, q H1 M1 To.refl s1 _ rfl⟩
/-! ### a op b op2 c -/
def dChain (k k' : D → D → LH → R D) (f g h : DE) : DE := fun env L => (f env L).bind fun a L1 => (g env L1).bind fun b L2 => (k a b L2).bind fun z L3 => match z with
  | .bl t => if t = true then (h env L3).bind fun c L4 => k' b c L4 else .ok (.bl false) L3
  | _ => .no
theorem de_chain {op op' : CmpOp} {a b c : Expr} {r r' : R2} {k k' : D → D → LH → R D} {f g h : DE} {pos : Pos} (ho : OpR X (compareOp op) r) (ho' : OpR X (compareOp op') r') (hk : Does2 S r k) (hk' : Does2 S r' k') (ha : PE X a (tD S W f)) (hb : PE X b (tD S W g)) (hc : PE X c (tD S W h))
    (hm : lastMarks [op, op'] [b, c] = false := by with_unfolding_all rfl) : PE X (.Compare a [op, op'] [b, c] pos) (tD S W (dChain k k' f g h)) := pe_imp (pe_chain ho ho' ha hb hc hm) fun σ H Q => by
  rintro ⟨env, L, M, he, hs, hp⟩
  refine ⟨env, L, M, he, hs, PostG.seq hp fun a L1 M1 H1 x1 s1 q x ra => ⟨env, L1, M1, he.mono x1, s1, PostG.seq q fun b L2 M2 H2 x2 s2 q2 y rb => ?_⟩⟩
  refine hk M2 H2 L2 a b x y _ _ s2 (ra.mono x2) rb (PostG.seq q2 fun z L3 M3 H3 x3 s3 q3 zv rz => ?_)
  cases z with
  | bl t =>
    refine ⟨t, rz, ?_⟩
    have q4 : PostG S (W σ) M3 H3 (PV S Q) (if t = true then (h env L3).bind fun c L4 => k' b c L4 else .ok (.bl false) L3) := q3
    split
    · rename_i e
      rw [if_pos e] at q4
      refine ⟨env, L3, M3, he.mono ((x1.trans x2).trans x3), s3, PostG.seq q4 fun c L4 M4 H4 x4 s4 q5 cv rc => ?_⟩
      exact hk' M4 H4 L4 b c y cv Q _ s4 (rb.mono (x3.trans x4)) rc q5
    · rename_i e
      rw [if_neg e] at q4
      exact q4 H3 M3 To.refl s3 _ rfl
  | _ => exact q3.elim
/-! ### deep equality -/
mutual
def deep : D → Option PyData
  | .non => some .none
  | .bl b => some (.bool b)
  | .int i => some (.int i)
  | .str x => some (.str x)
  | .tup ds => (deepAll ds).map .tuple
  | .lst ds => (deepAll ds).map .list
  | .frl ds => (deepAll ds).map .list
  | .dic _ => none
  | .tdc _ => none
  | .ref _ => none
  | .obj _ => none
  | .glo _ => none
def deepAll : List D → Option (List PyData)
  | [] => some []
  | d :: ds => match deep d, deepAll ds with
    | some x, some r => some (x :: r)
    | _, _ => none
end
def deepL (L : LH) : D → Option PyData
  | .ref n => match L[n]? with
    | some (.lst ds) => (deepAll ds).map .list
    | _ => none
  | d => deep d
mutual
theorem deep_ok {M : Mu} {H : Hp} : ∀ (d : D) (v : V) (p : PyData), Rep S.K M H d v → deep d = some p → Dp S.K H v p
  | .non, _, _, r, e => by cases r; cases e; exact .non
  | .bl b, _, _, r, e => by cases r; cases e; exact .bl b
  | .int i, _, _, r, e => by cases r; cases e; exact .int i
  | .str x, _, _, r, e => by cases r; cases e; exact .str x
  | .tup ds, _, p, ⟨a, vs, e1, h, q⟩, e => by
    have e' : (deepAll ds).map PyData.tuple = some p := e
    cases hd : deepAll ds with
    | none => rw [hd] at e'; cases e'
    | some ps =>
      rw [hd] at e'
      cases e'
      rw [e1]
      exact .tup h.t (deepAll_ok ds vs ps q hd)
  | .lst ds, _, p, ⟨a, vs, e1, h, _, _, q⟩, e => by
    have e' : (deepAll ds).map PyData.list = some p := e
    cases hd : deepAll ds with
    | none => rw [hd] at e'; cases e'
    | some ps =>
      rw [hd] at e'
      cases e'
      rw [e1]
      exact .lst (.inl (.inl h)) (deepAll_ok ds vs ps q hd)
  | .frl ds, _, p, ⟨a, vs, e1, h, q⟩, e => by
    have e' : (deepAll ds).map PyData.list = some p := e
    cases hd : deepAll ds with
    | none => rw [hd] at e'; cases e'
    | some ps =>
      rw [hd] at e'
      cases e'
      rw [e1]
      exact .lst h.l (deepAll_ok ds vs ps q hd)
  | .dic _, _, _, _, e => by cases e
  | .tdc _, _, _, _, e => by cases e
  | .ref _, _, _, _, e => by cases e
  | .obj _, _, _, _, e => by cases e
  | .glo _, _, _, _, e => by cases e
theorem deepAll_ok {M : Mu} {H : Hp} : ∀ (ds : List D) (vs : List V) (ps : List PyData), RepAll S.K M H ds vs → deepAll ds = some ps → DpAll S.K H vs ps
  | [], _, _, r, e => by cases r; cases e; exact .nil
  | d :: ds, _, ps, ⟨v, t, e1, h, q⟩, e => by
    have e' : (match deep d, deepAll ds with | some x, some r => some (x :: r) | _, _ => none) = some ps := e
    cases hd : deep d with
    | none => rw [hd] at e'; cases e'
    | some x =>
      cases hr : deepAll ds with
      | none => rw [hd, hr] at e'; cases e'
      | some r =>
        rw [hd, hr] at e'
        cases e'
        rw [e1]
        exact .cons (deep_ok d v x h hd) (deepAll_ok ds t r q hr)
end
theorem deepL_ok {M : Mu} {H : Hp} {L : LH} (hs : Sim S.K M H L) {d : D} {v : V} {p : PyData} (r : Rep S.K M H d v) (e : deepL L d = some p) : Dp S.K H v p := by
  cases d with
  | ref n =>
    have e' : (match L[n]? with | some (.lst ds) => (deepAll ds).map PyData.list | _ => none) = some p := e
    obtain ⟨a, rfl, hm⟩ := r
    cases hl : L[n]? with
    | none => rw [hl] at e'; cases e'
    | some o =>
      rw [hl] at e'
      cases o with
      | dic _ => cases e'
      | tdc _ => cases e'
      | lck _ => cases e'
      | ins _ _ => cases e'
      | lst ds =>
        obtain ⟨_, h, vs, rfl, q⟩ := hs.at_ n a _ hm hl
        have e2 : (deepAll ds).map PyData.list = some p := e'
        cases hd : deepAll ds with
        | none => rw [hd] at e2; cases e2
        | some ps =>
          rw [hd] at e2
          cases e2
          exact .lst (.inl (.inl h)) (deepAll_ok ds vs ps q hd)
  | non => exact deep_ok _ _ _ r e
  | bl _ => exact deep_ok _ _ _ r e
  | int _ => exact deep_ok _ _ _ r e
  | str _ => exact deep_ok _ _ _ r e
  | tup _ => exact deep_ok _ _ _ r e
  | lst _ => exact deep_ok _ _ _ r e
  | frl _ => exact deep_ok _ _ _ r e
  | tdc _ => exact deep_ok _ _ _ r e
  | dic _ => exact deep_ok _ _ _ r e
  | obj _ => exact deep_ok _ _ _ r e
  | glo _ => exact deep_ok _ _ _ r e
def eqD (L : LH) (a b : D) : Option Bool := match deepL L a, deepL L b with
  | some x, some y => if SeqAt.shaped x && SeqAt.shaped y then some (PyData.eqv x y) else none
  | _, _ => none
def kEq : D → D → LH → R D := fun a b L => match eqD L a b with
  | some r => .ok (.bl r) L
  | none => .no
def kNe : D → D → LH → R D := fun a b L => match eqD L a b with
  | some r => .ok (.bl (!r)) L
  | none => .no
theorem eqD_ok {M : Mu} {H : Hp} {L : LH} {a b : D} {x y : V} {r : Bool} (hs : Sim S.K M H L) (ra : Rep S.K M H a x) (rb : Rep S.K M H b y) (e : eqD L a b = some r) : ∃ d e, Dp S.K H x d ∧ Dp S.K H y e ∧ SeqAt.shaped d = true ∧ SeqAt.shaped e = true ∧ PyData.eqv d e = r := by
  unfold eqD at e
  split at e
  · rename_i p q e1 e2
    split at e
    · rename_i h
      rw [Bool.and_eq_true] at h
      exact ⟨p, q, deepL_ok hs ra e1, deepL_ok hs rb e2, h.1, h.2, Option.some.inj e⟩
    · cases e
  · cases e
theorem does_eq : Does2 S (rEqD S.K) kEq := by
  intro M H L a b x y Q w hs ra rb hp
  unfold kEq at hp
  split at hp
  · rename_i r e
    obtain ⟨d, e2, h1, h2, h3, h4, h5⟩ := eqD_ok hs ra rb e
    exact ⟨d, e2, h1, h2, h3, h4, by rw [h5]; exact hp H M To.refl hs _ rfl⟩
  · exact hp.elim
theorem does_ne : Does2 S (rNeD S.K) kNe := by
  intro M H L a b x y Q w hs ra rb hp
  unfold kNe at hp
  split at hp
  · rename_i r e
    obtain ⟨d, e2, h1, h2, h3, h4, h5⟩ := eqD_ok hs ra rb e
    exact ⟨d, e2, h1, h2, h3, h4, by rw [h5]; exact hp H M To.refl hs _ rfl⟩
  · exact hp.elim
def kIs : D → D → LH → R D := fun a b L => match b with
  | .non => (match a with
    | .non => .ok (.bl true) L
    | .obj _ => .no
    | _ => .ok (.bl false) L)
  | _ => .no
def kIsNot : D → D → LH → R D := fun a b L => match b with
  | .non => (match a with
    | .non => .ok (.bl false) L
    | .obj _ => .no
    | _ => .ok (.bl true) L)
  | _ => .no
theorem rep_non {M : Mu} {H : Hp} {a : D} {x : V} (ra : Rep S.K M H a x) (h : a ≠ .non) (ho : ∀ w, a ≠ .obj w) : x ≠ .non := by
  cases a with
  | non => exact absurd rfl h
  | bl b => have r : x = .bl b := ra; rw [r]; exact fun z => nomatch z
  | int b => have r : x = .int b := ra; rw [r]; exact fun z => nomatch z
  | str b => have r : x = .str b := ra; rw [r]; exact fun z => nomatch z
  | tup ds => obtain ⟨a, vs, e, _⟩ := ra; rw [e]; exact fun z => nomatch z
  | lst ds => obtain ⟨a, vs, e, _⟩ := ra; rw [e]; exact fun z => nomatch z
  | frl ds => obtain ⟨a, vs, e, _⟩ := ra; rw [e]; exact fun z => nomatch z
  | dic ds => obtain ⟨a, vs, e, _⟩ := ra; rw [e]; exact fun z => nomatch z
  | tdc ds => obtain ⟨a, vs, e, _⟩ := ra; rw [e]; exact fun z => nomatch z
  | ref n => obtain ⟨a, e, _⟩ := ra; rw [e]; exact fun z => nomatch z
  | obj w => exact absurd rfl (ho w)
  | glo n => obtain ⟨a, _, e⟩ := ra; rw [e]; exact fun z => nomatch z
theorem does_is : Does2 S (fun x y H Q => y = .non ∧ Q (.bl (decide (x = .non))) H) kIs := by
  intro M H L a b x y Q w hs ra rb hp
  unfold kIs at hp
  split at hp
  · refine ⟨rb, ?_⟩
    split at hp
    · have r : x = .non := ra
      subst r
      exact hp H M To.refl hs _ rfl
    · exact hp.elim
    · rename_i h1 h2
      rw [decide_eq_false (rep_non ra h1 h2)]
      exact hp H M To.refl hs _ rfl
  · exact hp.elim
theorem does_isNot : Does2 S (fun x y H Q => y = .non ∧ Q (.bl (!decide (x = .non))) H) kIsNot := by
  intro M H L a b x y Q w hs ra rb hp
  unfold kIsNot at hp
  split at hp
  · refine ⟨rb, ?_⟩
    split at hp
    · have r : x = .non := ra
      subst r
      exact hp H M To.refl hs _ rfl
    · exact hp.elim
    · rename_i h1 h2
      rw [decide_eq_false (rep_non ra h1 h2)]
      exact hp H M To.refl hs _ rfl
  · exact hp.elim
end DL

set_option Elab.async false
set_option linter.all false
set_option maxRecDepth 100000
set_option maxHeartbeats 1000000
namespace DL
open PySem PySem.Spec L2
variable [Tbs]
variable {S : Sg} {X : Cx} {W : St → WH}
inductive SR where
  | nx (env : DEnv) (L : LH) | rt (d : D) (L : LH) | rf (ds : List D) (L : LH) | bk (env : DEnv) (L : LH) | ct (env : DEnv) (L : LH) | exc (e : Exn) (env : DEnv) (L : LH) | no
abbrev DS := DEnv → LH → SR
/-- what a statement's result must lead to -/
def PostS (S : Sg) (W : St → WH) (M : Mu) (H : Hp) (E : Ends) : SR → Prop
  | .nx env L => ∀ σ H' M', To M H M' H' → Sim S.K M' H' L → EnvR S.K M' H' env σ → E.nx σ H'
  | .rt d L => ∀ v H' M', To M H M' H' → Sim S.K M' H' L → Rep S.K M' H' d v → E.rt v H'
  | .rf ds L => ∀ H' M' vs p, To M H M' H' → Sim S.K M' H' L → H' p = none → RepAll S.K M' H' ds vs → E.rt (.ref p) (upd H' p (.lst vs))
  | .bk env L => ∀ σ H' M', To M H M' H' → Sim S.K M' H' L → EnvR S.K M' H' env σ → E.bk σ H'
  | .ct env L => ∀ σ H' M', To M H M' H' → Sim S.K M' H' L → EnvR S.K M' H' env σ → E.ct σ H'
  | .exc e env L => ∀ σ cls dd H' M', To M H M' H' → Sim S.K M' H' L → EnvR S.K M' H' env σ → XR S.K S.ct M' e cls dd H' → W σ cls dd H'
  | .no => False
theorem PostS.ext {M M1 : Mu} {H H1 : Hp} {E : Ends} (x : To M H M1 H1) : ∀ {r : SR}, PostS S W M H E r → PostS S W M1 H1 E r
  | .nx _ _, q => fun σ H' M' x2 s r => q σ H' M' (x.trans x2) s r
  | .rt _ _, q => fun σ H' M' x2 s r => q σ H' M' (x.trans x2) s r
  | .rf _ _, q => fun H' M' vs p x2 s r => q H' M' vs p (x.trans x2) s r
  | .bk _ _, q => fun σ H' M' x2 s r => q σ H' M' (x.trans x2) s r
  | .ct _ _, q => fun σ H' M' x2 s r => q σ H' M' (x.trans x2) s r
  | .exc _ _ _, q => fun σ c dd H' M' x2 s r z => q σ c dd H' M' (x.trans x2) s r z
  | .no, q => q
def tS (S : Sg) (W : St → WH) (f : DS) : TS := fun E σ H => ∃ env L M, EnvR S.K M H env σ ∧ Sim S.K M H L ∧ PostS S W M H E (f env L)
/-- an expression's result, then what follows in the statement -/
def R.toS {α : Type} (r : R α) (env : DEnv) (k : α → LH → SR) : SR := match r with
  | .ok a L => k a L
  | .exc e L => .exc e env L
  | .no => .no
theorem PostS.expr {α : Type} {M : Mu} {H : Hp} {E : Ends} {env : DEnv} {σ : St} {k : α → LH → SR} {P : α → LH → Mu → Hp → Prop} : ∀ {r : R α}, EnvR S.K M H env σ → PostS S W M H E (r.toS env k) →
    (∀ a L1 M1 H1, To M H M1 H1 → Sim S.K M1 H1 L1 → PostS S W M1 H1 E (k a L1) → P a L1 M1 H1) → PostG S (W σ) M H P r
  | .ok a L, _, h, i => fun H' M' x s => i a L M' H' x s (PostS.ext x h)
  | .exc e L, he, h, _ => fun c dd H' M' x s r => h σ c dd H' M' x s (he.mono x) r
  | .no, _, h, _ => h
/-! ### one behind the other -/
def sSeq (f g : DS) : DS := fun env L => match f env L with
  | .nx env1 L1 => g env1 L1
  | r => r
theorem tS_seq {f g : DS} (E : Ends) (σ : St) (H : Hp) : tS S W (sSeq f g) E σ H → tSeq (tS S W f) (tS S W g) E σ H := by
  rintro ⟨env, L, M, he, hs, hp⟩
  refine ⟨env, L, M, he, hs, ?_⟩
  unfold sSeq at hp
  cases e : f env L with
  | nx env1 L1 =>
    rw [e] at hp
    exact fun σ1 H1 M1 x s r => ⟨env1, L1, M1, r, s, PostS.ext x hp⟩
  | rt d L1 => rw [e] at hp; exact hp
  | rf d L1 => rw [e] at hp; exact hp
  | bk d L1 => rw [e] at hp; exact hp
  | ct d L1 => rw [e] at hp; exact hp
  | exc d L1 L2 => rw [e] at hp; exact hp
  | no => rw [e] at hp; exact hp
theorem ss_cons {st : Stmt} {rest : List Stmt} {f g : DS} (h1 : PS X st (tS S W f)) (h2 : PSs X rest (tS S W g)) : PSs X (st :: rest) (tS S W (sSeq f g)) := pss_imp (pss_cons h1 h2) (tS_seq)
theorem ss_one {st : Stmt} {f : DS} (h1 : PS X st (tS S W f)) : PSs X [st] (tS S W f) := pss_one h1
def sNext : DS := fun env L => .nx env L
theorem ss_nil : PSs X [] (tS S W sNext) := pss_imp pss_nil fun E σ H ⟨env, L, M, he, hs, hp⟩ => hp σ H M To.refl hs he
theorem s_pass {pos : Pos} : PS X (.Pass pos) (tS S W sNext) := ps_imp ps_pass fun E σ H ⟨env, L, M, he, hs, hp⟩ => hp σ H M To.refl hs he
/-! ### x = e, e, return e -/
def sSet (i : Nat) (f : DE) : DS := fun env L => (f env L).toS env fun d L1 => .nx (env.set i (some d)) L1
theorem s_set {i : Nat} {x : Str} {e : Expr} {f : DE} {pos pos' : Pos} (h : ∀ te, PE X e te → PS X (.Assign [.Name x pos'] e pos) (tAsg te (gName i))) (he : PE X e (tD S W f)) : PS X (.Assign [.Name x pos'] e pos) (tS S W (sSet i f)) := ps_imp (h _ he) fun E σ H => by
  rintro ⟨env, L, M, he, hs, hp⟩
  refine ⟨env, L, M, he, hs, PostS.expr he hp fun d L1 M1 H1 x1 s1 q v r => ?_⟩
  exact q _ H1 M1 To.refl s1 ((he.mono x1).set r)
def sExpr (f : DE) : DS := fun env L => (f env L).toS env fun _ L1 => .nx env L1
theorem s_expr {e : Expr} {f : DE} {pos : Pos} (he : PE X e (tD S W f)) (hs : swapsWith e none pos.line X.env = pure false := by rfl) : PS X (.Expr e pos) (tS S W (sExpr f)) := ps_imp (ps_expr he hs) fun E σ H => by
  rintro ⟨env, L, M, he, hs, hp⟩
  refine ⟨env, L, M, he, hs, PostS.expr he hp fun d L1 M1 H1 x1 s1 q v r => ?_⟩
  exact q _ H1 M1 To.refl s1 (he.mono x1)
def sRet (f : DE) : DS := fun env L => (f env L).toS env fun d L1 => .rt d L1
theorem s_ret {e : Expr} {f : DE} {pos : Pos} (he : PE X e (tD S W f)) : PS X (.Return (some e) pos) (tS S W (sRet f)) := ps_imp (ps_ret he) fun E σ H => by
  rintro ⟨env, L, M, he, hs, hp⟩
  refine ⟨env, L, M, he, hs, PostS.expr he hp fun d L1 M1 H1 x1 s1 q v r => ?_⟩
  exact q _ H1 M1 To.refl s1 r
def sRetN : DS := fun _ L => .rt .non L
theorem s_retN {pos : Pos} : PS X (.Return none pos) (tS S W sRetN) := ps_imp ps_retN fun E σ H ⟨env, L, M, he, hs, hp⟩ => hp _ H M To.refl hs rfl
def sIf (t : DT) (f g : DS) : DS := fun env L => (t env L).toS env fun b L1 => if b = true then f env L1 else g env L1
theorem s_if {c : Expr} {a b : List Stmt} {t : DT} {f g : DS} {pos : Pos} (hc : PT X c (tT S W t)) (ha : PSs X a (tS S W f)) (hb : PSs X b (tS S W g)) : PS X (.If c a b pos) (tS S W (sIf t f g)) := ps_imp (ps_if hc ha hb) fun E σ H => by
  rintro ⟨env, L, M, he, hs, hp⟩
  refine ⟨env, L, M, he, hs, PostS.expr he hp fun d L1 M1 H1 x1 s1 q => ?_⟩
  show if d = true then _ else _
  split
  · rename_i e
    rw [if_pos e] at q
    exact ⟨env, L1, M1, he.mono x1, s1, q⟩
  · rename_i e
    rw [if_neg e] at q
    exact ⟨env, L1, M1, he.mono x1, s1, q⟩
/-! ### lists that are stored into -/
/-- the reading of an expression that makes a new list with the items that f tells -/
abbrev DF := DEnv → LH → R (List D)
def tF (S : Sg) (W : St → WH) (f : DF) : TE := fun σ H Q => ∃ env L M, EnvR S.K M H env σ ∧ Sim S.K M H L ∧
  PostG S (W σ) M H (fun ds _ M1 H1 => ∀ vs p, H1 p = none → RepAll S.K M1 H1 ds vs → Q (.ref p) (upd H1 p (.lst vs))) (f env L)
/-- a new object may be stored into -/
theorem To.add {K : PySem.W.Frag} {M : Mu} {H : Hp} {L : LH} {p : Addr} {u : HO} (s : Sim K M H L) (hn : H p = none) : To M H ⟨M.m ++ [p], M.x⟩ (upd H p u) :=
  have x : To M H M (upd H p u) := To.new hn
  ⟨x.keep, x.live, x.tabs, ⟨[p], rfl, fun a ha => by rw [List.mem_singleton.mp ha]; exact fun z => z.ne hn⟩, x.x, x.frz⟩
theorem Sim.add {K : PySem.W.Frag} {M : Mu} {H : Hp} {L : LH} {p : Addr} {u : HO} {o : LO} (s : Sim K M H L) (hn : H p = none) (r : RepU K M H p o u) :
    To M H ⟨M.m ++ [p], M.x⟩ (upd H p u) ∧ Sim K ⟨M.m ++ [p], M.x⟩ (upd H p u) (L ++ [o]) := by
  have x : To M H ⟨M.m ++ [p], M.x⟩ (upd H p u) := To.add s hn
  have pm := (nm_new s hn).1
  refine ⟨x, ⟨by simp [s.len], ?_, fun n a o' e1 e2 => ?_, fun a ha => x.live a (s.xs a ha), fun p hp => x.tabs p hp (s.tb p hp)⟩⟩
  · rw [List.nodup_append]
    exact ⟨s.nod, by simp, fun a ha b hb => by rw [List.mem_singleton.mp hb]; exact fun z => pm (z ▸ ha)⟩
  · by_cases hlt : n < M.m.length
    · have e1' : M.m[n]? = some a := by
        have q : (M.m ++ [p])[n]? = some a := e1
        rw [List.getElem?_append_left hlt] at q
        exact q
      have e2' : L[n]? = some o' := by
        rw [List.getElem?_append_left (by rw [← s.len]; exact hlt)] at e2
        exact e2
      have ap : a ≠ p := fun z => pm (z ▸ List.mem_of_getElem? e1')
      exact (s.at_ n a o' e1' e2').keep x (upd_ne ap)
    · have hn2 : n = M.m.length := by
        have q : (M.m ++ [p])[n]? = some a := e1
        have := (List.getElem?_eq_some_iff.mp q).1
        simp at this
        omega
      subst hn2
      have q : (M.m ++ [p])[M.m.length]? = some a := e1
      simp at q
      subst q
      rw [s.len] at e2
      simp at e2
      subst e2
      exact ⟨u, upd_same, r.mono x⟩
theorem at_end {M : Mu} {L : LH} {p : Addr} {K : PySem.W.Frag} {H : Hp} (s : Sim K M H L) : (M.m ++ [p])[L.length]? = some p := by
  rw [← s.len]
  simp
def sNew (i : Nat) (f : DF) : DS := fun env L => (f env L).toS env fun ds L1 => .nx (env.set i (some (.ref L1.length))) (L1 ++ [.lst ds])
theorem s_new {i : Nat} {x : Str} {e : Expr} {f : DF} {pos pos' : Pos} (h : ∀ te, PE X e te → PS X (.Assign [.Name x pos'] e pos) (tAsg te (gName i))) (he : PE X e (tF S W f)) : PS X (.Assign [.Name x pos'] e pos) (tS S W (sNew i f)) := ps_imp (h _ he) fun E σ H => by
  rintro ⟨env, L, M, he, hs, hp⟩
  refine ⟨env, L, M, he, hs, PostS.expr he hp fun ds L1 M1 H1 x1 s1 q vs p hn r => ?_⟩
  obtain ⟨g, s2⟩ := s1.add (o := .lst ds) hn ⟨vs, rfl, r⟩
  exact q _ _ _ g s2 (((he.mono x1).mono g).set ⟨p, rfl, at_end s1⟩)
theorem df_lst {es : List Expr} {pos : Pos} {g : DA} (ha : PA X es (tDA S W g)) : PE X (.List es pos) (tF S W fun env L => (g env L).bind fun ds L1 => if fits ds.length then .ok ds L1 else .no) := pe_imp (pe_lst ha) fun σ H Q => by
  rintro ⟨env, L, M, he, hs, hp⟩
  refine ⟨env, L, M, he, hs, PostG.seq hp fun ds L1 M1 H1 x1 s1 q vs r => ?_⟩
  split at q
  · rename_i hf
    exact ⟨by rw [r.len]; exact fits_ok hf, fun p hn => q H1 M1 To.refl s1 vs p hn r⟩
  · exact q.elim
/-- return of a list that is new -/
def sRetF (f : DF) : DS := fun env L => (f env L).toS env fun ds L1 => .rf ds L1
theorem s_retF {e : Expr} {f : DF} {pos : Pos} (he : PE X e (tF S W f)) : PS X (.Return (some e) pos) (tS S W (sRetF f)) := ps_imp (ps_ret he) fun E σ H => by
  rintro ⟨env, L, M, he, hs, hp⟩
  refine ⟨env, L, M, he, hs, PostS.expr he hp fun ds L1 M1 H1 x1 s1 q vs p hn r => ?_⟩
  exact q H1 M1 vs p To.refl s1 hn r
/-- x, y = e, a new list that is stored into -/
def sParF (i j : Nat) (f : DE) (g : DF) : DS := fun env L => (f env L).toS env fun a L1 => (g env L1).toS env fun ds L2 => .nx ((env.set i (some a)).set j (some (.ref L2.length))) (L2 ++ [.lst ds])
theorem s_parF {st : Stmt} {a b : Expr} {i j : Nat} {f : DE} {g : DF} (h : ∀ t, PA X [a, b] t → PS X st (tPar i j t)) (hp : ∀ ta tb, PE X a ta → PE X b tb → PA X [a, b] (tCons ta (tCons tb tNil))) (ha : PE X a (tD S W f)) (hb : PE X b (tF S W g)) : PS X st (tS S W (sParF i j f g)) :=
  ps_imp (h _ (hp _ _ ha hb)) fun E σ H => by
  rintro ⟨env, L, M, he, hs, hp⟩
  refine ⟨env, L, M, he, hs, PostS.expr he hp fun d L1 M1 H1 x1 s1 q v rv => ?_⟩
  refine ⟨env, L1, M1, he.mono x1, s1, PostS.expr (he.mono x1) q fun ds L2 M2 H2 x2 s2 q2 vs p hn r => ?_⟩
  refine ⟨v, .ref p, rfl, ?_⟩
  obtain ⟨g, s3⟩ := s2.add (o := .lst ds) hn ⟨vs, rfl, r⟩
  have he2 := (he.mono x1).mono x2
  exact q2 _ _ _ g s3 (((he2.mono g).set ((rv.mono x2).mono g)).set ⟨p, rfl, at_end s2⟩)
def fRep (f g : DE) : DF := fun env L => (f env L).bind fun a L1 => (g env L1).bind fun b L2 => match lstD L2 a, b with
  | some xs, .int k => if repOk xs.length k then .ok (List.replicate k.toNat xs).flatten L2 else .no
  | _, _ => .no
theorem df_rep {a b : Expr} {pos : Pos} {f g : DE} (ha : PE X a (tD S W f)) (hb : PE X b (tD S W g)) : PE X (.BinOp a .Mult b pos) (tF S W (fRep f g)) := pe_imp (pe_op op_rep ha hb) fun σ H Q => by
  rintro ⟨env, L, M, he, hs, hp⟩
  refine ⟨env, L, M, he, hs, PostG.seq hp fun a L1 M1 H1 x1 s1 q x ra => ⟨env, L1, M1, he.mono x1, s1, PostG.seq q fun b L2 M2 H2 x2 s2 q2 y rb => ?_⟩⟩
  split at q2
  · rename_i xs k e
    split at q2
    · rename_i hf
      obtain ⟨p, vs, rfl, h, r⟩ := lstD_ok s2 (ra.mono x2) e
      unfold repOk at hf
      rw [Bool.and_eq_true] at hf
      obtain ⟨f3, f4⟩ := of_decide_eq_true hf.1
      exact ⟨p, k, vs, rfl, rb, h, f3, f4, by rw [r.len]; exact fits_ok hf.2, fun l hn => q2 H2 M2 To.refl s2 _ l hn (r.rep k.toNat)⟩
    · exact q2.elim
  · exact q2.elim
/-- list(x) -/
def fListOf (g : DA) : DF := fun env L => (g env L).bind fun ds L1 => match ds with
  | [d] => (match seqD L1 d with
    | some (_, xs) => .ok xs L1
    | none => .no)
  | _ => .no
theorem df_listOf {a : Expr} {p pos : Pos} {g : DA} (h : ∀ t, PA X [a] t → PE X (.Call (.Name "list" p) [a] [] pos) (tCB (fun xs H Q => ∃ p ys, xs = [.ref p] ∧ (SqL X.K H p ys ∨ SqT X.K H p ys) ∧ ∀ l, H l = none → Q (.ref l) (upd H l (.lst ys))) t)) (hK : X.K = S.K) (ha : PA X [a] (tDA S W g)) :
    PE X (.Call (.Name "list" p) [a] [] pos) (tF S W (fListOf g)) := pe_imp (h _ ha) fun σ H Q => by
  rintro ⟨env, L, M, he, hs, hp⟩
  refine ⟨env, L, M, he, hs, PostG.seq hp fun ds L1 M1 H1 x1 s1 q vs r => ?_⟩
  split at q
  · rename_i d
    split at q
    · rename_i b xs e
      obtain ⟨v, rfl, rv⟩ := r.single
      obtain ⟨a, us, rfl, hq, ru⟩ := seqD_ok s1 rv e
      refine ⟨a, us, rfl, ?_, fun l hn => q H1 M1 To.refl s1 us l hn ru⟩
      rw [hK]
      cases b with
      | true => exact .inr hq
      | false => exact .inl hq
    · exact q.elim
  · exact q.elim
/-! ### an object that may be stored into is changed -/
theorem Sim.put {K : PySem.W.Frag} {M : Mu} {H : Hp} {L : LH} {n : Nat} {a : Addr} {o : LO} {u : HO} (s : Sim K M H L) (hm : M.m[n]? = some a) (hl : n < L.length) (hu : ∀ H', To M H M H' → RepU K M H' a o u) (hnf : ∀ o', L[n]? ≠ some (.lck o')) (hut : ∀ ps, u ≠ .tbl ps := by exact fun _ z => nomatch z) :
    To M H M (upd H a u) ∧ Sim K M (upd H a u) (L.set n o) := by
  have ma : a ∈ M.m := List.mem_of_getElem? hm
  have x : To M H M (upd H a u) := ⟨fun b w nb e _ => by rw [upd_ne (fun z : b = a => nb (by rw [z]; exact ma))]; exact e, fun b e => Liv.upd hut fun _ => e, fun p hp t => by
    obtain ⟨w, e, r⟩ := s.at_ n a L[n] hm (List.getElem?_eq_getElem hl)
    exact tabS_upd t (fun ps z => by rw [e] at z; exact r.nt.1 ps (Option.some.inj z)) (fun c q z => by rw [e] at z; exact r.nt.2 c q (Option.some.inj z)), To.refl.m, To.refl.x, fun b ob w e => by
    have nb : b ≠ a := fun z => by
      obtain ⟨w', e', r⟩ := s.at_ n a L[n] hm (List.getElem?_eq_getElem hl)
      rw [z, e'] at e
      exact r.nfz (fun o' z => hnf o' (by rw [List.getElem?_eq_getElem hl, z])) ob w (Option.some.inj e)
    rw [upd_ne nb]; exact e⟩
  refine ⟨x, ⟨by simp [s.len], s.nod, fun k b w e1 e2 => ?_, fun b hb => x.live b (s.xs b hb), fun p hp => x.tabs p hp (s.tb p hp)⟩⟩
  by_cases hk : n = k
  · subst hk
    have eb : a = b := Option.some.inj (hm.symm.trans e1)
    subst eb
    rw [List.getElem?_set_self hl] at e2
    have ew : o = w := Option.some.inj e2
    subst ew
    exact ⟨u, upd_same, hu _ x⟩
  · rw [List.getElem?_set_ne hk] at e2
    have ab : b ≠ a := fun z => by
      subst z
      have h1 := (List.getElem?_eq_some_iff.mp hm)
      have h2 := (List.getElem?_eq_some_iff.mp e1)
      exact hk ((List.getElem_inj s.nod).mp (h1.2.trans h2.2.symm))
    exact (s.at_ k b w e1 e2).keep x (upd_ne ab)
def isRefL (a : D) (L : LH) : Bool := match a with
  | .ref n => (match L[n]? with
    | some (.lst _) => true
    | _ => false)
  | _ => false
def kAppend (a b : D) (L : LH) : R D := match a with
  | .ref n => (match L[n]? with
    | some (.lst ds) => if decide (ds.length < 16777216) then .ok .non (L.set n (.lst (ds ++ [b]))) else .no
    | _ => .no)
  | _ => .no
def dAppend (f g : DE) : DE := fun env L => (f env L).bind fun a L1 => if isRefL a L1 then (g env L1).bind fun b L2 => kAppend a b L2 else .no
theorem isRefL_ok {M : Mu} {H : Hp} {L : LH} {a : D} {x : V} (hs : Sim S.K M H L) (ra : Rep S.K M H a x) (e : isRefL a L = true) : ∃ n p ds vs, a = .ref n ∧ x = .ref p ∧ M.m[n]? = some p ∧ L[n]? = some (.lst ds) ∧ H p = some (.lst vs) ∧ RepAll S.K M H ds vs := by
  cases a with
  | ref n =>
    obtain ⟨p, rfl, hm⟩ := ra
    have e' : (match L[n]? with | some (.lst _) => true | _ => false) = true := e
    cases el : L[n]? with
    | none => rw [el] at e'; cases e'
    | some o =>
      rw [el] at e'
      cases o with
      | dic _ => cases e'
      | tdc _ => cases e'
      | lck _ => cases e'
      | ins _ _ => cases e'
      | lst ds =>
        obtain ⟨_, h1, vs, rfl, rv⟩ := hs.at_ n p _ hm el
        exact ⟨n, p, ds, vs, rfl, rfl, hm, el, h1, rv⟩
  | _ => cases e
theorem tDA_one {g : DE} {env : DEnv} {σ : St} {H1 : Hp} {M1 : Mu} {L1 : LH} {k : D → LH → R D} {Q : VK} {P : List V → Hp → Prop} (he : EnvR S.K M1 H1 env σ) (s1 : Sim S.K M1 H1 L1) (q : PostG S (W σ) M1 H1 (PV S Q) ((g env L1).bind k))
    (i : ∀ b L2 M2 H2 y, To M1 H1 M2 H2 → Sim S.K M2 H2 L2 → Rep S.K M2 H2 b y → PostG S (W σ) M2 H2 (PV S Q) (k b L2) → P [y] H2) : tDA S W (daCons g daNil) σ H1 P := by
  refine ⟨env, L1, M1, he, s1, ?_⟩
  show PostG S (W σ) M1 H1 (PVA S P) ((g env L1).bind fun a L1 => R.bind (daNil env L1) fun b L2 => .ok (a :: b) L2)
  revert q
  cases eg : g env L1 with
  | ok b L2 =>
    intro q H2 M2 x2 s2 v rv
    obtain ⟨y, rfl, ry⟩ := RepAll.single rv
    exact i b L2 M2 H2 y x2 s2 ry (PostG.ext x2 q)
  | exc ex L2 => exact fun q => q
  | no => exact fun q => q
theorem de_append {o e : Expr} {f g : DE} {pos apos : Pos} (h : ∀ to t, PE X o to → PA X [e] t → PE X (.Call (.Attribute o "append" apos) [e] [] pos) (tBM X.K "list" rAppend to t)) (ho : PE X o (tD S W f)) (he : PA X [e] (tDA S W (daCons g daNil))) :
    PE X (.Call (.Attribute o "append" apos) [e] [] pos) (tD S W (dAppend f g)) := pe_imp (h _ _ ho he) fun σ H Q => by
  rintro ⟨env, L, M, he, hs, hp⟩
  refine ⟨env, L, M, he, hs, PostG.seq hp fun a L1 M1 H1 x1 s1 q x ra => ?_⟩
  split at q
  · rename_i er
    obtain ⟨n, p, ds0, vs0, rfl, rfl, hm, el0, h0, _⟩ := isRefL_ok s1 ra er
    refine ⟨Or.inl ⟨rfl, _, Or.inl (Or.inl h0)⟩, tDA_one (he.mono x1) s1 q fun b L2 M2 H2 y x2 s2 ry q2 => ?_⟩
    unfold kAppend at q2
    cases el : L2[n]? with
    | none => simp only [el] at q2; exact q2.elim
    | some o =>
      cases o with
      | dic ds => simp only [el] at q2; exact q2.elim
      | tdc _ => simp only [el] at q2; exact q2.elim
      | lck _ => simp only [el] at q2; exact q2.elim
      | ins _ _ => simp only [el] at q2; exact q2.elim
      | lst ds =>
        simp only [el] at q2
        split at q2
        · rename_i hf
          have hm := x2.get hm
          obtain ⟨_, h1, vs, rfl, rv⟩ := s2.at_ n p _ hm el
          have hl2 : n < L2.length := (List.getElem?_eq_some_iff.mp el).1
          refine ⟨p, vs, y, rfl, rfl, h1, by rw [rv.len, sizeLine_eq]; exact of_decide_eq_true hf, ?_⟩
          obtain ⟨x3, s3⟩ := s2.put (u := .lst (vs ++ [y])) (o := .lst (ds ++ [b])) hm hl2 (fun H' x' => ⟨_, rfl, (RepAll.mono x' _ _ rv).app (RepAll.one (ry.mono x'))⟩) (fun _ z => by rw [el] at z; cases z)
          exact q2 _ _ x3 s3 _ rfl
        · exact q2.elim
  · exact q.elim
/-! ### x[i] = e -/
def kSetIx (a i d : D) (L : LH) : R Unit := match a, i with
  | .ref n, .int k => (match L[n]? with
    | some (.lst ds) => (match ixN ds.length k with
      | some j => .ok () (L.set n (.lst (ds.set j d)))
      | none => .no)
    | _ => .no)
  | _, _ => .no
def sSetIx (f g h : DE) : DS := fun env L => (h env L).toS env fun d L1 => (f env L1).toS env fun a L2 => (g env L2).toS env fun i L3 => (kSetIx a i d L3).toS env fun _ L4 => .nx env L4
theorem s_setIx {o i e : Expr} {f g h : DE} {pos p2 : Pos} (hh : ∀ to ti te, PE X o to → PE X i ti → PE X e te → PS X (.Assign [.Subscript o i p2] e pos) (tAsg te (gSub to ti rSetL))) (ho : PE X o (tD S W f)) (hi : PE X i (tD S W g)) (he : PE X e (tD S W h)) :
    PS X (.Assign [.Subscript o i p2] e pos) (tS S W (sSetIx f g h)) := ps_imp (hh _ _ _ ho hi he) fun E σ H => by
  rintro ⟨env, L, M, he, hs, hp⟩
  refine ⟨env, L, M, he, hs, PostS.expr he hp fun d L1 M1 H1 x1 s1 q v rd => ?_⟩
  refine ⟨env, L1, M1, he.mono x1, s1, PostS.expr (he.mono x1) q fun a L2 M2 H2 x2 s2 q2 x ra => ?_⟩
  refine ⟨env, L2, M2, (he.mono x1).mono x2, s2, PostS.expr ((he.mono x1).mono x2) q2 fun i L3 M3 H3 x3 s3 q3 y ri => ?_⟩
  have ra' := ra.mono x3
  unfold kSetIx at q3
  split at q3
  · rename_i n k
    obtain ⟨p, rfl, hm⟩ := ra'
    cases el : L3[n]? with
    | none => simp only [el] at q3; exact q3.elim
    | some o =>
      cases o with
      | dic ds => simp only [el] at q3; exact q3.elim
      | tdc _ => simp only [el] at q3; exact q3.elim
      | lck _ => simp only [el] at q3; exact q3.elim
      | ins _ _ => simp only [el] at q3; exact q3.elim
      | lst ds =>
        simp only [el] at q3
        cases ej : ixN ds.length k with
        | none => simp only [ej] at q3; exact q3.elim
        | some j =>
          simp only [ej] at q3
          obtain ⟨_, h1, vs, rfl, rv⟩ := s3.at_ n p _ hm el
          have hl3 : n < L3.length := (List.getElem?_eq_some_iff.mp el).1
          refine ⟨p, vs, k, j, rfl, ri, h1, by rw [rv.len]; exact ej, ?_⟩
          have rd' := (rd.mono x2).mono x3
          obtain ⟨x4, s4⟩ := s3.put (u := .lst (vs.set j v)) (o := .lst (ds.set j d)) hm hl3 (fun H' x' => ⟨_, rfl, RepAll.set (rd'.mono x') j (RepAll.mono x' _ _ rv)⟩) (fun _ z => by rw [el] at z; cases z)
          exact q3 σ _ M3 x4 s4 ((((he.mono x1).mono x2).mono x3).mono x4)
  · exact q3.elim
end DL

set_option Elab.async false
set_option linter.all false
set_option maxRecDepth 100000
set_option maxHeartbeats 1000000
namespace DL
open PySem PySem.Spec L2
variable [Tbs]
open PyProof.Rows (envOfC)
variable {S : Sg} {X : Cx} {W : St → WH}
/-! ### a def's local objects are let go at its end -/
mutual
/-- no object from b on is in it -/
def low (b : Nat) : D → Bool
  | .ref n => decide (n < b)
  | .tup ds => lowAll b ds
  | .lst ds => lowAll b ds
  | .frl ds => lowAll b ds
  | .dic ks => lowKV b ks
  | .tdc ks => lowTK b ks
  | _ => true
def lowAll (b : Nat) : List D → Bool
  | [] => true
  | d :: ds => low b d && lowAll b ds
def lowKV (b : Nat) : List (Key × D) → Bool
  | [] => true
  | kd :: ds => low b kd.2 && lowKV b ds
def lowTK (b : Nat) : List (D × D) → Bool
  | [] => true
  | kd :: ds => low b kd.1 && low b kd.2 && lowTK b ds
end
def lowO (b : Nat) : LO → Bool
  | .lst ds => lowAll b ds
  | .dic ks => lowKV b ks
  | .tdc ks => lowTK b ks
  | .lck o => lowO b o
  | .ins _ ds => lowAll b ds
mutual
/-- objects from b on become values -/
def frzD (b : Nat) (L : LH) : D → Option D
  | .ref n => if n < b then some (.ref n) else (match L[n]? with
    | some (.lst ds) => if lowAll b ds then some (.lst ds) else none
    | some (.dic ks) => if lowKV b ks then some (.dic ks) else none
    | some (.tdc ks) => if lowTK b ks then some (.tdc ks) else none
    | _ => none)
  | .tup ds => (frzAll b L ds).map .tup
  | d => if low b d then some d else none
def frzAll (b : Nat) (L : LH) : List D → Option (List D)
  | [] => some []
  | d :: ds => match frzD b L d, frzAll b L ds with
    | some x, some r => some (x :: r)
    | _, _ => none
end
/-- at a def's end: its own objects become values and go; where they cannot, all stays -/
def leave (L L' : LH) (d : D) : R D := if L'.length = L.length then .ok d L' else
  (match frzD L.length L' d with
  | some d' => if (L'.take L.length).all (lowO L.length) then .ok d' (L'.take L.length) else .ok d L'
  | none => .ok d L')
section
variable {K : PySem.W.Frag} {M M' : Mu} {H : Hp} {ex ey : List Addr}
theorem take_get {m : List Addr} {ex : List Addr} {n : Nat} {a : Addr} (h : (m ++ ex)[n]? = some a) (hn : n < m.length) : m[n]? = some a := by
  rw [List.getElem?_append_left hn] at h; exact h
theorem nap {a : Addr} {m ex : List Addr} (h : a ∉ m ++ ex) : a ∉ m := fun z => h (List.mem_append_left _ z)
theorem nap' {a : Addr} {m ex : List Addr} (h : a ∉ ex ++ m) : a ∉ m := fun z => h (List.mem_append_right _ z)
theorem SqM.low {a : Addr} {vs : List V} (h : SqM K (M.m ++ ex) H a vs) : SqM K M.m H a vs := by
  rcases h with ⟨o, h, d, n⟩ | h
  · exact .inl ⟨o, h, d, nap n⟩
  · exact .inr h
mutual
theorem low_ok : ∀ (d : D) (v : V), low M.m.length d = true → Rep K ⟨M.m ++ ex, ey ++ M.x⟩ H d v → Rep K M H d v
  | .non, _, _, h => h
  | .bl _, _, _, h => h
  | .int _, _, _, h => h
  | .str _, _, _, h => h
  | .tup ds, _, e, ⟨a, vs, e1, h, r⟩ => ⟨a, vs, e1, SqM.low h, lowAll_ok ds vs e r⟩
  | .lst ds, _, e, ⟨a, vs, e1, h, n, n2, r⟩ => ⟨a, vs, e1, h, nap n, nap' n2, lowAll_ok ds vs e r⟩
  | .frl ds, _, e, ⟨a, vs, e1, h, r⟩ => ⟨a, vs, e1, h.elim (fun z => .inl ⟨z.1, nap z.2.1, nap' z.2.2⟩) .inr, lowAll_ok ds vs e r⟩
  | .dic ds, _, e, ⟨a, vs, e1, h, n, n2, r⟩ => ⟨a, vs, e1, h, nap n, nap' n2, lowKV_ok ds vs e r⟩
  | .tdc ds, _, e, ⟨a, vs, e1, h, n, n2, r⟩ => ⟨a, vs, e1, h, nap n, nap' n2, lowTK_ok ds vs e r⟩
  | .ref n, _, e, ⟨a, e1, h⟩ => ⟨a, e1, take_get h (of_decide_eq_true e)⟩
  | .obj _, _, _, h => h
  | .glo _, _, _, h => h
theorem lowAll_ok : ∀ (ds : List D) (vs : List V), lowAll M.m.length ds = true → RepAll K ⟨M.m ++ ex, ey ++ M.x⟩ H ds vs → RepAll K M H ds vs
  | [], _, _, h => h
  | d :: ds, _, e, ⟨v, r, e1, h, t⟩ => by
    have e' : (low M.m.length d && lowAll M.m.length ds) = true := e
    rw [Bool.and_eq_true] at e'
    exact ⟨v, r, e1, low_ok d v e'.1 h, lowAll_ok ds r e'.2 t⟩
theorem lowKV_ok : ∀ (ds : List (Key × D)) (vs : List (Key × V)), lowKV M.m.length ds = true → RepKV K ⟨M.m ++ ex, ey ++ M.x⟩ H ds vs → RepKV K M H ds vs
  | [], _, _, h => h
  | kd :: ds, _, e, ⟨v, r, e1, h, t⟩ => by
    have e' : (low M.m.length kd.2 && lowKV M.m.length ds) = true := e
    rw [Bool.and_eq_true] at e'
    exact ⟨v, r, e1, low_ok kd.2 v e'.1 h, lowKV_ok ds r e'.2 t⟩
theorem lowTK_ok : ∀ (ds : List (D × D)) (vs : List (KT × Addr × V)), lowTK M.m.length ds = true → RepTK K ⟨M.m ++ ex, ey ++ M.x⟩ H ds vs → RepTK K M H ds vs
  | [], _, _, h => h
  | kd :: ds, _, e, ⟨k, b, v, r, e1, hk, h1, h, t⟩ => by
    have e' : (low M.m.length kd.1 && low M.m.length kd.2 && lowTK M.m.length ds) = true := e
    rw [Bool.and_eq_true, Bool.and_eq_true] at e'
    exact ⟨k, b, v, r, e1, hk, low_ok kd.1 _ e'.1.1 h1, low_ok kd.2 v e'.1.2 h, lowTK_ok ds r e'.2 t⟩
end
theorem nmem_right {m ex : List Addr} {n : Nat} {a : Addr} (hd : (m ++ ex).Nodup) (h : (m ++ ex)[n]? = some a) (hn : ¬ n < m.length) : a ∉ m := fun z => by
  rw [List.getElem?_append_right (by omega)] at h
  exact (List.nodup_append.mp hd).2.2 a z a (List.mem_of_getElem? h) rfl
mutual
theorem frz_ok {L : LH} (s : Sim K ⟨M.m ++ ex, ey ++ M.x⟩ H L) (hx : ∀ a ∈ M.x, a ∉ ex) : ∀ (d : D) (v : V) (d' : D), frzD M.m.length L d = some d' → Rep K ⟨M.m ++ ex, ey ++ M.x⟩ H d v → Rep K M H d' v
  | .ref n, v, d', e, ⟨a, e1, h⟩ => by
    unfold frzD at e
    split at e
    · rename_i hn
      cases e
      exact ⟨a, e1, take_get h hn⟩
    · rename_i hn
      have na : a ∉ M.m := nmem_right s.nod h hn
      have ae : a ∈ ex := by
        have h' : (M.m ++ ex)[n]? = some a := h
        rw [List.getElem?_append_right (by omega)] at h'
        exact List.mem_of_getElem? h'
      have nx : a ∉ M.x := fun z => hx a z ae
      split at e
      · rename_i ds el
        split at e
        · rename_i hl
          cases e
          obtain ⟨_, q, vs, rfl, r⟩ := s.at_ n a _ h el
          exact ⟨a, vs, e1, q, na, nx, lowAll_ok ds vs hl r⟩
        · cases e
      · rename_i ks el
        split at e
        · rename_i hl
          cases e
          obtain ⟨_, q, vs, rfl, r⟩ := s.at_ n a _ h el
          exact ⟨a, vs, e1, .inl q, na, nx, lowKV_ok ks vs hl r⟩
        · cases e
      · rename_i ks el
        split at e
        · rename_i hl
          cases e
          obtain ⟨_, q, vs, rfl, r⟩ := s.at_ n a _ h el
          exact ⟨a, vs, e1, .inl q, na, nx, lowTK_ok ks vs hl r⟩
        · cases e
      · cases e
  | .tup ds, v, d', e, ⟨a, vs, e1, h, r⟩ => by
    have e' : (frzAll M.m.length L ds).map D.tup = some d' := e
    cases q : frzAll M.m.length L ds with
    | none => rw [q] at e'; cases e'
    | some xs =>
      rw [q] at e'
      cases e'
      exact ⟨a, vs, e1, SqM.low h, frzAll_ok s hx ds vs xs q r⟩
  | .non, _, _, e, h => by unfold frzD at e; split at e <;> cases e; exact h
  | .bl _, _, _, e, h => by unfold frzD at e; split at e <;> cases e; exact h
  | .int _, _, _, e, h => by unfold frzD at e; split at e <;> cases e; exact h
  | .str _, _, _, e, h => by unfold frzD at e; split at e <;> cases e; exact h
  | .lst _, _, _, e, h => by unfold frzD at e; split at e; cases e; exact low_ok _ _ (by assumption) h; cases e
  | .frl _, _, _, e, h => by unfold frzD at e; split at e; cases e; exact low_ok _ _ (by assumption) h; cases e
  | .dic _, _, _, e, h => by unfold frzD at e; split at e; cases e; exact low_ok _ _ (by assumption) h; cases e
  | .tdc _, _, _, e, h => by unfold frzD at e; split at e; cases e; exact low_ok _ _ (by assumption) h; cases e
  | .obj _, _, _, e, h => by unfold frzD at e; split at e <;> cases e; exact h
  | .glo _, _, _, e, h => by unfold frzD at e; split at e <;> cases e; exact h
theorem frzAll_ok {L : LH} (s : Sim K ⟨M.m ++ ex, ey ++ M.x⟩ H L) (hx : ∀ a ∈ M.x, a ∉ ex) : ∀ (ds : List D) (vs : List V) (ds' : List D), frzAll M.m.length L ds = some ds' → RepAll K ⟨M.m ++ ex, ey ++ M.x⟩ H ds vs → RepAll K M H ds' vs
  | [], _, _, e, h => by cases e; exact h
  | d :: ds, _, ds', e, ⟨v, r, e1, h, t⟩ => by
    have e' : (match frzD M.m.length L d, frzAll M.m.length L ds with | some x, some r => some (x :: r) | _, _ => none) = some ds' := e
    cases hd : frzD M.m.length L d with
    | none => rw [hd] at e'; cases e'
    | some x =>
      cases hr : frzAll M.m.length L ds with
      | none => rw [hd, hr] at e'; cases e'
      | some xs =>
        rw [hd, hr] at e'
        cases e'
        exact ⟨v, r, e1, frz_ok s hx d v x hd h, frzAll_ok s hx ds r xs hr t⟩
end
theorem lowU_ok {a : Addr} : ∀ {o : LO} {u : HO}, lowO M.m.length o = true → RepU K ⟨M.m ++ ex, ey ++ M.x⟩ H a o u → RepU K M H a o u
  | .lst ds, _, lo, ⟨vs, e, r⟩ => ⟨vs, e, lowAll_ok ds vs lo r⟩
  | .dic ks, _, lo, ⟨vs, e, r⟩ => ⟨vs, e, lowKV_ok ks vs lo r⟩
  | .tdc ks, _, lo, ⟨vs, e, r⟩ => ⟨vs, e, lowTK_ok ks vs lo r⟩
  | .lck o, _, lo, ⟨ob, u, e, r⟩ => ⟨ob, u, e, lowU_ok (o := o) lo r⟩
  | .ins c ds, _, lo, ⟨C, ns, dx, us, e, h, h2, r⟩ => ⟨C, ns, dx, us, e, h, h2, lowAll_ok ds us lo r⟩
theorem Sim.cut {L : LH} (s : Sim K ⟨M.m ++ ex, ey ++ M.x⟩ H L) (hl : (L.take M.m.length).all (lowO M.m.length) = true) : Sim K M H (L.take M.m.length) := by
  have len : (M.m ++ ex).length = L.length := s.len
  rw [List.length_append] at len
  refine ⟨by rw [List.length_take]; omega, (List.nodup_append.mp s.nod).1, fun n a o e1 e2 => ?_, fun a ha => s.xs a (List.mem_append_right _ ha), s.tb⟩
  have hn : n < M.m.length := (List.getElem?_eq_some_iff.mp e1).1
  have lo : lowO M.m.length o = true := List.all_eq_true.mp hl o (List.mem_of_getElem? e2)
  have e3 : (M.m ++ ex)[n]? = some a := by rw [List.getElem?_append_left hn]; exact e1
  have e4 : L[n]? = some o := by
    rw [List.getElem?_take, if_pos hn] at e2
    exact e2
  obtain ⟨u, q, r⟩ := s.at_ n a o e3 e4
  exact ⟨u, q, lowU_ok lo r⟩
end
section
variable {M M' : Mu} {H H' : Hp} {L L' : LH}
mutual
theorem Rep.lessx {K : PySem.W.Frag} {m x y : List Addr} : ∀ (d : D) (v : V), Rep K ⟨m, y ++ x⟩ H d v → Rep K ⟨m, x⟩ H d v
  | .non, _, h => h
  | .bl _, _, h => h
  | .int _, _, h => h
  | .str _, _, h => h
  | .tup ds, _, ⟨a, vs, e1, h, r⟩ => ⟨a, vs, e1, h, RepAll.lessx ds vs r⟩
  | .lst ds, _, ⟨a, vs, e1, h, n, n2, r⟩ => ⟨a, vs, e1, h, n, nap' n2, RepAll.lessx ds vs r⟩
  | .frl ds, _, ⟨a, vs, e1, h, r⟩ => ⟨a, vs, e1, h.elim (fun z => .inl ⟨z.1, z.2.1, nap' z.2.2⟩) .inr, RepAll.lessx ds vs r⟩
  | .dic ds, _, ⟨a, vs, e1, h, n, n2, r⟩ => ⟨a, vs, e1, h, n, nap' n2, RepKV.lessx ds vs r⟩
  | .tdc ds, _, ⟨a, vs, e1, h, n, n2, r⟩ => ⟨a, vs, e1, h, n, nap' n2, RepTK.lessx ds vs r⟩
  | .ref _, _, h => h
  | .obj _, _, h => h
  | .glo _, _, h => h
theorem RepAll.lessx {K : PySem.W.Frag} {m x y : List Addr} : ∀ (ds : List D) (vs : List V), RepAll K ⟨m, y ++ x⟩ H ds vs → RepAll K ⟨m, x⟩ H ds vs
  | [], _, h => h
  | d :: ds, _, ⟨v, r, e1, h, t⟩ => ⟨v, r, e1, Rep.lessx d v h, RepAll.lessx ds r t⟩
theorem RepKV.lessx {K : PySem.W.Frag} {m x y : List Addr} : ∀ (ds : List (Key × D)) (vs : List (Key × V)), RepKV K ⟨m, y ++ x⟩ H ds vs → RepKV K ⟨m, x⟩ H ds vs
  | [], _, h => h
  | kd :: ds, _, ⟨v, r, e1, h, t⟩ => ⟨v, r, e1, Rep.lessx kd.2 v h, RepKV.lessx ds r t⟩
theorem RepTK.lessx {K : PySem.W.Frag} {m x y : List Addr} : ∀ (ds : List (D × D)) (vs : List (KT × Addr × V)), RepTK K ⟨m, y ++ x⟩ H ds vs → RepTK K ⟨m, x⟩ H ds vs
  | [], _, h => h
  | kd :: ds, _, ⟨k, b, v, r, e1, hk, h1, h, t⟩ => ⟨k, b, v, r, e1, hk, Rep.lessx kd.1 _ h1, Rep.lessx kd.2 v h, RepTK.lessx ds r t⟩
end
theorem RepU.lessx {K : PySem.W.Frag} {m x y : List Addr} {a : Addr} : ∀ {o : LO} {u : HO}, RepU K ⟨m, y ++ x⟩ H a o u → RepU K ⟨m, x⟩ H a o u
  | .lst ds, _, ⟨vs, e, r⟩ => ⟨vs, e, RepAll.lessx ds vs r⟩
  | .dic ds, _, ⟨vs, e, r⟩ => ⟨vs, e, RepKV.lessx ds vs r⟩
  | .tdc ds, _, ⟨vs, e, r⟩ => ⟨vs, e, RepTK.lessx ds vs r⟩
  | .lck o, _, ⟨ob, u, e, r⟩ => ⟨ob, u, e, RepU.lessx r⟩
  | .ins c ds, _, ⟨C, n, dx, us, e, h, h2, r⟩ => ⟨C, n, dx, us, e, h, h2, RepAll.lessx ds us r⟩
theorem Sim.lessx {K : PySem.W.Frag} {m x y : List Addr} (s : Sim K ⟨m, y ++ x⟩ H L) : Sim K ⟨m, x⟩ H L :=
  ⟨s.len, s.nod, fun n a o e1 e2 => by
    obtain ⟨u, e, r⟩ := s.at_ n a o e1 e2
    exact ⟨u, e, r.lessx⟩, fun a ha => s.xs a (List.mem_append_right _ ha), s.tb⟩
theorem To.cut {m x m2 x2 : List Addr} (t : To ⟨m, x⟩ H ⟨m2, x2⟩ H') : To ⟨m, x⟩ H ⟨m, x⟩ H' := ⟨t.keep, t.live, t.tabs, To.refl.m, To.refl.x, t.frz⟩
/-- at a def's end -/
theorem leave_ok {w : WH} {d : D} (x : To M H M' H') (s : Sim S.K M H L) (s' : Sim S.K M' H' L') {v : V} {Q : VK} (hp : PostG S w M H (PV S Q) (leave L L' d)) (r : Rep S.K M' H' d v) : Q v H' := by
  unfold leave at hp
  split at hp
  · exact hp H' M' x s' v r
  · obtain ⟨ex, e, f⟩ := x.m
    obtain ⟨ey, e2, fy⟩ := x.x
    obtain ⟨m', x'⟩ := M'
    obtain ⟨m, x0⟩ := M
    simp only at e e2
    subst e e2
    split at hp
    · rename_i d' ed
      split at hp
      · rename_i hall
        have hlen : L.length = m.length := s.len.symm
        rw [hlen] at hp ed hall
        exact hp H' ⟨m, x0⟩ x.cut (Sim.cut (M := ⟨m, x0⟩) s' hall) v (frz_ok (M := ⟨m, x0⟩) s' (fun a ha z => f a z (s.xs a ha)) d v d' ed r)
      · exact hp H' _ x s' v r
    · exact hp H' _ x s' v r
end
/-! ### what a def is worth -/
def startD (N : Nat) (ds : List D) : DEnv := ds.map some ++ List.replicate (N - ds.length) none
def leaveX (L L' : LH) (e : Exn) : R D := if L'.length = L.length then .exc e L' else (match e.val with
  | none => if (L'.take L.length).all (lowO L.length) then .exc e (L'.take L.length) else .exc e L'
  | some d => (match frzD L.length L' d with
    | some d' => if (L'.take L.length).all (lowO L.length) then .exc ⟨e.cls, some d'⟩ (L'.take L.length) else .exc e L'
    | none => .exc e L'))
def fnD (N : Nat) (body : DS) : List D → LH → R D := fun ds L => match body (startD N ds) L with
  | .nx _ L' => leave L L' .non
  | .rt d L' => leave L L' d
  | .rf ds L' => leave L L' (.lst ds)
  | .exc e _ L' => leaveX L L' e
  | _ => .no
/-- .. of a def that hands back a new list -/
def fnF (N : Nat) (body : DS) : List D → LH → R (List D) := fun ds L => match body (startD N ds) L with
  | .rf ds L' => .ok ds L'
  | .exc e _ L' => (leaveX L L' e).bind fun _ _ => .no
  | _ => .no
def spF (S : Sg) (n : Nat) (F : List D → LH → R (List D)) : Sp := fun vs H Q E => ∃ ds L M, ds.length = n ∧ RepAll S.K M H ds vs ∧ Sim S.K M H L ∧ PostG S E M H (fun xs _ M1 H1 => ∀ us p, H1 p = none → RepAll S.K M1 H1 xs us → Q (.ref p) (upd H1 p (.lst us))) (F ds L)
def spD (S : Sg) (n : Nat) (F : List D → LH → R D) : Sp := fun vs H Q E => ∃ ds L M, ds.length = n ∧ RepAll S.K M H ds vs ∧ Sim S.K M H L ∧ PostG S E M H (PV S Q) (F ds L)
theorem start_rep {K : PySem.W.Frag} {M : Mu} {H : Hp} {N : List Str} {ds : List D} {vs : List V} (r : RepAll K M H ds vs) : EnvR K M H (startD N.length ds) (L2.start N vs) := by
  have hl := r.len
  refine ⟨by simp [L2.start, startD, hl], fun i d e => ?_⟩
  unfold startD at e
  by_cases hi : i < ds.length
  · rw [List.getElem?_append_left (by simpa using hi), List.getElem?_map] at e
    cases q : ds[i]? with
    | none => rw [q] at e; cases e
    | some d' =>
      rw [q] at e
      have e' : d' = d := by simpa using e
      subst e'
      obtain ⟨v, e1, rv⟩ := r.get q
      refine ⟨v, ?_, rv⟩
      unfold L2.start
      rw [List.getElem?_append_left (by simp [hl]; exact hi), List.getElem?_map, e1]
      rfl
  · rw [List.getElem?_append_right (by simp; omega)] at e
    have := List.mem_of_getElem? e
    rw [List.mem_replicate] at this
    cases this.2
theorem leaveX_ok {w : WH} {P : D → LH → Mu → Hp → Prop} {M M' : Mu} {H H' : Hp} {L L' : LH} {e : Exn} (x : To M H M' H') (s : Sim S.K M H L) (s' : Sim S.K M' H' L') {cls : Value} {dd : Option Addr} (hp : PostG S w M H P (leaveX L L' e))
    (r : XR S.K S.ct M' e cls dd H') : w cls dd H' := by
  unfold leaveX at hp
  split at hp
  · exact hp cls dd H' M' x s' r
  · obtain ⟨ex, q, f⟩ := x.m
    obtain ⟨ey, e2, fy⟩ := x.x
    obtain ⟨m', x'⟩ := M'
    obtain ⟨m, x0⟩ := M
    simp only at q e2
    subst q e2
    have hlen : L.length = m.length := s.len.symm
    obtain ⟨C, c1, c2, c3⟩ := id r
    split at hp
    · rename_i ev
      split at hp
      · rename_i hall
        rw [hlen] at hall hp
        exact hp cls dd H' ⟨m, x0⟩ x.cut (Sim.cut (M := ⟨m, x0⟩) s' hall) ⟨C, c1, c2, by rw [ev]; trivial⟩
      · exact hp cls dd H' _ x s' r
    · rename_i d ev
      rw [ev] at c3
      obtain ⟨a, v, d1, d2, d3, d4⟩ := c3
      split at hp
      · rename_i d' ed
        split at hp
        · rename_i hall
          rw [hlen] at hall hp ed
          exact hp cls dd H' ⟨m, x0⟩ x.cut (Sim.cut (M := ⟨m, x0⟩) s' hall) ⟨C, c1, c2, ⟨a, v, d1, d2, nap d3, frz_ok (M := ⟨m, x0⟩) s' (fun a ha z => f a z (s.xs a ha)) d v d' ed d4⟩⟩
        · exact hp cls dd H' _ x s' r
      · exact hp cls dd H' _ x s' r
/-- the body's reading, from what the def is worth -/
theorem fn_reading {N : List Str} {n : Nat} {body : DS} {vs : List V} {H : Hp} {Q : VK} {E : XK} (h : spD S n (fnD N.length body) vs H Q E) :
    tS S (fun _ => E) body { nx := fun _ H' => Q .non H', rt := Q } (L2.start N vs) H := by
  obtain ⟨ds, L, M, hn, r, s, hp⟩ := h
  refine ⟨startD N.length ds, L, M, start_rep r, s, ?_⟩
  unfold fnD at hp
  cases e : body (startD N.length ds) L with
  | nx env L' => rw [e] at hp; exact fun σ H' M' x s' _ => leave_ok x s s' hp rfl
  | rt d L' => rw [e] at hp; exact fun v H' M' x s' r' => leave_ok x s s' hp r'
  | rf xs L' => rw [e] at hp; exact fun H' M' vs p x s' hn r' => leave_ok (x.trans (To.new hn)) s (s'.new hn) hp (rep_lst_new s' hn r')
  | bk env L' => rw [e] at hp; exact hp.elim
  | ct env L' => rw [e] at hp; exact hp.elim
  | exc ex env L' => rw [e] at hp; exact fun σ c dd H' M' x s' _ z => leaveX_ok x s s' hp z
  | no => rw [e] at hp; exact hp.elim
theorem fn_readingF {N : List Str} {n : Nat} {body : DS} {vs : List V} {H : Hp} {Q : VK} {E : XK} (h : spF S n (fnF N.length body) vs H Q E) :
    tS S (fun _ => E) body { nx := fun _ H' => Q .non H', rt := Q } (L2.start N vs) H := by
  obtain ⟨ds, L, M, hn, r, s, hp⟩ := h
  refine ⟨startD N.length ds, L, M, start_rep r, s, ?_⟩
  unfold fnF at hp
  cases e : body (startD N.length ds) L with
  | nx env L' => rw [e] at hp; exact hp.elim
  | rt d L' => rw [e] at hp; exact hp.elim
  | rf xs L' =>
    rw [e] at hp
    intro H' M' us p x s' hp' r'
    exact hp H' M' x s' us p hp' r'
  | bk env L' => rw [e] at hp; exact hp.elim
  | ct env L' => rw [e] at hp; exact hp.elim
  | exc ex env L' =>
    rw [e] at hp
    intro σ c dd H' M' x s' _ z
    simp only at hp
    refine leaveX_ok (w := E) (P := fun _ _ _ _ => True) x s s' ?_ z
    revert hp
    cases leaveX L L' ex with
    | ok d L2 => exact fun h => h.elim
    | exc e2 L2 => exact fun h => h
    | no => exact fun h => h.elim
  | no => rw [e] at hp; exact hp.elim
theorem spF_len {n : Nat} {F : List D → LH → R (List D)} {ps : List Str} (hn : ps.length = n) : ∀ vs H Q E, spF S n F vs H Q E → vs.length = ps.length := fun vs H Q E ⟨ds, L, M, h1, r, _⟩ => by rw [r.len, h1, hn]
/-- a call of a def that hands back a new list -/
def dCallF (n : Nat) (F : List D → LH → R (List D)) (g : DA) : DF := fun env L => (g env L).bind fun ds L1 => if ds.length = n then F ds L1 else .no
theorem df_call {n : Nat} {F : List D → LH → R (List D)} {x : Str} {es : List Expr} {g : DA} {p pos : Pos}
    (hc : ∀ t, PA X es t → PE X (.Call (.Name x p) es [] pos) (tCallS (spF S n F) W t)) (ha : PA X es (tDA S W g)) : PE X (.Call (.Name x p) es [] pos) (tF S W (dCallF n F g)) := pe_imp (hc _ ha) fun σ H Q => by
  rintro ⟨env, L, M, he, hs, hp⟩
  refine ⟨env, L, M, he, hs, PostG.seq hp fun ds L1 M1 H1 x1 s1 q vs r => ?_⟩
  split at q
  · rename_i hn
    exact ⟨ds, L1, M1, hn, r, s1, q⟩
  · exact q.elim
theorem spD_len {n : Nat} {F : List D → LH → R D} {ps : List Str} (hn : ps.length = n) : ∀ vs H Q E, spD S n F vs H Q E → vs.length = ps.length := fun vs H Q E ⟨ds, L, M, h1, r, _⟩ => by rw [r.len, h1, hn]
/-- a call of a def of the text -/
def dCall (n : Nat) (F : List D → LH → R D) (g : DA) : DE := fun env L => (g env L).bind fun ds L1 => if ds.length = n then F ds L1 else .no
theorem de_call {n : Nat} {F : List D → LH → R D} {x : Str} {es : List Expr} {g : DA} {p pos : Pos}
    (hc : ∀ t, PA X es t → PE X (.Call (.Name x p) es [] pos) (tCallS (spD S n F) W t)) (ha : PA X es (tDA S W g)) : PE X (.Call (.Name x p) es [] pos) (tD S W (dCall n F g)) := pe_imp (hc _ ha) fun σ H Q => by
  rintro ⟨env, L, M, he, hs, hp⟩
  refine ⟨env, L, M, he, hs, PostG.seq hp fun ds L1 M1 H1 x1 s1 q vs r => ?_⟩
  split at q
  · rename_i hn
    exact ⟨ds, L1, M1, hn, r, s1, q⟩
  · exact q.elim
/-- what of a context a body's terms lean on -/
abbrev wishOf (W : St → WH) : WX := fun c d σ H => W σ c d H
/-- THE RULE for a def: its body's term -/
theorem fun_okD {P : Program} {w : World} {K : PySem.W.Frag} {ct : Nat → Option Addr} {mg : Str → Option Value} {base : Heap} {x qual : Str} {st : Stmt} {f : Addr} {fd : FuncData} {N ps : List Str} {k n : Nat} {body : DS} (F : Fun K x qual st f fd) (Sc : FnScope N ps (defScope st)) (hn : ps.length = n)
    (hbody : ∀ (cdv : Value) (A : Around) (outer : List Env) (s : Shared) (H : Hp) (E : XK), Room k (A.deeper (envOfC qual (defScope st) s.heap.objs.size f cdv)) →
      PSs (cxOf (L2.CX P w) P w K mg base N qual (defScope st) f cdv A outer s H E) (defBody st) (tS ⟨K, ct⟩ (fun _ => E) body)) : FnOk P w K mg base (L2.CX P w) (k + 1) f fd ps (spD ⟨K, ct⟩ n (fnD N.length body)) :=
  F.okX Sc (spD_len hn) fun cdv A outer s H vs Q E hr h => ⟨_, hbody cdv A outer s H E hr, fn_reading h⟩
theorem fun_okF {P : Program} {w : World} {K : PySem.W.Frag} {ct : Nat → Option Addr} {mg : Str → Option Value} {base : Heap} {x qual : Str} {st : Stmt} {f : Addr} {fd : FuncData} {N ps : List Str} {k n : Nat} {body : DS} (F : Fun K x qual st f fd) (Sc : FnScope N ps (defScope st)) (hn : ps.length = n)
    (hbody : ∀ (cdv : Value) (A : Around) (outer : List Env) (s : Shared) (H : Hp) (E : XK), Room k (A.deeper (envOfC qual (defScope st) s.heap.objs.size f cdv)) →
      PSs (cxOf (L2.CX P w) P w K mg base N qual (defScope st) f cdv A outer s H E) (defBody st) (tS ⟨K, ct⟩ (fun _ => E) body)) : FnOk P w K mg base (L2.CX P w) (k + 1) f fd ps (spF ⟨K, ct⟩ n (fnF N.length body)) :=
  F.okX Sc (spF_len hn) fun cdv A outer s H vs Q E hr h => ⟨_, hbody cdv A outer s H E hr, fn_readingF h⟩
end DL

set_option Elab.async false
set_option linter.all false
set_option maxRecDepth 100000
set_option maxHeartbeats 1000000
namespace DL
open PySem PySem.Spec L2
variable [Tbs]
open PyProof.Rows (envOfC)
variable {S : Sg} {X : Cx} {W : St → WH}
/-! ### what is walked -/
/-- an iterator gives the items, whatever else happens -/
structure IterOk (S : Sg) (M : Mu) (H1 : Hp) (items : List D) (J : It) (G : Hp → Prop) (Y : Nat → Hp → V → Hp → Prop) : Prop where
  w : Walk J items.length G Y
  g : ∀ M' H', To M H1 M' H' → G H'
  y : ∀ M' H2 L2 i x H3, To M H1 M' H2 → Sim S.K M' H2 L2 → i < items.length → Y i H2 x H3 → To M' H2 M' H3 ∧ Sim S.K M' H3 L2 ∧ ∃ d, items[i]? = some d ∧ Rep S.K M' H3 d x
abbrev DI := DEnv → LH → R (List D)
def tI (S : Sg) (W : St → WH) (f : DI) : TI := fun σ H Rr => ∃ env L M, EnvR S.K M H env σ ∧ Sim S.K M H L ∧ PostG S (W σ) M H (fun items _ M1 H1 => ∀ J G Y, IterOk S M1 H1 items J G Y → Rr J H1) (f env L)
theorem pi_imp {tg iter : Expr} {t t' : TI} (h : PI X tg iter t) (i : ∀ σ H Q, t' σ H Q → t σ H Q) : PI X tg iter t' := ⟨fun pins s σ H Q I q => h.run pins s σ H Q I (i σ H Q q)⟩
/-- a list or a tuple -/
def iSeq (K : PySem.W.Frag) (tl : TE) : TI := fun σ H Rr => tl σ H fun x H1 => ∃ a, x = .ref a ∧ ((∃ xs, SqL K H1 a xs ∧ Rr (Itl K a) H1) ∨ (∃ xs, SqT K H1 a xs ∧ Rr (Itt K a) H1))
theorem pi_seq {tg l : Expr} {tl : TE} (hl : PE X l tl) : PI X tg l (iSeq X.K tl) := by
  refine ⟨fun pins s σ H Rr I h => ?_⟩
  refine thn (hl.run pins s σ H _ I h) fun v s1 ⟨x, H1, I1, r1, q1⟩ => ?_
  obtain ⟨a, e, q1⟩ := q1
  subst e
  cases r1
  rcases q1 with ⟨xs, hq, q⟩ | ⟨xs, hq, q⟩
  · obtain ⟨its, rv, p, hz⟩ := I1.list hq
    refine PySem.wpAny_pyIter_list p.isList ?_
    refine ⟨s1.heap.objs.size, [s1.heap.objs.size], _, _, H1, rfl, I1.kept (t' := s1.toks) fun b o e => Heap.get?_push_of_some _ e, turn_list a _, ⟨_, Heap.get?_push_size _ rfl, rfl, rfl⟩, fun b hb => ?_, q⟩
    have e : b = s1.heap.objs.size := by simpa using hb
    rw [e]
    exact I1.fpOk (Nat.le_refl _) (I1.hok.fresh (Nat.le_refl _))
  · obtain ⟨its, rv, p, hz⟩ := I1.tuple hq
    refine PySem.wpAny_pyIter_tuple (show s1.heap.IsTuple a its.toArray from p) ?_
    refine ⟨s1.heap.objs.size, [s1.heap.objs.size], _, _, H1, rfl, I1.kept (t' := s1.toks) fun b o e => Heap.get?_push_of_some _ e, turn_tuple a _, ⟨_, Heap.get?_push_size _ rfl, rfl, rfl⟩, fun b hb => ?_, q⟩
    have e : b = s1.heap.objs.size := by simpa using hb
    rw [e]
    exact I1.fpOk (Nat.le_refl _) (I1.hok.fresh (Nat.le_refl _))
/-- the items of a value (nothing that may be stored into) -/
def itemsV : D → Option (List D)
  | .tup ds => some ds
  | .lst ds => some ds
  | .frl ds => some ds
  | _ => none
def iVal (f : DE) : DI := fun env L => (f env L).bind fun d L1 => match itemsV d with
  | some xs => .ok xs L1
  | none => .no
theorem iter_list {M : Mu} {H1 : Hp} {a : Addr} {ds : List D} {vs : List V} (hl : ∀ M' H', To M H1 M' H' → SqL S.K H' a vs) (r : RepAll S.K M H1 ds vs) : IterOk S M H1 ds (Itl S.K a) (fun H => SqL S.K H a vs) (YAt vs) where
  w := by rw [← r.len]; exact walk_list
  g := hl
  y := fun M' H2 L2 i x H3 xx s hi y => by
    obtain ⟨e, q⟩ := y
    subst e
    obtain ⟨d, e1, rd⟩ := r.get' q
    exact ⟨To.refl, s, d, e1, rd.mono xx⟩
theorem iter_tup {M : Mu} {H1 : Hp} {a : Addr} {ds : List D} {vs : List V} (hl : SqM S.K M.m H1 a vs) (r : RepAll S.K M H1 ds vs) : IterOk S M H1 ds (Itt S.K a) (fun H => SqT S.K H a vs) (YAt vs) where
  w := by rw [← r.len]; exact walk_tup
  g := fun M' H' x => (hl.mono x).t
  y := fun M' H2 L2 i x H3 xx s hi y => by
    obtain ⟨e, q⟩ := y
    subst e
    obtain ⟨d, e1, rd⟩ := r.get' q
    exact ⟨To.refl, s, d, e1, rd.mono xx⟩
theorem di_seq {tg l : Expr} {f : DE} (hK : X.K = S.K) (hl : PE X l (tD S W f)) : PI X tg l (tI S W (iVal f)) := pi_imp (pi_seq hl) fun σ H Rr => by
  rintro ⟨env, L, M, he, hs, hp⟩
  refine ⟨env, L, M, he, hs, PostG.seq hp fun d L1 M1 H1 x1 s1 q v r => ?_⟩
  rw [hK]
  cases d with
  | tup ds =>
    obtain ⟨a, vs, rfl, h, ra⟩ := r
    exact ⟨a, rfl, .inr ⟨vs, h.t, q H1 M1 To.refl s1 _ _ _ (iter_tup h ra)⟩⟩
  | lst ds =>
    obtain ⟨a, vs, rfl, h, n1, n2, ra⟩ := r
    exact ⟨a, rfl, .inl ⟨vs, .inl (.inl h), q H1 M1 To.refl s1 _ _ _ (iter_list (fun M' H' x => .inl (.inl (x.keep a _ n1 h (fun ps z => nomatch z)))) ra)⟩⟩
  | frl ds =>
    obtain ⟨a, vs, rfl, h, ra⟩ := r
    exact ⟨a, rfl, .inl ⟨vs, h.l, q H1 M1 To.refl s1 _ _ _ (iter_list (fun M' H' x => (h.mono x).l) ra)⟩⟩
  | _ => exact q.elim
def rangeD (lo : Int) (n : Nat) : List D := (List.range n).map fun (i : Nat) => .int (lo + (i : Int))
def inR (j : Int) : Bool := decide (-(2 ^ 62) ≤ j ∧ j < 2 ^ 62)
def iRange1 (g : DA) : DI := fun env L => (g env L).bind fun ds L1 => match ds with
  | [.int j] => if inR j then .ok (rangeD 0 j.toNat) L1 else .no
  | _ => .no
def iRange2 (g : DA) : DI := fun env L => (g env L).bind fun ds L1 => match ds with
  | [.int i, .int j] => if inR i && inR j then .ok (rangeD i (j - i).toNat) L1 else .no
  | _ => .no
theorem iter_range {M : Mu} {H1 : Hp} {lo : Int} {n : Nat} : IterOk S M H1 (rangeD lo n) (Itr lo n) (fun _ => True) (YFn fun i => .int (lo + i)) where
  w := by
    have : (rangeD lo n).length = n := by simp [rangeD]
    rw [this]
    exact walk_range
  g := fun _ _ _ => trivial
  y := fun M' H2 L2 i x H3 xx s hi y => by
    obtain ⟨e, q⟩ := y
    subst e
    have hi' : i < n := by simpa [rangeD] using hi
    exact ⟨To.refl, s, .int (lo + i), by simp [rangeD, hi'], q⟩
theorem di_range1 {tg : Expr} {es : List Expr} {g : DA} {p pos : Pos} (h : ∀ t, PA X es t → PI X tg (.Call (.Name "range" p) es [] pos) (iRng1 t)) (ha : PA X es (tDA S W g)) : PI X tg (.Call (.Name "range" p) es [] pos) (tI S W (iRange1 g)) := pi_imp (h _ ha) fun σ H Rr => by
  rintro ⟨env, L, M, he, hs, hp⟩
  refine ⟨env, L, M, he, hs, PostG.seq hp fun ds L1 M1 H1 x1 s1 q vs r => ?_⟩
  split at q
  · rename_i j
    split at q
    · rename_i hj
      obtain ⟨v, rfl, rv⟩ := r.single
      obtain ⟨h1, h2⟩ := of_decide_eq_true hj
      have rv' : v = .int j := rv
      subst rv'
      exact ⟨j, rfl, h1, h2, q H1 M1 To.refl s1 _ _ _ iter_range⟩
    · exact q.elim
  · exact q.elim
theorem di_range2 {tg : Expr} {es : List Expr} {g : DA} {p pos : Pos} (h : ∀ t, PA X es t → PI X tg (.Call (.Name "range" p) es [] pos) (iRng2 t)) (ha : PA X es (tDA S W g)) : PI X tg (.Call (.Name "range" p) es [] pos) (tI S W (iRange2 g)) := pi_imp (h _ ha) fun σ H Rr => by
  rintro ⟨env, L, M, he, hs, hp⟩
  refine ⟨env, L, M, he, hs, PostG.seq hp fun ds L1 M1 H1 x1 s1 q vs r => ?_⟩
  split at q
  · rename_i i j
    split at q
    · rename_i hj
      obtain ⟨v, u, rfl, rv, ru⟩ := r.two
      rw [Bool.and_eq_true] at hj
      obtain ⟨h1, h2⟩ := of_decide_eq_true hj.1
      obtain ⟨h3, h4⟩ := of_decide_eq_true hj.2
      have rv' : v = .int i := rv
      have ru' : u = .int j := ru
      subst rv' ru'
      exact ⟨i, j, rfl, ⟨h1, h2, h3, h4⟩, q H1 M1 To.refl s1 _ _ _ iter_range⟩
    · exact q.elim
  · exact q.elim
/-! ### the targets -/
/-- a target takes a value into the slots -/
abbrev DG := D → DEnv → Option DEnv
def DoesG (S : Sg) (X : Cx) (g : TG) (k : DG) : Prop := ∀ (M : Mu) (H : Hp) (L : LH) (d : D) (v : V) (env env' : DEnv) (σ : St) (Q : St → Hp → Prop), Sim S.K M H L → Rep S.K M H d v → EnvR S.K M H env σ → k d env = some env' → (∀ σ', EnvR S.K M H env' σ' → Q σ' H) → g v σ H Q
def gSet (i : Nat) : DG := fun d env => some (env.set i (some d))
theorem does_gName {i : Nat} : DoesG S X (gName i) (gSet i) := fun M H L d v env env' σ Q hs r he e h => by
  cases e
  exact h _ (he.set r)
def gSet2 (i j : Nat) : DG := fun d env => match d with
  | .tup [a, b] => some ((env.set i (some a)).set j (some b))
  | _ => none
theorem does_gTup2 {K : PySem.W.Frag} {i j : Nat} (hK : K = S.K) : DoesG S X (gTup K 2 (gCons (gName i) (gCons (gName j) gNil))) (gSet2 i j) := fun M H L d v env env' σ Q hs r he e h => by
  unfold gSet2 at e
  split at e
  · rename_i a b
    cases e
    obtain ⟨p, vs, rfl, hq, ra⟩ := r
    obtain ⟨x, y, rfl, rx, ry⟩ := ra.two
    exact ⟨p, [x, y], rfl, by rw [hK]; exact hq.t, rfl, x, [y], rfl, y, [], rfl, rfl, h _ ((he.set rx).set ry)⟩
  · cases e
/-! ### for -/
def forD (k : DG) (body : DS) : List D → DEnv → LH → SR
  | [], env, L => .nx env L
  | d :: ds, env, L => match k d env with
    | none => .no
    | some env1 => match body env1 L with
      | .nx env2 L2 => forD k body ds env2 L2
      | .ct env2 L2 => forD k body ds env2 L2
      | .bk env2 L2 => .nx env2 L2
      | .rt d L2 => .rt d L2
      | .rf d L2 => .rf d L2
      | .exc e env2 L2 => .exc e env2 L2
      | .no => .no
def sFor (f : DI) (k : DG) (body : DS) : DS := fun env L => (f env L).toS env fun items L1 => forD k body items env L1
theorem s_for {tg iter : Expr} {body : List Stmt} {f : DI} {g : TG} {k : DG} {b : DS} {pos : Pos} (h : ∀ wi tb, PI X tg iter wi → PSs X body tb → PS X (.For tg iter body [] pos) (tFor wi g tb)) (hi : PI X tg iter (tI S W f)) (hg : DoesG S X g k) (hb : PSs X body (tS S W b)) :
    PS X (.For tg iter body [] pos) (tS S W (sFor f k b)) := ps_imp (h _ _ hi hb) fun E σ H => by
  rintro ⟨env, L, M, he, hs, hp⟩
  refine ⟨env, L, M, he, hs, PostS.expr he hp fun items L1 M1 H1 x1 s1 q J G Y io => ?_⟩
  have he1 := he.mono x1
  refine for_it io.w (fun i σ' H' => ∃ env' L' M', To M1 H1 M' H' ∧ Sim S.K M' H' L' ∧ EnvR S.K M' H' env' σ' ∧ PostS S W M' H' E (forD k b (items.drop i) env' L')) ⟨env, L1, M1, To.refl, s1, he1, q⟩ (fun i σ' H' _ ⟨_, _, M', x, _⟩ => io.g M' H' x) ?_ ?_
  · rintro i v σ' H' H'' hi ⟨env', L', M', x, s, e, p⟩ y
    obtain ⟨x2, s2, d, ed, rd⟩ := io.y M' H' L' i v H'' x s hi y
    have hd : items.drop i = d :: items.drop (i + 1) := by
      rw [List.drop_eq_getElem_cons hi]
      have := (List.getElem?_eq_some_iff.mp ed).2
      rw [this]
    rw [hd] at p
    have p' : PostS S W M' H'' E (forD k b (d :: items.drop (i + 1)) env' L') := PostS.ext x2 p
    unfold forD at p'
    cases ek : k d env' with
    | none => rw [ek] at p'; exact p'.elim
    | some env1 =>
      rw [ek] at p'
      simp only at p'
      refine hg M' H'' L' d v env' env1 σ' _ s2 rd (e.mono x2) ek fun σ2 e2 => ⟨env1, L', M', e2, s2, ?_⟩
      have x' : To M1 H1 M' H'' := x.trans x2
      cases eb : b env1 L' with
      | nx env2 L2 =>
        rw [eb] at p'
        exact fun σ3 H3 M3 x3 s3 e3 => ⟨env2, L2, M3, x'.trans x3, s3, e3, PostS.ext x3 p'⟩
      | ct env2 L2 =>
        rw [eb] at p'
        exact fun σ3 H3 M3 x3 s3 e3 => ⟨env2, L2, M3, x'.trans x3, s3, e3, PostS.ext x3 p'⟩
      | bk env2 L2 => rw [eb] at p'; exact p'
      | rt d2 L2 => rw [eb] at p'; exact p'
      | rf d2 L2 => rw [eb] at p'; exact p'
      | exc ex env2 L2 => rw [eb] at p'; exact p'
      | no => rw [eb] at p'; exact p'.elim
  · rintro σ' H' ⟨env', L', M', x, s, e, p⟩
    rw [List.drop_length] at p
    exact p σ' H' M' To.refl s e
/-! ### while -/
def whileD (t : DT) (body : DS) : Nat → DEnv → LH → SR
  | 0, _, _ => .no
  | n + 1, env, L => (t env L).toS env fun b L1 => if b = true then (match body env L1 with
      | .nx env2 L2 => whileD t body n env2 L2
      | .ct env2 L2 => whileD t body n env2 L2
      | .bk env2 L2 => .nx env2 L2
      | .rt d L2 => .rt d L2
      | .rf d L2 => .rf d L2
      | .exc e env2 L2 => .exc e env2 L2
      | .no => .no) else .nx env L1
def sWhile (fuel : Nat) (t : DT) (body : DS) : DS := fun env L => whileD t body fuel env L
theorem s_while {c : Expr} {body : List Stmt} {t : DT} {b : DS} {pos : Pos} (fuel : Nat) (h : ∀ tc tb, PT X c tc → PSs X body tb → PS X (.While c body [] pos) (tWhile tc tb)) (hc : PT X c (tT S W t)) (hb : PSs X body (tS S W b)) :
    PS X (.While c body [] pos) (tS S W (sWhile fuel t b)) := ps_imp (h _ _ hc hb) fun E σ H => by
  rintro ⟨env, L, M, he, hs, hp⟩
  refine ⟨fun n σ' H' => ∃ env' L' M', Sim S.K M' H' L' ∧ EnvR S.K M' H' env' σ' ∧ PostS S W M' H' E (whileD t b n env' L'), ⟨fuel, env, L, M, hs, he, hp⟩, ?_⟩
  rintro n σ' H' ⟨env', L', M', s, e, p⟩
  cases n with
  | zero => exact p.elim
  | succ n =>
    refine ⟨env', L', M', e, s, PostS.expr e p fun d L1 M1 H1 x1 s1 q => ?_⟩
    cases d with
    | false => exact q σ' H1 M1 To.refl s1 (e.mono x1)
    | true =>
      have q' : PostS S W M1 H1 E (match b env' L1 with
        | .nx env2 L2 => whileD t b n env2 L2
        | .ct env2 L2 => whileD t b n env2 L2
        | .bk env2 L2 => .nx env2 L2
        | .rt d L2 => .rt d L2
        | .rf d L2 => .rf d L2
        | .exc e env2 L2 => .exc e env2 L2
        | .no => .no) := q
      refine ⟨fun σ2 H2 => ∃ env2 L2 M2, Sim S.K M2 H2 L2 ∧ EnvR S.K M2 H2 env2 σ2 ∧ PostS S W M2 H2 E (whileD t b n env2 L2), fun σ2 H2 z => ⟨n, Nat.lt_succ_self n, z⟩, env', L1, M1, e.mono x1, s1, ?_⟩
      cases eb : b env' L1 with
      | nx env2 L2 => rw [eb] at q'; exact fun σ3 H3 M3 x3 s3 e3 => ⟨env2, L2, M3, s3, e3, PostS.ext x3 q'⟩
      | ct env2 L2 => rw [eb] at q'; exact fun σ3 H3 M3 x3 s3 e3 => ⟨env2, L2, M3, s3, e3, PostS.ext x3 q'⟩
      | bk env2 L2 => rw [eb] at q'; exact q'
      | rt d2 L2 => rw [eb] at q'; exact q'
      | rf d2 L2 => rw [eb] at q'; exact q'
      | exc ex env2 L2 => rw [eb] at q'; exact q'
      | no => rw [eb] at q'; exact q'.elim
end DL

set_option Elab.async false
set_option linter.all false
set_option maxRecDepth 100000
set_option maxHeartbeats 1000000
namespace DL
open PySem PySem.Spec L2
variable [Tbs]
open PyProof.Rows (envOfC)
variable {S : Sg} {X : Cx} {W : St → WH}
/-! ### lists that are being made -/
/-- what is being made: no tuple, no table, no code -/
def Sl (H : Hp) (a : Addr) : Prop := ∃ u, H a = some u ∧ (∀ ob xs, u ≠ .frz ob (.tup xs)) ∧ (∀ ps, u ≠ .tbl ps) ∧ ∀ c q, u ≠ LamX.CodeO c q
theorem Sl.lst {H : Hp} {a : Addr} {xs : List V} (h : H a = some (.lst xs)) : Sl H a := ⟨_, h, (fun _ _ z => nomatch z), (fun _ z => nomatch z), fun c q z => code_lst _ z.symm⟩
theorem Sl.dK {H : Hp} {a : Addr} {xs : List (Key × V)} (h : H a = some (.dK xs)) : Sl H a := ⟨_, h, (fun _ _ z => nomatch z), (fun _ z => nomatch z), fun c q z => code_dK _ z.symm⟩
theorem Sl.tdo {H : Hp} {a b : Addr} {xs : List (KT × Addr × V)} (h : H a = some (.ext (TDo b xs))) : Sl H a := ⟨_, h, (fun _ _ z => nomatch z), (fun _ z => nomatch z), fun c q => code_tdo⟩
theorem Sl.tab {H : Hp} {a P : Addr} {q : Str} {u : HO} (s : Sl H a) (t : LamX.TabS H P q) : LamX.TabS (upd H a u) P q := by
  obtain ⟨w, e, _, h2, h3⟩ := s
  exact tabS_upd t (fun ps z => by rw [e] at z; exact h2 ps (Option.some.inj z)) (fun c q z => by rw [e] at z; exact h3 c q (Option.some.inj z))
section
variable {K : PySem.W.Frag} {M : Mu} {H : Hp} {D0 : Addr} {o : HO}
mutual
theorem Rep.sealed (hx : D0 ∈ M.x) (hl : Sl H D0) : ∀ (d : D) (v : V), Rep K M H d v → Rep K M (upd H D0 o) d v
  | .non, _, h => h
  | .bl _, _, h => h
  | .int _, _, h => h
  | .str _, _, h => h
  | .tup ds, _, ⟨a, vs, e1, h, r⟩ => by
    refine ⟨a, vs, e1, ?_, RepAll.sealed hx hl ds vs r⟩
    rcases h with ⟨ob, h, d, n⟩ | h
    · obtain ⟨u, hd, nt, _⟩ := hl
      exact .inl ⟨ob, (upd_ne (fun z => by rw [z, hd] at h; exact nt _ _ (Option.some.inj h))).trans h, d, n⟩
    · exact .inr h
  | .lst ds, _, ⟨a, vs, e1, h, n, n2, r⟩ => ⟨a, vs, e1, (upd_ne (fun z : a = D0 => n2 (by rw [z]; exact hx))).trans h, n, n2, RepAll.sealed hx hl ds vs r⟩
  | .frl ds, _, ⟨a, vs, e1, h, r⟩ => by
    refine ⟨a, vs, e1, ?_, RepAll.sealed hx hl ds vs r⟩
    rcases h with ⟨h, n, n2⟩ | h
    · have na : a ≠ D0 := fun z : a = D0 => n2 (by rw [z]; exact hx)
      refine .inl ⟨?_, n, n2⟩
      rcases h with h | ⟨ob, h⟩
      · exact .inl ((upd_ne na).trans h)
      · exact .inr ⟨ob, (upd_ne na).trans h⟩
    · exact .inr h
  | .dic ds, _, ⟨a, vs, e1, h, n, n2, r⟩ => ⟨a, vs, e1, h.elim (fun q => .inl ((upd_ne (fun z : a = D0 => n2 (by rw [z]; exact hx))).trans q)) (fun ⟨o, q⟩ => .inr ⟨o, (upd_ne (fun z : a = D0 => n2 (by rw [z]; exact hx))).trans q⟩), n, n2, RepKV.sealed hx hl ds vs r⟩
  | .tdc ds, _, ⟨a, vs, e1, h, n, n2, r⟩ => ⟨a, vs, e1, h.elim (fun q => .inl ((upd_ne (fun z : a = D0 => n2 (by rw [z]; exact hx))).trans q)) (fun ⟨o, q⟩ => .inr ⟨o, (upd_ne (fun z : a = D0 => n2 (by rw [z]; exact hx))).trans q⟩), n, n2, RepTK.sealed hx hl ds vs r⟩
  | .ref _, _, h => h
  | .obj _, _, h => h
  | .glo _, _, h => h
theorem RepAll.sealed (hx : D0 ∈ M.x) (hl : Sl H D0) : ∀ (ds : List D) (vs : List V), RepAll K M H ds vs → RepAll K M (upd H D0 o) ds vs
  | [], _, h => h
  | d :: ds, _, ⟨v, r, e1, h, t⟩ => ⟨v, r, e1, Rep.sealed hx hl d v h, RepAll.sealed hx hl ds r t⟩
theorem RepKV.sealed (hx : D0 ∈ M.x) (hl : Sl H D0) : ∀ (ds : List (Key × D)) (vs : List (Key × V)), RepKV K M H ds vs → RepKV K M (upd H D0 o) ds vs
  | [], _, h => h
  | kd :: ds, _, ⟨v, r, e1, h, t⟩ => ⟨v, r, e1, Rep.sealed hx hl kd.2 v h, RepKV.sealed hx hl ds r t⟩
theorem RepTK.sealed (hx : D0 ∈ M.x) (hl : Sl H D0) : ∀ (ds : List (D × D)) (vs : List (KT × Addr × V)), RepTK K M H ds vs → RepTK K M (upd H D0 o) ds vs
  | [], _, h => h
  | kd :: ds, _, ⟨k, b, v, r, e1, hk, h1, h, t⟩ => ⟨k, b, v, r, e1, hk, Rep.sealed hx hl kd.1 _ h1, Rep.sealed hx hl kd.2 v h, RepTK.sealed hx hl ds r t⟩
end
theorem RepU.sealed {a : Addr} (hx : D0 ∈ M.x) (hl : Sl H D0) : ∀ {ob : LO} {u : HO}, RepU K M H a ob u → RepU K M (upd H D0 o) a ob u
  | .lst ds, _, ⟨vs, e, r⟩ => ⟨vs, e, RepAll.sealed hx hl ds vs r⟩
  | .dic ds, _, ⟨vs, e, r⟩ => ⟨vs, e, RepKV.sealed hx hl ds vs r⟩
  | .tdc ds, _, ⟨vs, e, r⟩ => ⟨vs, e, RepTK.sealed hx hl ds vs r⟩
  | .lck o, _, ⟨ob, u, e, r⟩ => ⟨ob, u, e, RepU.sealed hx hl r⟩
  | .ins c ds, _, ⟨C, n, dx, us, e, h, h2, r⟩ => ⟨C, n, dx, us, e, h, h2, RepAll.sealed hx hl ds us r⟩
theorem Sim.sealed {L : LH} (s : Sim K M H L) (hx : D0 ∈ M.x) (hm : D0 ∉ M.m) (hl : Sl H D0) (ho : ∀ ps, o ≠ HO.tbl ps := by exact fun _ z => nomatch z) : Sim K M (upd H D0 o) L :=
  ⟨s.len, s.nod, fun n a ob e1 e2 => by
    obtain ⟨u, q, r⟩ := s.at_ n a ob e1 e2
    have na : a ≠ D0 := fun z => hm (z ▸ List.mem_of_getElem? e1)
    exact ⟨u, (upd_ne na).trans q, r.sealed hx hl⟩, fun a ha => Liv.upd ho fun _ => s.xs a ha, fun p hp => by
    exact hl.tab (s.tb p hp)⟩
/-- what is being made is new -/
theorem To.make (hn : H D0 = none) : To M H ⟨M.m, D0 :: M.x⟩ (upd H D0 o) :=
  have x : To M H M (upd H D0 o) := To.new hn
  ⟨x.keep, x.live, x.tabs, x.m, ⟨[D0], rfl, fun a ha => by rw [List.mem_singleton.mp ha]; exact fun z => z.ne hn⟩, x.frz⟩
theorem Sim.make {L : LH} (s : Sim K M H L) (hn : H D0 = none) (ho : ∀ ps, o ≠ HO.tbl ps := by exact fun _ z => nomatch z) : Sim K ⟨M.m, D0 :: M.x⟩ (upd H D0 o) L :=
  ⟨s.len, s.nod, fun n a ob e1 e2 => (s.at_ n a ob e1 e2).keep (To.make hn) (upd_ne fun z => by
    have q := s.ms a (List.mem_of_getElem? e1)
    rw [z] at q; exact q hn), fun a ha => by
    rcases List.mem_cons.mp ha with z | z
    · rw [z]; exact ⟨_, upd_same, ho⟩
    · exact (To.new (M := M) hn).live a (s.xs a z), fun p hp => tabS_none (s.tb p hp) hn⟩
theorem To.over {M1 : Mu} {H1 : Hp} (x : To M H M1 H1) (hn : H D0 = none) (hl : Sl H1 D0) (ho : ∀ ps, o ≠ HO.tbl ps := by exact fun _ z => nomatch z) : To M H M1 (upd H1 D0 o) :=
  ⟨fun b u nb hb ht => by
    rw [upd_ne (fun z => by rw [z, hn] at hb; cases hb)]
    exact x.keep b u nb hb ht, fun b hb => Liv.upd ho fun _ => x.live b hb, fun p hp t => by
    exact hl.tab (x.tabs p hp t), x.m, x.x, fun b ob u e => by
    rw [upd_ne (fun z => by rw [z, hn] at e; cases e)]
    exact x.frz b ob u e⟩
end
/-! ### the block's own names -/
def wipeD (env : DEnv) : List Nat → DEnv
  | [] => env
  | v :: vs => (wipeD env vs).set v none
theorem wipe_env {K : PySem.W.Frag} {M : Mu} {H : Hp} {env : DEnv} {σ : St} (h : EnvR K M H env σ) : ∀ vs, EnvR K M H (wipeD env vs) (wipe σ vs)
  | [] => h
  | v :: vs => by
    have ih := wipe_env h vs
    unfold wipeD wipe
    refine ⟨by simp [ih.1], fun i d q => ?_⟩
    by_cases e : v = i
    · subst e
      by_cases hl : v < (wipeD env vs).length
      · rw [List.getElem?_set_self hl] at q; cases q
      · rw [List.set_eq_of_length_le (by omega)] at q
        have := (List.getElem?_eq_some_iff.mp q).1
        omega
    · rw [List.getElem?_set_ne e] at q
      obtain ⟨u, e1, r⟩ := ih.2 i d q
      exact ⟨u, by rw [List.getElem?_set_ne e]; exact e1, r⟩
theorem wipe_set {σ : St} {i : Nat} {v : Option V} : ∀ {vs : List Nat}, i ∈ vs → wipe (σ.set i v) vs = wipe σ vs
  | [], h => nomatch h
  | w :: vs, h => by
    unfold wipe
    by_cases hi : i ∈ vs
    · rw [wipe_set hi]
    · have e : i = w := by
        rcases List.mem_cons.mp h with q | q
        · exact q
        · exact absurd q hi
      subst e
      have : ∀ (vs : List Nat), i ∉ vs → wipe (σ.set i v) vs = (wipe σ vs).set i v := fun vs => by
        induction vs with
        | nil => intro _; rfl
        | cons u us ih =>
          intro hn
          unfold wipe
          rw [ih (fun z => hn (List.mem_cons_of_mem _ z)), List.set_comm _ _ (fun z => hn (by rw [z]; exact List.mem_cons_self))]
      rw [this vs hi, List.set_set]
theorem wipe_wipe {σ : St} : ∀ (vs us : List Nat), (∀ i ∈ us, i ∈ vs) → wipe (wipe σ us) vs = wipe σ vs
  | vs, [], _ => rfl
  | vs, u :: us, h => by
    show wipe ((wipe σ us).set u none) vs = wipe σ vs
    rw [wipe_set (h u List.mem_cons_self), wipe_wipe vs us fun i hi => h i (List.mem_cons_of_mem _ hi)]
/-- a target that stores into the block's own names alone -/
def DoesGV (S : Sg) (vs : List Nat) (g : TG) (k : DG) : Prop := ∀ (M : Mu) (H : Hp) (L : LH) (d : D) (v : V) (env env' : DEnv) (σ : St) (Q : St → Hp → Prop), Sim S.K M H L → Rep S.K M H d v → EnvR S.K M H env σ → k d env = some env' → (∀ σ', EnvR S.K M H env' σ' → wipe σ' vs = wipe σ vs → Q σ' H) → g v σ H Q
theorem doesv_gName {i : Nat} {vs : List Nat} (hi : i ∈ vs) : DoesGV S vs (gName i) (gSet i) := fun M H L d v env env' σ Q hs r he e h => by
  cases e
  exact h _ (he.set r) (wipe_set hi)
theorem doesv_gTup2 {K : PySem.W.Frag} {i j : Nat} {vs : List Nat} (hK : K = S.K) (hi : i ∈ vs) (hj : j ∈ vs) : DoesGV S vs (gTup K 2 (gCons (gName i) (gCons (gName j) gNil))) (gSet2 i j) := fun M H L d v env env' σ Q hs r he e h => by
  unfold gSet2 at e
  split at e
  · rename_i a b
    cases e
    obtain ⟨p, us, rfl, hq, ra⟩ := r
    obtain ⟨x, y, rfl, rx, ry⟩ := ra.two
    exact ⟨p, [x, y], rfl, by rw [hK]; exact hq.t, rfl, x, [y], rfl, y, [], rfl, rfl, h _ ((he.set rx).set ry) (by rw [wipe_set hj, wipe_set hi])⟩
  · cases e
def noX {α : Type} : R α → R α
  | .ok a L => .ok a L
  | _ => .no
abbrev WF : St → WH := fun _ _ _ _ => False
def lcD (k : DG) (vs : List Nat) (t : DT) (e : DE) (env : DEnv) : List D → LH → R (List D)
  | [], L => .ok [] L
  | d :: ds, L => match k d (wipeD env vs) with
    | none => .no
    | some env1 => (noX (t env1 L)).bind fun b L1 => if b = true then (noX (e env1 L1)).bind fun y L2 => (lcD k vs t e env ds L2).bind fun ys L3 => .ok (y :: ys) L3 else lcD k vs t e env ds L1
def dLc (f : DI) (k : DG) (vs : List Nat) (t : DT) (e : DE) : DE := fun env L => (f env L).bind fun items L1 => if fits items.length then (lcD k vs t e env items L1).bind fun ys L2 => .ok (.lst ys) L2 else .no
theorem PostG.noX {α : Type} {M : Mu} {H : Hp} {P : α → LH → Mu → Hp → Prop} {w w' : WH} : ∀ {r : R α}, PostG S w M H P (noX r) → PostG S w' M H P r
  | .ok _ _, h => h
  | .exc _ _, h => h.elim
  | .no, h => h
theorem lcD_noexc {k : DG} {vs : List Nat} {t : DT} {e : DE} {env : DEnv} {w w' : WH} {M : Mu} {H : Hp} {P : List D → LH → Mu → Hp → Prop} : ∀ {ds : List D} {L : LH}, PostG S w M H P (lcD k vs t e env ds L) → PostG S w' M H P (lcD k vs t e env ds L) := by
  intro ds
  have : ∀ (ds : List D) (L : LH), (∃ ys L', lcD k vs t e env ds L = .ok ys L') ∨ lcD k vs t e env ds L = .no := by
    intro ds
    induction ds with
    | nil => exact fun L => .inl ⟨_, _, rfl⟩
    | cons d ds ih =>
      intro L
      unfold lcD
      cases k d (wipeD env vs) with
      | none => exact .inr rfl
      | some env1 =>
        simp only
        cases t env1 L with
        | ok b L1 =>
          cases b with
          | true =>
            show (∃ ys L', ((DL.noX (e env1 L1)).bind fun y L2 => (lcD k vs t e env ds L2).bind fun ys L3 => .ok (y :: ys) L3) = R.ok ys L') ∨ ((DL.noX (e env1 L1)).bind fun y L2 => (lcD k vs t e env ds L2).bind fun ys L3 => .ok (y :: ys) L3) = R.no
            cases e env1 L1 with
            | ok y L2 =>
              show (∃ ys L', ((lcD k vs t e env ds L2).bind fun ys L3 => .ok (y :: ys) L3) = R.ok ys L') ∨ ((lcD k vs t e env ds L2).bind fun ys L3 => .ok (y :: ys) L3) = R.no
              rcases ih L2 with ⟨ys, L', q⟩ | q
              · rw [q]; exact .inl ⟨_, _, rfl⟩
              · rw [q]; exact .inr rfl
            | exc _ _ => exact .inr rfl
            | no => exact .inr rfl
          | false => exact ih L1
        | exc _ _ => exact .inr rfl
        | no => exact .inr rfl
  intro L h
  rcases this ds L with ⟨ys, L', q⟩ | q
  · rw [q] at h ⊢; exact h
  · rw [q] at h; exact h.elim
theorem lc_imp {f : DI} {k : DG} {vs : List Nat} {t : DT} {e : DE} {g : TG} (hg : DoesGV S vs g k) (σ : St) (H : Hp) (Q : VK) : tD S W (dLc f k vs t e) σ H Q → tLc (tI S W f) g (tT S WF t) (tD S WF e) vs σ H Q := by
  rintro ⟨env, L, M, he, hs, hp⟩
  refine ⟨env, L, M, he, hs, PostG.seq hp fun items L1 M1 H1 x1 s1 q J G Y io D0 hn => ?_⟩
  split at q
  case isFalse => exact q.elim
  rename_i hfit
  have he1 := he.mono x1
  have dm := (nm_new s1 hn).1
  have dx := (nm_new s1 hn).2
  have sM : Sim S.K ⟨M1.m, D0 :: M1.x⟩ (upd H1 D0 (.lst [])) L1 := s1.make hn
  -- what is left to do
  refine lc_it io.w (fun i H' => i ≤ items.length ∧ ∃ M' L' acc ds, To M1 H1 M' H' ∧ D0 ∈ M'.x ∧ D0 ∉ M'.m ∧ Sim S.K M' H' L' ∧ H' D0 = some (.lst acc) ∧ RepAll S.K M' H' ds acc ∧ acc.length ≤ i ∧
      PostG S (W σ) M1 H1 (PV S Q) ((lcD k vs t e env (items.drop i) L').bind fun ys L2 => .ok (.lst (ds ++ ys)) L2)) ⟨Nat.zero_le _, ⟨M1.m, D0 :: M1.x⟩, L1, [], [], To.make hn, List.mem_cons_self, dm, sM, upd_same, rfl, Nat.le_refl _, q⟩
    (fun i H' _ ⟨_, M', L', acc, ds, x, _, _, s, hD, r, _, p⟩ => io.g M' H' x) ?_ ?_
  · rintro i v H' H'' hi ⟨_, M', L', acc, ds, x, dx', dm', s, hD, r, hacc, p⟩ y
    obtain ⟨x2, s2, d, ed, rd⟩ := io.y M' H' L' i v H'' x s hi y
    have hd : items.drop i = d :: items.drop (i + 1) := by
      rw [List.drop_eq_getElem_cons hi]
      have := (List.getElem?_eq_some_iff.mp ed).2
      rw [this]
    rw [hd] at p
    unfold lcD at p
    have heM : EnvR S.K M' H'' env σ := he1.mono (x.trans x2)
    cases ek : k d (wipeD env vs) with
    | none => rw [ek] at p; exact p.elim
    | some env1 =>
      rw [ek] at p
      simp only at p
      refine hg M' H'' L' d v _ env1 _ _ s2 rd (wipe_env heM vs) ek fun σ2 e2 ew => ⟨by rw [ew, wipe_wipe _ _ (fun i hi => hi)], ?_⟩
      refine ⟨env1, L', M', e2, s2, ?_⟩
      cases et : t env1 L' with
      | exc ex L2 => rw [et] at p; exact p.elim
      | no => rw [et] at p; exact p.elim
      | ok b L2 =>
        rw [et] at p
        intro H3 M3 x3 s3
        have xx : To M1 H1 M3 H3 := (x.trans x2).trans x3
        have hD2 := x2.keep D0 _ dm' hD (fun ps z => nomatch z)
        have hD3 : H3 D0 = some (.lst acc) := x3.keep D0 _ dm' hD2 (fun ps z => nomatch z)
        have dm3 : D0 ∉ M3.m := x3.nm (.lst hD2) dm'
        have dx3 : D0 ∈ M3.x := by
          obtain ⟨ey, q1, _⟩ := x3.x
          rw [q1]; exact List.mem_append_right _ dx'
        have r3 := RepAll.mono (x2.trans x3) ds acc r
        show if b = true then _ else _
        cases b with
        | false =>
          rw [if_neg Bool.false_ne_true]
          exact ⟨hi, M3, L2, acc, ds, xx, dx3, dm3, s3, hD3, r3, by omega, p⟩
        | true =>
          rw [if_pos rfl]
          have p1 : PostG S (W σ) M1 H1 (PV S Q) (((DL.noX (e env1 L2)).bind fun y L3 => (lcD k vs t e env (items.drop (i + 1)) L3).bind fun ys L4 => .ok (y :: ys) L4).bind fun ys L2 => .ok (.lst (ds ++ ys)) L2) := p
          refine ⟨env1, L2, M3, e2.mono x3, s3, ?_⟩
          cases ee : e env1 L2 with
          | exc ex L3 => rw [ee] at p1; exact p1.elim
          | no => rw [ee] at p1; exact p1.elim
          | ok dy L3 =>
            rw [ee] at p1
            intro H4 M4 x4 s4 y4 ry
            have hD4 : H4 D0 = some (.lst acc) := x4.keep D0 _ dm3 hD3 (fun ps z => nomatch z)
            have dm4 : D0 ∉ M4.m := x4.nm (.lst hD3) dm3
            have dx4 : D0 ∈ M4.x := by
              obtain ⟨ey, q1, _⟩ := x4.x
              rw [q1]; exact List.mem_append_right _ dx3
            have r4 := RepAll.mono x4 ds acc r3
            refine ⟨acc, hD4, ?_, hi, M4, L3, acc ++ [y4], ds ++ [dy], (xx.trans x4).over hn (Sl.lst hD4), dx4, dm4, s4.sealed dx4 dm4 (Sl.lst hD4), upd_same, (RepAll.sealed dx4 (Sl.lst hD4) ds acc r4).app (RepAll.one (Rep.sealed dx4 (Sl.lst hD4) dy y4 ry)), ?_, ?_⟩
            · have := fits_ok hfit
              omega
            · rw [List.length_append, List.length_singleton]
              omega
            · have p2 : PostG S (W σ) M1 H1 (PV S Q) (((lcD k vs t e env (items.drop (i + 1)) L3).bind fun ys L4 => .ok (dy :: ys) L4).bind fun ys L2 => .ok (.lst (ds ++ ys)) L2) := p1
              revert p2
              cases lcD k vs t e env (items.drop (i + 1)) L3 with
              | ok ys L4 =>
                intro p2
                show PostG S (W σ) M1 H1 (PV S Q) (.ok (.lst ((ds ++ [dy]) ++ ys)) L4)
                rw [List.append_assoc]
                exact p2
              | exc ex L4 => exact fun p2 => p2
              | no => exact fun p2 => p2
  · rintro H' ⟨_, M', L', acc, ds, x, dx', dm', s, hD, r, hacc, p⟩
    rw [List.drop_length] at p
    have p' : PostG S (W σ) M1 H1 (PV S Q) (.ok (.lst (ds ++ [])) L') := p
    rw [List.append_nil] at p'
    obtain ⟨ey, q1, q2⟩ := x.x
    obtain ⟨m', x'⟩ := M'
    simp only at q1
    subst q1
    exact p' H' ⟨m', M1.x⟩ ⟨x.keep, x.live, x.tabs, x.m, To.refl.x, x.frz⟩ (Sim.lessx s) _ ⟨D0, acc, rfl, hD, dm', dx, RepAll.lessx ds acc r⟩
def dYes : DT := fun _ L => .ok true L
theorem pts_imp {ifs : List Expr} {t t' : TT} (h : PTs X ifs t) (i : ∀ σ H Q, t' σ H Q → t σ H Q) : PTs X ifs t' := ⟨fun pins s σ H Q I q => h.run pins s σ H Q I (i σ H Q q)⟩
theorem dts_nil : PTs X [] (tT S W dYes) := pts_imp pts_nil fun σ H Q ⟨env, L, M, he, hs, hp⟩ => hp H M To.refl hs
theorem dts_one {c : Expr} {t : DT} (h : PT X c (tT S W t)) : PTs X [c] (tT S W t) := pts_one h
/-- [e for x in xs if t], by the rule of the hand layer -/
theorem de_lc {e0 : Expr} {f : DI} {k : DG} {vs : List Nat} {t : DT} {e : DE} {g : TG} (h : PE X e0 (tLc (tI S W f) g (tT S WF t) (tD S WF e) vs)) (hg : DoesGV S vs g k) : PE X e0 (tD S W (dLc f k vs t e)) := pe_imp h (lc_imp hg)
theorem s_setLc {st : Stmt} {i : Nat} {f : DI} {k : DG} {vs : List Nat} {t : DT} {e : DE} {g : TG} (h : PS X st (tAsg (tLc (tI S W f) g (tT S WF t) (tD S WF e) vs) (gName i))) (hg : DoesGV S vs g k) : PS X st (tS S W (sSet i (dLc f k vs t e))) := ps_imp h fun E σ H => by
  rintro ⟨env, L, M, he, hs, hp⟩
  refine lc_imp hg σ H _ ⟨env, L, M, he, hs, PostS.expr he hp fun d L1 M1 H1 x1 s1 q v r => ?_⟩
  exact q _ H1 M1 To.refl s1 ((he.mono x1).set r)
end DL

set_option Elab.async false
set_option linter.all false
set_option maxRecDepth 100000
set_option maxHeartbeats 2000000
namespace DL
open PySem PySem.Spec L2 PySem.W
variable [Tbs]
open PyProof.Rows (envOfC)
theorem ad {N i j : Nat} (h : i ≠ j := by decide) : N + i ≠ N + j := by omega
theorem ad0 {N i : Nat} (h : i ≠ 0 := by decide) : N + i ≠ N := by omega
theorem ad1 {N i : Nat} (h : i ≠ 0 := by decide) : N ≠ N + i := by omega
theorem five_lt {N c m : Nat} (h : N + 4 < m) (e : c = N + 4 ∨ c = N + 2 ∨ c = N + 3 ∨ c = N ∨ c = N + 1) : c < m := by omega
theorem five_le {N c : Nat} (e : c = N + 4 ∨ c = N + 2 ∨ c = N + 3 ∨ c = N ∨ c = N + 1) : N ≤ c := by omega
def ItB (b : Bool) (h : Heap) (it a : Addr) (i : Nat) : Prop := if b = true then h.IsTupleIter it a i else h.IsListIter it a i
def CtB (b : Bool) (h : Heap) (a : Addr) (items : Array Value) : Prop := if b = true then h.IsTuple a items else h.IsList a items
theorem draws_b {prog : Program} {w : World} {A : Around} (b : Bool) (hh : A.handled = none) (it a : Addr) (hne : a ≠ it) (items : Array Value) : Draws prog w A it [it, a] items.size (fun i v => items[i]? = some v) (fun i h => ItB b h it a i ∧ CtB b h a items) := by
  cases b with
  | true => exact Draws.tuple hh it a hne items
  | false => exact Draws.list hh it a hne items
def iterObj (b : Bool) (a : Addr) : Obj := if b = true then { cls := .type "tuple_iterator", data := .fields #[.ref a, .int 0 0] } else { cls := .type "list_iterator", data := .fields #[.ref a, .int 0 0] }
theorem begins_b (b : Bool) (a : Addr) (items : Array Value) : Begins (.ref a) (iterObj b a) fun h => CtB b h a items := by
  cases b with
  | true => exact begins_tuple a items
  | false => exact begins_list a items
theorem ItB.start {b : Bool} {h : Heap} {it a : Addr} (e : h.get? it = some (iterObj b a)) : ItB b h it a 0 := by
  cases b with
  | true => exact ⟨_, e, rfl, rfl⟩
  | false => exact ⟨_, e, rfl, rfl⟩
theorem ItB.at {b : Bool} {h h' : Heap} {it a : Addr} {i : Nat} (x : ItB b h it a i) (k : ∀ o, h.get? it = some o → h'.get? it = some o) : ItB b h' it a i := by
  cases b with
  | true => obtain ⟨o, e, r⟩ := x; exact ⟨o, k o e, r⟩
  | false => obtain ⟨o, e, r⟩ := x; exact ⟨o, k o e, r⟩
theorem ItB.ex {b : Bool} {h : Heap} {it a : Addr} {i : Nat} (x : ItB b h it a i) : ∃ o, h.get? it = some o ∧ ∀ v, o.data ≠ .cell v := by
  cases b with
  | true => obtain ⟨o, e, _, d⟩ := x; exact ⟨o, e, fun v q => by rw [d] at q; cases q⟩
  | false => obtain ⟨o, e, _, d⟩ := x; exact ⟨o, e, fun v q => by rw [d] at q; cases q⟩
section
variable {X : Cx} {pins : List (Addr × Obj)} {σ : St} {H : Hp} {s : Shared} {a : Addr} {xs ys : List V}
theorem inv_sqB {b : Bool} (I : Inv X pins σ H s) (h : SqB X.K H b a xs) : ∃ its : List Value, Vals xs its ∧ CtB b s.heap a its.toArray ∧ a < s.heap.objs.size := by
  cases b with
  | true =>
    obtain ⟨its, rv, p, _⟩ := I.tuple h
    obtain ⟨o, ho, _⟩ := id p
    exact ⟨its, rv, p, Heap.lt_size ho⟩
  | false =>
    obtain ⟨its, rv, p, _⟩ := I.list h
    exact ⟨its, rv, p.isList, p.lt⟩
theorem inv_sqB_inj {b : Bool} (I : Inv X pins σ H s) (h : SqB X.K H b a xs) (h' : SqB X.K H b a ys) : xs = ys := by
  cases b with
  | true => exact I.tuple_inj h h'
  | false => exact I.list_inj h h'
end
/-- the items of two lists or tuples, in new pairs -/
def ItzB (K : PySem.W.Frag) (b1 b2 : Bool) (a b : Addr) : It :=
  ⟨fun i H => ∃ (xs ys : List V) (x y : V), SqB K H b1 a xs ∧ SqB K H b2 b ys ∧ xs[i]? = some x ∧ ys[i]? = some y,
    fun i H v H' => ∃ T x y, ∃ o : Obj, v = .ref T ∧ H T = none ∧ o.dict = none ∧ H' = upd H T (.frz o (.tup [x, y])) ∧ (∀ xs, SqB K H b1 a xs → xs[i]? = some x) ∧ ∀ ys, SqB K H b2 b ys → ys[i]? = some y,
    fun i H => ∃ xs ys : List V, SqB K H b1 a xs ∧ SqB K H b2 b ys ∧ i ≤ xs.length ∧ i ≤ ys.length ∧ (i = xs.length ∨ i = ys.length)⟩
theorem turn_zipB {P : Program} {w : World} {K : PySem.W.Frag} {elts : List Expr} {kk : Nat} {tpos : Pos} {b1 b2 : Bool} {a b N : Addr} (la : a < N) (lb : b < N) :
    Turn P w K (.Tuple elts kk tpos) (ItzB K b1 b2 a b) [N + 4, N + 2, N + 3, N, N + 1] (N + 4) (fun i h => IsZip h (N + 4) (N + 2) (N + 3) .none ∧ IsTupOf2 h (N + 2) (.ref N) (.ref (N + 1)) ∧ (∃ x y, IsTupOf2 h (N + 3) x y) ∧ ItB b1 h N a i ∧ ItB b2 h (N + 1) b i) where
  mem := by simp
  obj := fun i h st c hc => by
    obtain ⟨hz, hTI, ⟨x, y, hTO⟩, h1, h2⟩ := st
    have e' : c = N + 4 ∨ c = N + 2 ∨ c = N + 3 ∨ c = N ∨ c = N + 1 := by simpa using hc
    rcases e' with q | q | q | q | q
    · rw [q]; exact ⟨_, hz, fun v q => nomatch q⟩
    · rw [q]; exact ⟨_, hTI, fun v q => nomatch q⟩
    · rw [q]; exact ⟨_, hTO, fun v q => nomatch q⟩
    · rw [q]; exact h1.ex
    · rw [q]; exact h2.ex
  keep := fun i h h' st k => by
    obtain ⟨hz, hTI, ⟨x, y, hTO⟩, h1, h2⟩ := st
    exact ⟨k (N + 4) (by simp) _ hz, k (N + 2) (by simp) _ hTI, ⟨x, y, k (N + 3) (by simp) _ hTO⟩, h1.at fun o q => k N (by simp) o q, h2.at fun o q => k (N + 1) (by simp) o q⟩
  item := by
    intro X hP hw hK hc i pins s σ H E I hf st hg
    subst hP hw hK
    obtain ⟨hz, hTI, ⟨x0, y0, hTO⟩, h1, h2⟩ := st
    obtain ⟨xs, ys, x, y, hqx, hqy, hx, hy⟩ := hg
    obtain ⟨its, rv, p, _⟩ := inv_sqB I hqx
    obtain ⟨its2, rv2, p2, _⟩ := inv_sqB I hqy
    obtain ⟨u, hu, ru⟩ := rv.get hx
    obtain ⟨u2, hu2, ru2⟩ := rv2.get hy
    have hzl : N + 4 < s.heap.objs.size := Heap.lt_size hz
    have hh : X.A.in1.in1.handled = none := I.ok.hd hc
    have hh1 : X.A.in1.handled = none := I.ok.hd hc
    have l1 : i < its.toArray.size := by
      have := (List.getElem?_eq_some_iff.mp hu).1
      simpa using this
    have l2 : i < its2.toArray.size := by
      have := (List.getElem?_eq_some_iff.mp hu2).1
      simpa using this
    refine wpAny_pyNext_zipD2_item (A := X.A) (zip_sep2 (N := N) (fp1 := [a]) (fp2 := [b]) (fun c hc => by rw [List.mem_singleton.mp hc]; exact la) (fun c hc => by rw [List.mem_singleton.mp hc]; exact lb))
      (draws_b b1 hh1 N a (Nat.ne_of_lt la) its.toArray) (draws_b b2 hh1 (N + 1) b (Nat.ne_of_lt (Nat.lt_succ_of_lt lb)) its2.toArray) hz hTI hTO ⟨h1, p⟩ ⟨h2, p2⟩ l1 l2 fun x1 x2 h' tk y1 y2 z' TO' d1 d2 hT hsz hk => ?_
    have ex1 : x1 = u := by
      have q : its[i]? = some x1 := by simpa using y1
      rw [hu] at q; exact (Option.some.inj q).symm
    have ex2 : x2 = u2 := by
      have q : its2[i]? = some x2 := by simpa using y2
      rw [hu2] at q; exact (Option.some.inj q).symm
    subst ex1 ex2
    refine ⟨_, rfl, wpAny_letOwnedTupleGo_zip (s := { s with heap := h', toks := tk }) z' fun h'' z'' sb => ?_⟩
    have hT2 : h''.get? s.heap.objs.size = some { cls := .type "tuple", data := .seq #[x1, x2] } := (sb.2 _ (Nat.ne_of_gt hzl)).trans hT
    have new : ObjOk X.prog X.w (upd H s.heap.objs.size (.frz { cls := .type "tuple", data := .seq #[x1, x2] } (.tup [x, y]))) h'' s.heap.objs.size (.frz { cls := .type "tuple", data := .seq #[x1, x2] } (.tup [x, y])) :=
      ⟨hT2, by show 2 ≤ sizeLine; decide, [x1, x2], .cons ru (.cons ru2 .nil), ⟨_, hT2, rfl, _, rfl⟩⟩
    have I1 : Inv X pins σ (upd H s.heap.objs.size (.frz { cls := .type "tuple", data := .seq #[x1, x2] } (.tup [x, y]))) { s with heap := h'', toks := tk } :=
      I.turnedNew (t' := tk) (ch := [N + 4, N + 2, N + 3, N, N + 1]) (fun c o hb q => (sb.2 c (fun q' => hb (by simp [q']))).trans (hk c o (fun q' => hb (by simp [q'])) (fun q' => hb (by simp [q'])) (fun q' => hb (by simp [q'])) (fun q' => hb (by simp [q'])) q)) hf (Nat.le_refl _) new
    refine ⟨.ref s.heap.objs.size, _, I1, rfl, ⟨_, x, y, _, rfl, I.hok.fresh (Nat.le_refl _), rfl, rfl, fun l hl => by rw [inv_sqB_inj I hl hqx]; exact hx, fun l hl => by rw [inv_sqB_inj I hl hqy]; exact hy⟩, ⟨z'', ?_, ⟨x1, x2, ?_⟩, ?_, ?_⟩, fun c hcm => ?_⟩
    · exact (sb.2 _ ad).trans (hk _ _ ad ad ad0 ad hTI)
    · exact (sb.2 _ ad).trans TO'
    · exact d1.1.at fun o q => (sb.2 _ ad1).trans q
    · exact d2.1.at fun o q => (sb.2 _ ad).trans q
    · have hlt : c < s.heap.objs.size := by
        have e' : c = N + 4 ∨ c = N + 2 ∨ c = N + 3 ∨ c = N ∨ c = N + 1 := by simpa using hcm
        exact five_lt hzl e'
      rw [upd_ne (Nat.ne_of_lt hlt)]
      exact (hf c hcm).1
  done := by
    intro X hP hw hK hc i pins s σ H E I hf st hg
    subst hP hw hK
    obtain ⟨hz, hTI, ⟨x0, y0, hTO⟩, h1, h2⟩ := st
    obtain ⟨xs, ys, hqx, hqy, q1, q2, hend⟩ := hg
    obtain ⟨its, rv, p, _⟩ := inv_sqB I hqx
    obtain ⟨its2, rv2, p2, _⟩ := inv_sqB I hqy
    have l1 := rv.length
    have l2 := rv2.length
    have hh1 : X.A.in1.handled = none := I.ok.hd hc
    refine wpAny_pyNext_zipD2_end (A := X.A) (zip_sep2 (N := N) (fp1 := [a]) (fp2 := [b]) (fun c hc => by rw [List.mem_singleton.mp hc]; exact la) (fun c hc => by rw [List.mem_singleton.mp hc]; exact lb))
      (draws_b b1 hh1 N a (Nat.ne_of_lt la) its.toArray) (draws_b b2 hh1 (N + 1) b (Nat.ne_of_lt (Nat.lt_succ_of_lt lb)) its2.toArray) hz hTI hTO ⟨h1, p⟩ ⟨h2, p2⟩ (by simp; omega) (by simp; omega) (by simp; omega)
      fun h' tk hk => ⟨rfl, I.turnedL (t' := tk) (ch := [N + 4, N + 2, N + 3, N, N + 1]) (fun c o hb q => hk c o (fun q' => hb (by simp [q'])) (fun q' => hb (by simp [q'])) (fun q' => hb (by simp [q'])) (fun q' => hb (by simp [q'])) q) hf⟩
  self := fun A i s Q E st h => wpAny_pyIter_zip st.1 h
def iZipB (K : PySem.W.Frag) (ta : TA) : TI := fun σ H Rr => ta σ H fun vs H1 => ∃ b1 b2 a b xs ys, vs = [.ref a, .ref b] ∧ SqB K H1 b1 a xs ∧ SqB K H1 b2 b ys ∧ Rr (ItzB K b1 b2 a b) H1
theorem pi_zipB {X : Cx} {e e2 : Expr} {ta : TA} {p pos tpos : Pos} {elts : List Expr} {kk : Nat} (hg : Gl X "zip") (hm : X.mg "zip" = none) (ha : PA X [e, e2] ta)
    (hs : starEach [e, e2] X.env = (false, eval e X.env) :: starEach [e2] X.env := by rfl) (hpl : (backTo pos (starEach [e2] X.env)).any (·.1) = false := by rfl) :
    PI X (.Tuple elts kk tpos) (.Call (.Name "zip" p) [e, e2] [] pos) (iZipB X.K ta) := by
  refine ⟨fun pins s σ H Rr I h => ?_⟩
  refine PyProof.Rows.Call_ (ld_blt I hg hm PyProof.Rows.boot_zip (PyProof.Rows.callWith_type1 (thn (ha.run pos pins s σ H _ I h) fun us s1 ⟨vs, H1, I1, r1, q1⟩ => ?_) hs hpl))
  obtain ⟨b1, b2, a, b, xs, ys, ex, hqx, hqy, q⟩ := q1
  subst ex
  cases r1 with
  | cons r rr =>
    cases rr with
    | cons r' rr =>
      cases rr
      cases r
      cases r'
      obtain ⟨its, rv, p1, la⟩ := inv_sqB I1 hqx
      obtain ⟨its2, rv2, p2, lb⟩ := inv_sqB I1 hqy
      refine zip_begins2 (begins_b b1 a its.toArray) (begins_b b2 b its2.toArray) p1 p2 fun h' hz hTI hTO h1 h2 hsz hk => wpAny_pyIter_zip hz ?_
      have I2 : Inv X pins σ H1 { s1 with heap := h' } := I1.kept (t' := s1.toks) hk
      refine ⟨s1.heap.objs.size + 4, [s1.heap.objs.size + 4, s1.heap.objs.size + 2, s1.heap.objs.size + 3, s1.heap.objs.size, s1.heap.objs.size + 1], _, _, H1, rfl, I2, turn_zipB la lb, ⟨hz, hTI, ⟨_, _, hTO⟩, ItB.start h1, ItB.start h2⟩, fun c hcm => ?_, q⟩
      have e' : c = s1.heap.objs.size + 4 ∨ c = s1.heap.objs.size + 2 ∨ c = s1.heap.objs.size + 3 ∨ c = s1.heap.objs.size ∨ c = s1.heap.objs.size + 1 := by simpa using hcm
      have hle : s1.heap.objs.size ≤ c := five_le e'
      exact I1.fpOk hle (I1.hok.fresh hle)
end DL

set_option Elab.async false
set_option linter.all false
set_option maxRecDepth 100000
set_option maxHeartbeats 2000000
namespace DL
open PySem PySem.Spec L2 PySem.W
variable [Tbs]
open PyProof.Rows (envOfC)
open AutoSeq1 (wpAny_loadPart')
theorem meets_enumerate_newB1 {v : Value} {o : Obj} {H : Heap → Prop} (B : Begins v o H) :
    Meets (Builtin.«enumerate.__new__» ⟨[.type "enumerate", v], []⟩) (fun _ R s => H s.heap ∧
      R (.ok (.ret (.ref (s.heap.push o).objs.size))) { s with heap := (s.heap.push o).push { cls := .type "enumerate", data := .fields #[.none, .bool false, .ref s.heap.objs.size, rawInt 0, .none, .none] } }) :=
  .of_wp fun prog w A R s h => by
    obtain ⟨hp, g, d, tk, os⟩ := s; obtain ⟨h1, h⟩ := h
    have hsub := sub_enumerate
    have q1 : ∀ {A' : Around} {E : Value → Shared → Prop} {Q : Value → Shared → Prop}, Q (.ref hp.objs.size) ⟨hp.push o, g, d, tk, os⟩ → wpAny (model prog w) A' (pyIter v) Q E ⟨hp, g, d, tk, os⟩ :=
      fun q => B.iter prog w _ _ ⟨hp, g, d, tk, os⟩ _ h1 q
    wp_walk using q1
    refine wpAny_stack_any fun st => wpAny_pure ?_
    split
    · rename_i c _ _ _ _ _
      cases (c == Value.type "enumerate")
      · wp_walk using q1
        exact ⟨_, rfl, h⟩
      · wp_walk using q1
        exact ⟨_, rfl, h⟩
    · wp_walk using q1
      exact ⟨_, rfl, h⟩
section
variable {prog : Program} {w : World} {A : Around} {E : Value → Shared → Prop} {s : Shared}
theorem enum_begins1 {v : Value} {o : Obj} {H : Heap → Prop} {Q : Value → Shared → Prop} (B : Begins v o H) (h1 : H s.heap)
    (h : ∀ h', IsEnum h' (s.heap.objs.size + 1) s.heap.objs.size 0 .none → h'.get? s.heap.objs.size = some o → h'.objs.size = s.heap.objs.size + 2 →
      (∀ b o, s.heap.get? b = some o → h'.get? b = some o) → Q (.ref (s.heap.objs.size + 1)) { s with heap := h' }) :
    wpAny (model prog w) A (call (.type "enumerate") [v]) Q E s := by
  refine callType_new F.called_enumerate (by decide) (F.typeCall_enumerate_1 _) (F.newCall_enumerate_1 _) (fun obj => F.args_object_init_2 obj _) F.entry_enumerate_new
    (meets_enumerate_newB1 B) ⟨h1, ?_⟩
  have hz : (s.heap.push o).objs.size = s.heap.objs.size + 1 := Heap.size_push ..
  show _ ∧ _
  rw [hz]
  have he : IsEnum ((s.heap.push o).push { cls := .type "enumerate", data := .fields #[.none, .bool false, .ref s.heap.objs.size, rawInt 0, .none, .none] }) (s.heap.objs.size + 1) s.heap.objs.size 0 .none := by
    have := Heap.get?_push_size (s.heap.push o) (o := { cls := .type "enumerate", data := .fields #[.none, .bool false, .ref s.heap.objs.size, rawInt 0, .none, .none] }) rfl
    rw [hz] at this; exact this
  refine ⟨⟨_, he, rfl⟩, h _ he (Heap.get?_push_of_some _ (Heap.get?_push_size _ B.free)) (by rw [Heap.size_push, hz]) fun b o x => Heap.get?_push_of_some _ (Heap.get?_push_of_some _ x)⟩
end
def IteB (K : PySem.W.Frag) (b : Bool) (a : Addr) : It :=
  ⟨fun i H => ∃ (xs : List V) (x : V), SqB K H b a xs ∧ xs[i]? = some x, fun i H v H' => ∃ T x, ∃ o : Obj, v = .ref T ∧ H T = none ∧ o.dict = none ∧ H' = upd H T (.frz o (.tup [.int (i : Nat), x])) ∧ ∀ xs, SqB K H b a xs → xs[i]? = some x, fun i H => ∃ xs : List V, SqB K H b a xs ∧ i = xs.length⟩
theorem turn_enumB {P : Program} {w : World} {K : PySem.W.Frag} {elts : List Expr} {kk : Nat} {tpos : Pos} {b : Bool} {a N : Addr} (la : a < N) :
    Turn P w K (.Tuple elts kk tpos) (IteB K b a) [N + 1, N] (N + 1) (fun i h => (∃ old, IsEnum h (N + 1) N ((i : Nat) : Int) old) ∧ ItB b h N a i) where
  mem := by simp
  obj := fun i h st c hc => by
    obtain ⟨⟨old, he⟩, hi⟩ := st
    have e' : c = N + 1 ∨ c = N := by simpa using hc
    rcases e' with z | z
    · rw [z]; exact ⟨_, he, fun v q => nomatch q⟩
    · rw [z]; exact hi.ex
  keep := fun i h h' st k => let ⟨⟨old, he⟩, hi⟩ := st; ⟨⟨old, k (N + 1) (by simp) _ he⟩, hi.at fun o q => k N (by simp) o q⟩
  item := by
    intro X hP hw hK hc i pins s σ H E I hf st hg
    subst hP hw hK
    obtain ⟨⟨old, he⟩, hit⟩ := st
    obtain ⟨xs, x, hq, hx⟩ := hg
    obtain ⟨its, rv, p, _⟩ := inv_sqB I hq
    obtain ⟨u, hu, ru⟩ := rv.get hx
    have hel : N + 1 < s.heap.objs.size := Heap.lt_size he
    have hh1 : X.A.in1.handled = none := I.ok.hd hc
    have l1 : i < its.toArray.size := by
      have := (List.getElem?_eq_some_iff.mp hu).1
      simpa using this
    refine wpAny_pyNext_enum_itemC (A := X.A) (draws_b b hh1 N a (Nat.ne_of_lt la) its.toArray) he ⟨hit, p⟩ l1 ad0 (by
      intro z
      have z' : N + 1 = N ∨ N + 1 = a := by simpa using z
      rcases z' with q | q
      · exact (ad0 (N := N) (i := 1)) q
      · exact absurd (q ▸ la : N + 1 < N) (Nat.not_lt.mpr (Nat.le_succ N))) fun x1 h' tk y1 ho d1 hT hsz hk => ?_
    have ex1 : x1 = u := by
      have q : its[i]? = some x1 := by simpa using y1
      rw [hu] at q; exact (Option.some.inj q).symm
    subst ex1
    refine ⟨_, rfl, wpAny_letOwnedTupleGo_enum (s := { s with heap := h', toks := tk + 1 }) ho fun h'' he' sb => ?_⟩
    have hT2 : h''.get? s.heap.objs.size = some { cls := .type "tuple", data := .seq #[.int i tk, x1] } := (sb.2 _ (Nat.ne_of_gt hel)).trans hT
    have new : ObjOk X.prog X.w (upd H s.heap.objs.size (.frz { cls := .type "tuple", data := .seq #[.int i tk, x1] } (.tup [.int (i : Nat), x]))) h'' s.heap.objs.size (.frz { cls := .type "tuple", data := .seq #[.int i tk, x1] } (.tup [.int (i : Nat), x])) :=
      ⟨hT2, by show 2 ≤ sizeLine; decide, [.int i tk, x1], .cons ⟨_, rfl⟩ (.cons ru .nil), ⟨_, hT2, rfl, _, rfl⟩⟩
    have I1 : Inv X pins σ (upd H s.heap.objs.size (.frz { cls := .type "tuple", data := .seq #[.int i tk, x1] } (.tup [.int (i : Nat), x]))) { s with heap := h'', toks := tk + 1 } :=
      I.turnedNew (ch := [N + 1, N]) (fun c ob hb q => (sb.2 c (fun z => hb (by simp [z]))).trans (hk c ob (fun z => hb (by simp [z])) (fun z => hb (by simp [z])) q)) hf (Nat.le_refl _) new
    refine ⟨.ref s.heap.objs.size, _, I1, rfl, ⟨_, x, _, rfl, I.hok.fresh (Nat.le_refl _), rfl, rfl, fun ys hy => by rw [inv_sqB_inj I hy hq]; exact hx⟩, ⟨⟨x1, ?_⟩, d1.1.at fun o q => (sb.2 N ad1).trans q⟩, fun c hb => ?_⟩
    · have e1 : ((i + 1 : Nat) : Int) = (i : Int) + 1 := by omega
      rw [e1]; exact he'
    · have hb' : c < s.heap.objs.size := by
        have e' : c = N + 1 ∨ c = N := by simpa using hb
        rcases e' with z | z
        · rw [z]; exact hel
        · rw [z]; exact Nat.lt_of_succ_lt hel
      rw [upd_ne (Nat.ne_of_lt hb')]
      exact (hf c hb).1
  done := by
    intro X hP hw hK hc i pins s σ H E I hf st hg
    subst hP hw hK
    obtain ⟨⟨old, he⟩, hit⟩ := st
    obtain ⟨xs, hq, hx⟩ := hg
    obtain ⟨its, rv, p, _⟩ := inv_sqB I hq
    obtain ⟨f0, f1, f2, f3, f4, f5⟩ := hf N (by simp)
    have hl := rv.length
    have hh1 : X.A.in1.handled = none := I.ok.hd hc
    have e : i = its.toArray.size := by simp; omega
    refine wpAny_pyNext_enum_endD (A := X.A) (draws_b b hh1 N a (Nat.ne_of_lt la) its.toArray) he (by rw [← e]; exact ⟨hit, p⟩) fun h' eb => ⟨rfl, I.turned (t' := s.toks) (fun b o hb q => eb b o hb q) f0 f1 f3 f4 f5⟩
  self := fun A i s Q E st h => let ⟨⟨_, he⟩, _⟩ := st; wpAny_pyIter_enum he h
def iEnumB (K : PySem.W.Frag) (ta : TA) : TI := fun σ H Rr => ta σ H fun vs H1 => ∃ b a xs, vs = [.ref a] ∧ SqB K H1 b a xs ∧ Rr (IteB K b a) H1
theorem pi_enumB {X : Cx} {e : Expr} {ta : TA} {p pos tpos : Pos} {elts : List Expr} {kk : Nat} (hg : Gl X "enumerate") (hm : X.mg "enumerate" = none) (ha : PA X [e] ta) (hs : starEach [e] X.env = [(false, eval e X.env)] := by rfl) :
    PI X (.Tuple elts kk tpos) (.Call (.Name "enumerate" p) [e] [] pos) (iEnumB X.K ta) := by
  refine ⟨fun pins s σ H Rr I h => ?_⟩
  refine PyProof.Rows.Call_ (ld_blt I hg hm PyProof.Rows.boot_enumerate (PyProof.Rows.callWith_type1 (thn (ha.run pos pins s σ H _ I h) fun us s1 ⟨vs, H1, I1, r1, q1⟩ => ?_) hs rfl))
  obtain ⟨b, a, xs, ex, hq, q⟩ := q1
  subst ex
  cases r1 with
  | cons r rr =>
    cases rr
    cases r
    obtain ⟨its, rv, p', la⟩ := inv_sqB I1 hq
    refine enum_begins1 (begins_b b a its.toArray) p' fun h' he hit hsz hk => wpAny_pyIter_enum he ?_
    have I2 : Inv X pins σ H1 { s1 with heap := h' } := I1.kept (t' := s1.toks) hk
    refine ⟨s1.heap.objs.size + 1, [s1.heap.objs.size + 1, s1.heap.objs.size], _, _, H1, rfl, I2, turn_enumB la, ⟨⟨.none, he⟩, ItB.start hit⟩, fun c hcm => ?_, q⟩
    have e' : c = s1.heap.objs.size + 1 ∨ c = s1.heap.objs.size := by simpa using hcm
    have hle : s1.heap.objs.size ≤ c := by
      rcases e' with z | z
      · rw [z]; exact Nat.le_add_right _ _
      · rw [z]; exact Nat.le_refl _
    exact I1.fpOk hle (I1.hok.fresh hle)
/-! ### as data -/
variable {S : Sg} {X : Cx} {W : St → WH}
/-- a value that may be walked: where it stands -/
theorem val_sq {M : Mu} {H : Hp} {d : D} {v : V} {xs : List D} (r : Rep S.K M H d v) (e : itemsV d = some xs) : ∃ b a vs, v = .ref a ∧ SqB S.K H b a vs ∧ RepAll S.K M H xs vs ∧ ∀ M' H', To M H M' H' → SqB S.K H' b a vs := by
  cases d with
  | tup ds =>
    cases e
    obtain ⟨a, vs, rfl, h, ra⟩ := r
    exact ⟨true, a, vs, rfl, h.t, ra, fun M' H' x => (h.mono x).t⟩
  | lst ds =>
    cases e
    obtain ⟨a, vs, rfl, h, n1, n2, ra⟩ := r
    exact ⟨false, a, vs, rfl, .inl (.inl h), ra, fun M' H' x => .inl (.inl (x.keep a _ n1 h (fun ps z => nomatch z)))⟩
  | frl ds =>
    cases e
    obtain ⟨a, vs, rfl, h, ra⟩ := r
    exact ⟨false, a, vs, rfl, h.l, ra, fun M' H' x => (h.mono x).l⟩
  | _ => cases e
/-- a turn hands out a new pair, its object known -/
def YPairF (f g : Nat → Option V) (i : Nat) (H : Hp) (v : V) (H' : Hp) : Prop := ∃ T x y, ∃ o : Obj, v = .ref T ∧ H T = none ∧ o.dict = none ∧ H' = upd H T (.frz o (.tup [x, y])) ∧ f i = some x ∧ g i = some y
def zipD (xs ys : List D) : List D := (xs.zip ys).map fun p => .tup [p.1, p.2]
def iZip2 (g : DA) : DI := fun env L => (g env L).bind fun ds L1 => match ds with
  | [a, b] => (match itemsV a, itemsV b with
    | some xs, some ys => .ok (zipD xs ys) L1
    | _, _ => .no)
  | _ => .no
theorem walk_zipB {K : PySem.W.Frag} {b1 b2 : Bool} {a b : Addr} {xs ys : List V} {n : Nat} (hn : n = min xs.length ys.length) : Walk (ItzB K b1 b2 a b) n (fun H => SqB K H b1 a xs ∧ SqB K H b2 b ys) (YPairF (fun i => xs[i]?) (fun i => ys[i]?)) where
  goes := fun i H hi h => ⟨xs, ys, xs[i]'(by omega), ys[i]'(by omega), h.1, h.2, by simp, by simp⟩
  stops := fun H h => ⟨xs, ys, h.1, h.2, by omega, by omega, by omega⟩
  yields := fun i H x H' hi h y => by
    obtain ⟨T, u, v, o, e1, e2, eo, e3, q1, q2⟩ := y
    exact ⟨T, u, v, o, e1, e2, eo, e3, q1 xs h.1, q2 ys h.2⟩
theorem iter_zip {M : Mu} {H1 : Hp} {b1 b2 : Bool} {a b : Addr} {xs ys : List D} {vs us : List V} (ha : ∀ M' H', To M H1 M' H' → SqB S.K H' b1 a vs) (hb : ∀ M' H', To M H1 M' H' → SqB S.K H' b2 b us)
    (ra : RepAll S.K M H1 xs vs) (rb : RepAll S.K M H1 ys us) : IterOk S M H1 (zipD xs ys) (ItzB S.K b1 b2 a b) (fun H => SqB S.K H b1 a vs ∧ SqB S.K H b2 b us) (YPairF (fun i => vs[i]?) (fun i => us[i]?)) where
  w := walk_zipB (by simp [zipD, ra.len, rb.len])
  g := fun M' H' x => ⟨ha M' H' x, hb M' H' x⟩
  y := fun M' H2 L2 i x H3 xx s hi y => by
    obtain ⟨T, u, v, o, e1, e2, eo, e3, q1, q2⟩ := y
    subst e1 e3
    obtain ⟨d1, f1, r1⟩ := ra.get' q1
    obtain ⟨d2, f2, r2⟩ := rb.get' q2
    refine ⟨To.new e2, s.new e2, .tup [d1, d2], ?_, rep_tup_new s e2 eo ⟨u, [v], rfl, r1.mono xx, v, [], rfl, r2.mono xx, rfl⟩⟩
    unfold zipD
    rw [List.getElem?_map, List.getElem?_zip_eq_some (z := (d1, d2)) |>.mpr ⟨f1, f2⟩]
    rfl
theorem di_zip {elts : List Expr} {kk : Nat} {tpos : Pos} {es : List Expr} {g : DA} {p pos : Pos} (hK : X.K = S.K) (h : ∀ t, PA X es t → PI X (.Tuple elts kk tpos) (.Call (.Name "zip" p) es [] pos) (iZipB X.K t)) (ha : PA X es (tDA S W g)) :
    PI X (.Tuple elts kk tpos) (.Call (.Name "zip" p) es [] pos) (tI S W (iZip2 g)) := pi_imp (h _ ha) fun σ H Rr => by
  rintro ⟨env, L, M, he, hs, hp⟩
  refine ⟨env, L, M, he, hs, PostG.seq hp fun ds L1 M1 H1 x1 s1 q vs r => ?_⟩
  split at q
  · rename_i da db
    split at q
    · rename_i xs ys e1 e2
      obtain ⟨v, u, rfl, rv, ru⟩ := r.two
      obtain ⟨b1, a, vs, rfl, h1, ra, g1⟩ := val_sq rv e1
      obtain ⟨b2, b, us, rfl, h2, rb, g2⟩ := val_sq ru e2
      rw [hK]
      exact ⟨b1, b2, a, b, vs, us, rfl, h1, h2, q H1 M1 To.refl s1 _ _ _ (iter_zip g1 g2 ra rb)⟩
    · exact q.elim
  · exact q.elim
def enumD (xs : List D) : List D := (List.range xs.length).zip xs |>.map fun p => .tup [.int (p.1 : Nat), p.2]
def iEnum1 (g : DA) : DI := fun env L => (g env L).bind fun ds L1 => match ds with
  | [a] => (match itemsV a with
    | some xs => .ok (enumD xs) L1
    | none => .no)
  | _ => .no
theorem iter_enum {M : Mu} {H1 : Hp} {b : Bool} {a : Addr} {xs : List D} {vs : List V} (ha : ∀ M' H', To M H1 M' H' → SqB S.K H' b a vs) (ra : RepAll S.K M H1 xs vs) :
    IterOk S M H1 (enumD xs) (IteB S.K b a) (fun H => SqB S.K H b a vs) (YPairF (fun i => some (.int (i : Nat))) (fun i => vs[i]?)) where
  w := {
    goes := fun i H hi h => by
      have hi' : i < vs.length := by rw [ra.len]; simpa [enumD] using hi
      exact ⟨vs, vs[i], h, by simp⟩
    stops := fun H h => ⟨vs, h, by simp [enumD, ra.len]⟩
    yields := fun i H x H' hi h y => by
      obtain ⟨T, u, o, e1, e2, eo, e3, q1⟩ := y
      exact ⟨T, _, u, o, e1, e2, eo, e3, rfl, q1 vs h⟩ }
  g := fun M' H' x => ha M' H' x
  y := fun M' H2 L2 i x H3 xx s hi y => by
    obtain ⟨T, u, v, o, e1, e2, eo, e3, q1, q2⟩ := y
    subst e1 e3
    cases q1
    obtain ⟨d2, f2, r2⟩ := ra.get' q2
    have hi' : i < xs.length := (List.getElem?_eq_some_iff.mp f2).1
    refine ⟨To.new e2, s.new e2, .tup [.int (i : Nat), d2], ?_, rep_tup_new s e2 eo ⟨_, [v], rfl, rfl, v, [], rfl, r2.mono xx, rfl⟩⟩
    unfold enumD
    rw [List.getElem?_map, List.getElem?_zip_eq_some (z := (i, d2)) |>.mpr ⟨by simp [hi'], f2⟩]
    rfl
theorem di_enum {elts : List Expr} {kk : Nat} {tpos : Pos} {es : List Expr} {g : DA} {p pos : Pos} (hK : X.K = S.K) (h : ∀ t, PA X es t → PI X (.Tuple elts kk tpos) (.Call (.Name "enumerate" p) es [] pos) (iEnumB X.K t)) (ha : PA X es (tDA S W g)) :
    PI X (.Tuple elts kk tpos) (.Call (.Name "enumerate" p) es [] pos) (tI S W (iEnum1 g)) := pi_imp (h _ ha) fun σ H Rr => by
  rintro ⟨env, L, M, he, hs, hp⟩
  refine ⟨env, L, M, he, hs, PostG.seq hp fun ds L1 M1 H1 x1 s1 q vs r => ?_⟩
  split at q
  · rename_i da
    split at q
    · rename_i xs e1
      obtain ⟨v, rfl, rv⟩ := r.single
      obtain ⟨b1, a, vs, rfl, h1, ra, g1⟩ := val_sq rv e1
      rw [hK]
      exact ⟨b1, a, vs, rfl, h1, q H1 M1 To.refl s1 _ _ _ (iter_enum g1 ra)⟩
    · exact q.elim
  · exact q.elim
/-- reversed(range(n)) -/
def revD (n : Int) : List D := (List.range n.toNat).map fun (i : Nat) => .int (n - 1 - (i : Int))
def iRev (f : DE) : DI := fun env L => (f env L).bind fun d L1 => match d with
  | .int n => if inR n then .ok (revD n) L1 else .no
  | _ => .no
theorem rev_imp {f : DE} (σ : St) (H : Hp) (Rr : It → Hp → Prop) : tI S W (iRev f) σ H Rr → iRevR (tRg1 (tD S W f)) σ H Rr := by
  rintro ⟨env, L, M, he, hs, hp⟩
  refine ⟨env, L, M, he, hs, PostG.seq hp fun d L1 M1 H1 x1 s1 q v r => ?_⟩
  cases d with
  | int n =>
    have q' : PostG S (W σ) M1 H1 (fun items _ M1 H1 => ∀ J G Y, IterOk S M1 H1 items J G Y → Rr J H1) (if inR n then .ok (revD n) L1 else .no) := q
    split at q'
    · rename_i hn
      obtain ⟨h1, h2⟩ := of_decide_eq_true hn
      have r' : v = .int n := r
      refine ⟨n, r', by decide, by decide, h1, h2, ?_⟩
      have e1 : (n - 0).toNat = n.toNat := by simp
      rw [e1]
      refine q' H1 M1 To.refl s1 _ (fun _ => True) (YFn fun i => .int ((0 + ((n.toNat : Nat) : Int) - 1) + (i : Nat) * (-1))) ⟨?_, fun _ _ _ => trivial, fun M' H2 L2 i x H3 xx s hi y => ?_⟩
      · have : (revD n).length = n.toNat := by simp [revD]
        rw [this]
        exact walk_rangeC
      · obtain ⟨e, q2⟩ := y
        subst e
        have hi' : i < n.toNat := by simpa [revD] using hi
        refine ⟨To.refl, s, .int (n - 1 - (i : Int)), by simp [revD, hi'], ?_⟩
        show x = .int (n - 1 - (i : Int))
        rw [q2]
        show V.int _ = V.int _
        congr 1
        have : ((n.toNat : Nat) : Int) = n := Int.toNat_of_nonneg (by omega)
        rw [this]
        omega
    · exact q'.elim
  | _ => exact q.elim
end DL

set_option Elab.async false
set_option linter.all false
set_option maxRecDepth 100000
set_option maxHeartbeats 2000000
namespace DL
open PySem PySem.Spec L2 PySem.W
variable [Tbs]
open PyProof.Rows (envOfC)
variable {S : Sg} {X : Cx} {W : St → WH}
theorem hu64 {k : Nat} {A : Around} (hr : Room k A) : A.units + 64 < cLine := by have := hr.un; omega
/-! ### isinstance -/
def tyD (L : LH) : D → Option String
  | .non => some "NoneType"
  | .bl _ => some "bool"
  | .int _ => some "int"
  | .str _ => some "str"
  | .tup _ => some "tuple"
  | .lst _ => some "list"
  | .frl _ => some "list"
  | .dic _ => some "dict"
  | .tdc _ => none
  | .ref n => match L[n]? with
    | some (.lst _) => some "list"
    | some (.dic _) => some "dict"
    | _ => none
  | .obj _ => none
  | .glo _ => none
theorem tyD_ok {M : Mu} {H : Hp} {L : LH} {d : D} {v : V} {t : String} (hs : Sim S.K M H L) (r : Rep S.K M H d v) (e : tyD L d = some t) : TyX S.K H v (.type t) := by
  cases d with
  | non => cases r; cases e; exact .base .non
  | bl b => cases r; cases e; exact .base (.bl b)
  | int b => cases r; cases e; exact .base (.int b)
  | str b => cases r; cases e; exact .base (.str b)
  | tup ds =>
    obtain ⟨a, vs, rfl, h, _⟩ := r
    cases e
    rcases h with ⟨o, h, _⟩ | ⟨o, its, n, h, hc, _⟩
    · exact .fTuple h
    · exact .kTuple h hc
  | lst ds =>
    obtain ⟨a, vs, rfl, h, _⟩ := r
    cases e
    exact .base (.lst h)
  | frl ds =>
    obtain ⟨a, vs, rfl, h, _⟩ := r
    cases e
    rcases h with ⟨h | ⟨o, h⟩, _⟩ | ⟨o, its, n, h, hc, _⟩
    · exact .base (.lst h)
    · exact .base (.frz h)
    · exact .kList h hc
  | dic ds =>
    obtain ⟨a, vs, rfl, h, _⟩ := r
    cases e
    exact h.elim (fun h => .base (.dK h)) fun ⟨o, h⟩ => .fDict h
  | ref n =>
    obtain ⟨a, rfl, hm⟩ := r
    have e0 : (match L[n]? with | some (.lst _) => some "list" | some (.dic _) => some "dict" | _ => none) = some t := e
    cases hl : L[n]? with
    | none => rw [hl] at e0; cases e0
    | some o =>
      rw [hl] at e0
      cases o with
      | lst xs =>
        cases e0
        obtain ⟨_, h, vs, rfl, _⟩ := hs.at_ n a _ hm hl
        exact .base (.lst h)
      | dic xs =>
        cases e0
        obtain ⟨_, h, vs, rfl, _⟩ := hs.at_ n a _ hm hl
        exact .base (.dK h)
      | ins _ _ => cases e0
      | tdc _ => cases e0
      | lck _ => cases e0
  | tdc _ => cases e
  | obj w => cases e
  | glo _ => cases e
/-- isinstance's answer for the built-in kinds -/
def isiB (t n : String) : Option Bool :=
  if ["NoneType", "bool", "int", "str", "tuple", "list", "dict"].contains t && ["bool", "int", "str", "tuple", "list", "dict"].contains n then some (t == n || (t == "bool" && n == "int")) else none
theorem isiB_ok : ∀ {t n : String} {b : Bool}, isiB t n = some b → kitB t n = some b := by
  have all : ∀ t ∈ ["NoneType", "bool", "int", "str", "tuple", "list", "dict"], ∀ n ∈ ["bool", "int", "str", "tuple", "list", "dict"], kitB t n = some (t == n || (t == "bool" && n == "int")) := by decide +kernel
  intro t n b e
  unfold isiB at e
  split at e
  · rename_i h
    rw [Bool.and_eq_true, List.contains_iff_mem, List.contains_iff_mem] at h
    rw [all t h.1 n h.2]
    exact e
  · cases e
def kIsi : List D → LH → R D := fun ds L => match ds with
  | [d, .obj (.ty n)] => (match tyD L d with
    | some t => (match isiB t n with
      | some b => .ok (.bl b) L
      | none => .no)
    | none => .no)
  | _ => .no
theorem does_isi : DoesL S (rIsi S.K) kIsi := by
  intro M H L a x Q w hs ra hp
  unfold kIsi at hp
  split at hp
  · rename_i d n
    split at hp
    · rename_i t et
      split at hp
      · rename_i b eb
        obtain ⟨v, u, rfl, rv, ru⟩ := ra.two
        have ru' : u = .ty n := ru
        subst ru'
        exact ⟨v, .ty n, .type t, .type n, b, rfl, .ty n, tyD_ok hs rv et, kit_ty (isiB_ok eb), hp H M To.refl hs _ rfl⟩
      · exact hp.elim
    · exact hp.elim
  · exact hp.elim
/-- a built-in class as a value -/
theorem de_ty {x : Str} {n : String} {pos : Pos} (h : PE X (.Name x pos) (tC (.ty n))) : PE X (.Name x pos) (tD S W (dC (.obj (.ty n)))) := de_c h fun _ _ => rfl
/-! ### calls of built-ins by their name -/
theorem de_callB {x : Str} {es : List Expr} {g : DA} {p pos : Pos} {r : List V → Hp → VK → Prop} {k : List D → LH → R D} (hc : ∀ t, PA X es t → PE X (.Call (.Name x p) es [] pos) (tCB r t)) (hk : DoesL S r k) (ha : PA X es (tDA S W g)) : PE X (.Call (.Name x p) es [] pos) (tD S W (dL k g)) := pe_imp (hc _ ha) (tDL hk)
/-! ### sums and the like, of values that are lists of ints -/
def intsD : List D → Option (List Int)
  | [] => some []
  | .int i :: ds => (intsD ds).map (i :: ·)
  | _ :: _ => none
theorem intsD_ok : ∀ {ds : List D} {is : List Int}, intsD ds = some is → ds = is.map D.int
  | [], _, e => by cases e; rfl
  | .int i :: ds, is, e => by
    have e' : (intsD ds).map (i :: ·) = some is := e
    cases q : intsD ds with
    | none => rw [q] at e'; cases e'
    | some js => rw [q] at e'; cases e'; rw [intsD_ok q]; rfl
  | .non :: _, _, e => by cases e
  | .bl _ :: _, _, e => by cases e
  | .str _ :: _, _, e => by cases e
  | .tup _ :: _, _, e => by cases e
  | .lst _ :: _, _, e => by cases e
  | .frl _ :: _, _, e => by cases e
  | .dic _ :: _, _, e => by cases e
  | .ref _ :: _, _, e => by cases e
  | .obj _ :: _, _, e => by cases e
  | .glo _ :: _, _, e => by cases e
def blsD : List D → Option (List Bool)
  | [] => some []
  | .bl i :: ds => (blsD ds).map (i :: ·)
  | _ :: _ => none
theorem blsD_ok : ∀ {ds : List D} {is : List Bool}, blsD ds = some is → ds = is.map D.bl
  | [], _, e => by cases e; rfl
  | .bl i :: ds, is, e => by
    have e' : (blsD ds).map (i :: ·) = some is := e
    cases q : blsD ds with
    | none => rw [q] at e'; cases e'
    | some js => rw [q] at e'; cases e'; rw [blsD_ok q]; rfl
  | .non :: _, _, e => by cases e
  | .int _ :: _, _, e => by cases e
  | .str _ :: _, _, e => by cases e
  | .tup _ :: _, _, e => by cases e
  | .lst _ :: _, _, e => by cases e
  | .frl _ :: _, _, e => by cases e
  | .dic _ :: _, _, e => by cases e
  | .ref _ :: _, _, e => by cases e
  | .obj _ :: _, _, e => by cases e
  | .glo _ :: _, _, e => by cases e
/-- a built-in of one list (no tuple) of ints, or of bools -/
def kList (f : List D → Option D) : List D → LH → R D := fun ds L => match ds with
  | [d] => (match seqD L d with
    | some (false, xs) => orNo (f xs) L
    | _ => .no)
  | _ => .no
def fSum (xs : List D) : Option D := (intsD xs).map fun is => .int is.sum
def fAll (xs : List D) : Option D := (blsD xs).map fun bs => .bl (bs.all id)
def fAny (xs : List D) : Option D := (blsD xs).map fun bs => .bl (bs.any id)
theorem kList_ok {f : List D → Option D} {M : Mu} {H : Hp} {L : LH} {a : List D} {x : List V} {Q : VK} {w : WH} (hs : Sim S.K M H L) (ra : RepAll S.K M H a x) (hp : PostG S w M H (PV S Q) (kList f a L)) :
    ∃ p vs xs d, x = [.ref p] ∧ SqL S.K H p vs ∧ RepAll S.K M H xs vs ∧ f xs = some d ∧ ∀ v, Rep S.K M H d v → Q v H := by
  unfold kList at hp
  split at hp
  · split at hp
    · rename_i xs e
      cases ef : f xs with
      | none => rw [ef] at hp; exact hp.elim
      | some d =>
        rw [ef] at hp
        obtain ⟨v, rfl, rv⟩ := ra.single
        obtain ⟨p, vs, rfl, h, q⟩ := seqD_ok hs rv e
        exact ⟨p, vs, xs, d, rfl, h, q, ef, fun v r => hp H M To.refl hs v r⟩
    · exact hp.elim
  · exact hp.elim
theorem does_sum : DoesL S (rSum S.K) (kList fSum) := by
  intro M H L a x Q w hs ra hp
  obtain ⟨p, vs, xs, d, rfl, h, q, ef, fin⟩ := kList_ok hs ra hp
  unfold fSum at ef
  cases ei : intsD xs with
  | none => rw [ei] at ef; cases ef
  | some is =>
    rw [ei] at ef
    cases ef
    have e := intsD_ok ei
    subst e
    have ev := q.ints
    subst ev
    exact ⟨p, is, rfl, h, fin _ rfl⟩
theorem does_all : DoesL S (rAll S.K) (kList fAll) := by
  intro M H L a x Q w hs ra hp
  obtain ⟨p, vs, xs, d, rfl, h, q, ef, fin⟩ := kList_ok hs ra hp
  unfold fAll at ef
  cases ei : blsD xs with
  | none => rw [ei] at ef; cases ef
  | some is =>
    rw [ei] at ef
    cases ef
    have e := blsD_ok ei
    subst e
    have ev := q.bls
    subst ev
    exact ⟨p, is, rfl, h, fin _ rfl⟩
theorem does_any : DoesL S (rAny S.K) (kList fAny) := by
  intro M H L a x Q w hs ra hp
  obtain ⟨p, vs, xs, d, rfl, h, q, ef, fin⟩ := kList_ok hs ra hp
  unfold fAny at ef
  cases ei : blsD xs with
  | none => rw [ei] at ef; cases ef
  | some is =>
    rw [ei] at ef
    cases ef
    have e := blsD_ok ei
    subst e
    have ev := q.bls
    subst ev
    exact ⟨p, is, rfl, h, fin _ rfl⟩
/-- built-ins of ints -/
def kI1 (f : Int → Int) : List D → LH → R D := fun ds L => match ds with
  | [.int i] => .ok (.int (f i)) L
  | _ => .no
def kI2 (f : Int → Int → Int) : List D → LH → R D := fun ds L => match ds with
  | [.int i, .int j] => .ok (.int (f i j)) L
  | _ => .no
def kIntOf : List D → LH → R D := fun ds L => match ds with
  | [.int i] => .ok (.int i) L
  | [.bl b] => .ok (.int (if b then 1 else 0)) L
  | _ => .no
theorem does_abs : DoesL S (fun xs H Q => ∃ i, xs = [.int i] ∧ Q (.int (if i < 0 then -i else i)) H) (kI1 fun i => if i < 0 then -i else i) := by
  intro M H L a x Q w hs ra hp
  unfold kI1 at hp
  split at hp
  · obtain ⟨v, rfl, rv⟩ := ra.single
    cases rv
    exact ⟨_, rfl, hp H M To.refl hs _ rfl⟩
  · exact hp.elim
theorem does_max2 : DoesL S (fun xs H Q => ∃ i j, xs = [.int i, .int j] ∧ Q (.int (if j > i then j else i)) H) (kI2 fun i j => if j > i then j else i) := by
  intro M H L a x Q w hs ra hp
  unfold kI2 at hp
  split at hp
  · obtain ⟨v, u, rfl, rv, ru⟩ := ra.two
    cases rv
    cases ru
    exact ⟨_, _, rfl, hp H M To.refl hs _ rfl⟩
  · exact hp.elim
theorem does_min2 : DoesL S (fun xs H Q => ∃ i j, xs = [.int i, .int j] ∧ Q (.int (if j < i then j else i)) H) (kI2 fun i j => if j < i then j else i) := by
  intro M H L a x Q w hs ra hp
  unfold kI2 at hp
  split at hp
  · obtain ⟨v, u, rfl, rv, ru⟩ := ra.two
    cases rv
    cases ru
    exact ⟨_, _, rfl, hp H M To.refl hs _ rfl⟩
  · exact hp.elim
theorem does_intOf : DoesL S (fun xs H Q => (∃ i, xs = [.int i] ∧ Q (.int i) H) ∨ ∃ k, xs = [.bl k] ∧ Q (.int (if k then 1 else 0)) H) kIntOf := by
  intro M H L a x Q w hs ra hp
  unfold kIntOf at hp
  split at hp
  · obtain ⟨v, rfl, rv⟩ := ra.single
    cases rv
    exact .inl ⟨_, rfl, hp H M To.refl hs _ rfl⟩
  · obtain ⟨v, rfl, rv⟩ := ra.single
    cases rv
    exact .inr ⟨_, rfl, hp H M To.refl hs _ rfl⟩
  · exact hp.elim
/-! ### in -/
def flatD : D → Option V
  | .non => some .non
  | .bl b => some (.bl b)
  | .int i => some (.int i)
  | .str x => some (.str x)
  | _ => none
theorem flatD_ok {M : Mu} {H : Hp} {d : D} {v w : V} (r : Rep S.K M H d v) (e : flatD d = some w) : v = w ∧ flatV v = true := by
  cases d with
  | non => cases e; cases r; exact ⟨rfl, rfl⟩
  | bl b => cases e; cases r; exact ⟨rfl, rfl⟩
  | int b => cases e; cases r; exact ⟨rfl, rfl⟩
  | str b => cases e; cases r; exact ⟨rfl, rfl⟩
  | _ => cases e
def flatAll : List D → Option (List V)
  | [] => some []
  | d :: ds => match flatD d, flatAll ds with
    | some v, some r => some (v :: r)
    | _, _ => none
theorem flatAll_ok {M : Mu} {H : Hp} : ∀ {ds : List D} {vs ws : List V}, RepAll S.K M H ds vs → flatAll ds = some ws → vs = ws ∧ vs.all flatV = true
  | [], _, _, r, e => by cases e; cases r; exact ⟨rfl, rfl⟩
  | d :: ds, _, ws, ⟨v, t, e1, h, q⟩, e => by
    have e' : (match flatD d, flatAll ds with | some v, some r => some (v :: r) | _, _ => none) = some ws := e
    cases hd : flatD d with
    | none => rw [hd] at e'; cases e'
    | some w =>
      cases hr : flatAll ds with
      | none => rw [hd, hr] at e'; cases e'
      | some us =>
        rw [hd, hr] at e'
        cases e'
        obtain ⟨a1, a2⟩ := flatD_ok h hd
        obtain ⟨b1, b2⟩ := flatAll_ok q hr
        subst a1 b1
        rw [e1]
        exact ⟨rfl, by rw [List.all_cons, a2, b2]; rfl⟩
def kIn (neg : Bool) : D → D → LH → R D := fun a b L => match flatD a, seqD L b with
  | some x, some (_, ys) => (match flatAll ys with
    | some vs => .ok (.bl (if neg then !inV x vs else inV x vs)) L
    | none => .no)
  | _, _ => .no
theorem does_in {neg : Bool} : Does2 S (rIn S.K neg) (kIn neg) := by
  intro M H L a b x y Q w hs ra rb hp
  unfold kIn at hp
  split at hp
  · rename_i v bb ys e1 e2
    split at hp
    · rename_i vs e3
      obtain ⟨a1, a2⟩ := flatD_ok ra e1
      obtain ⟨p, us, rfl, h, q⟩ := seqD_ok hs rb e2
      obtain ⟨b1, b2⟩ := flatAll_ok q e3
      subst a1 b1
      refine ⟨p, us, rfl, ?_, a2, b2, hp H M To.refl hs _ rfl⟩
      cases bb with
      | true => exact .inr h
      | false => exact .inl h
    · exact hp.elim
  · exact hp.elim
/-- -a -/
def kNeg : D → LH → R D := fun a L => match a with
  | .int i => .ok (.int (-i)) L
  | _ => .no
theorem does_neg : Does1 S (rU fun i => .int (-i)) kNeg := by
  intro M H L a x Q w hs ra hp
  unfold kNeg at hp
  split at hp
  · exact ⟨_, ra, hp H M To.refl hs _ rfl⟩
  · exact hp.elim
theorem de_neg {a : Expr} {f : DE} {pos : Pos} (ha : PE X a (tD S W f)) : PE X (.UnaryOp .USub a pos) (tD S W (d1 kNeg f)) := pe_imp (pe_un un_neg ha) (tD1 does_neg)
/-! ### the module's constants -/
theorem de_gInt {x : Str} {i : Int} {t : Tok} {pos : Pos} (hg : Gl X x) (hm : X.mg x = some (.int i t)) (hd : (x == ("__debug__" : Str)) = false := by decide) : PE X (.Name x pos) (tD S W (dC (.int i))) := de_c (v := .int i) (pe_glob hg hm ⟨t, rfl⟩ hd) fun _ _ => rfl
def IsT (v : Value) (i : Int) : Prop := ∃ t, v = .int i t
theorem vals_ints : ∀ {is : List Int} {us : List Value}, Paired (fun (i : Int) (u : Value) => ∃ t, u = .int i t) is us → Vals (is.map V.int) us
  | _, _, .nil => .nil
  | _, _, .cons r t => .cons r (vals_ints t)
theorem small_tup {its : Array Value} {n : Nat} (h : its.size = n) (hn : n ≤ 16777216) : its.size ≤ sizeLine := by rw [h, sizeLine_eq]; exact hn
/-- a written tuple of ints -/
structure KTup (K : PySem.W.Frag) (a : Addr) (is : List Int) : Prop where
  ex : ∃ (o : Obj) (its : Array Value) (n : Nat), K.lookup a = some o ∧ o.cls = .type "tuple" ∧ o.dict = none ∧ o.data = .seq its n ∧ its.size ≤ sizeLine ∧ Vals (is.map V.int) its.toList
theorem de_gTup {x : Str} {a : Addr} {is : List Int} {pos : Pos} (hK : X.K = S.K) (hg : Gl X x) (hm : X.mg x = some (.ref a)) (hk : KTup X.K a is) (hd : (x == ("__debug__" : Str)) = false := by decide) : PE X (.Name x pos) (tD S W (dC (.tup (is.map D.int)))) := by
  obtain ⟨o, its, n, h1, h2, hd0, h3, h4, h5⟩ := hk.ex
  rw [hK] at h1
  exact de_c (v := .ref a) (pe_glob hg hm rfl hd) fun M H => ⟨a, is.map V.int, rfl, .inr ⟨o, its, n, h1, h2, hd0, h3, h4, h5⟩, RepAll.of_ints is⟩
/-! ### a, b = e, f -/
def sPar (i j : Nat) (g : DA) : DS := fun env L => (g env L).toS env fun ds L1 => match ds with
  | [a, b] => .nx ((env.set i (some a)).set j (some b)) L1
  | _ => .no
theorem s_par {st : Stmt} {es : List Expr} {i j : Nat} {g : DA} (h : ∀ t, PA X es t → PS X st (tPar i j t)) (ha : PA X es (tDA S W g)) : PS X st (tS S W (sPar i j g)) := ps_imp (h _ ha) fun E σ H => by
  rintro ⟨env, L, M, he, hs, hp⟩
  refine ⟨env, L, M, he, hs, PostS.expr he hp fun ds L1 M1 H1 x1 s1 q vs r => ?_⟩
  split at q
  · obtain ⟨v, u, rfl, rv, ru⟩ := r.two
    exact ⟨v, u, rfl, q _ H1 M1 To.refl s1 (((he.mono x1).set rv).set ru)⟩
  · exact q.elim
/-- an assignment to a target of any kind -/
def sAsg (f : DE) (k : DG) : DS := fun env L => (f env L).toS env fun d L1 => match k d env with
  | some env1 => .nx env1 L1
  | none => .no
theorem s_asg {st : Stmt} {e : Expr} {f : DE} {g : TG} {k : DG} (h : ∀ te, PE X e te → PS X st (tAsg te g)) (he : PE X e (tD S W f)) (hg : DoesG S X g k) : PS X st (tS S W (sAsg f k)) := ps_imp (h _ he) fun E σ H => by
  rintro ⟨env, L, M, he, hs, hp⟩
  refine ⟨env, L, M, he, hs, PostS.expr he hp fun d L1 M1 H1 x1 s1 q v r => ?_⟩
  cases ek : k d env with
  | none => rw [ek] at q; exact q.elim
  | some env1 =>
    rw [ek] at q
    exact hg M1 H1 L1 d v env env1 σ _ s1 r (he.mono x1) ek fun σ' e' => q σ' H1 M1 To.refl s1 e'
/-- a raise that is never met -/
def sNever : DS := fun _ _ => .no
theorem s_never {st : Stmt} (h : PS X st tNever) : PS X st (tS S W sNever) := ps_imp h fun E σ H ⟨env, L, M, he, hs, hp⟩ => hp.elim
/-- {} as a value -/
theorem de_dict0 {e : Expr} (h : PE X e (fun σ H Q => ∀ d, H d = none → Q (.ref d) (upd H d (.dK [])))) : PE X e (tD S W (dC (.dic []))) := pe_imp h fun σ H Q ⟨env, L, M, he, hs, hp⟩ d hn =>
  post_new hp hs hn _ ⟨d, [], rfl, .inl upd_same, (nm_new hs hn).1, (nm_new hs hn).2, rfl⟩
/-! ### comparisons as tests -/
def dB (f : DE) : DT := fun env L => (f env L).bind fun d L1 => match d with
  | .bl b => .ok b L1
  | _ => .no
theorem tTest_imp {t : TE} {f : DE} (i : ∀ σ H Q, tD S W f σ H Q → t σ H Q) : ∀ σ H Q, tT S W (dB f) σ H Q → tTest t σ H Q := fun σ H Q => by
  rintro ⟨env, L, M, he, hs, hp⟩
  refine i σ H _ ⟨env, L, M, he, hs, PostG.seq hp fun d L1 M1 H1 x1 s1 q v r => ?_⟩
  cases d with
  | bl b => exact ⟨b, r, q H1 M1 To.refl s1⟩
  | _ => exact q.elim
theorem dt_cmp {a b : Expr} {op : CmpOp} {f g : DE} {k : D → D → LH → R D} {r : R2} {pos : Pos} (ho : OpR X (compareOp op) r) (hk : Does2 S r k) (ha : PE X a (tD S W f)) (hb : PE X b (tD S W g)) (hm : behindInMarks op b = false) : PT X (.Compare a [op] [b] pos) (tT S W (dB (d2 k f g))) :=
  pt_imp (pt_cmpR ho ha hb hm) (tTest_imp (tD2 hk))
theorem chain_imp {r r' : R2} {k k' : D → D → LH → R D} {f g h : DE} (hk : Does2 S r k) (hk' : Does2 S r' k') (σ : St) (H : Hp) (Q : VK) : tD S W (dChain k k' f g h) σ H Q → tChain r r' (tD S W f) (tD S W g) (tD S W h) σ H Q := by
  rintro ⟨env, L, M, he, hs, hp⟩
  refine ⟨env, L, M, he, hs, PostG.seq hp fun a L1 M1 H1 x1 s1 q x ra => ⟨env, L1, M1, he.mono x1, s1, PostG.seq q fun b L2 M2 H2 x2 s2 q2 y rb => ?_⟩⟩
  refine hk M2 H2 L2 a b x y _ _ s2 (ra.mono x2) rb (PostG.seq q2 fun z L3 M3 H3 x3 s3 q3 zv rz => ?_)
  cases z with
  | bl t =>
    refine ⟨t, rz, ?_⟩
    have q4 : PostG S (W σ) M3 H3 (PV S Q) (if t = true then (h env L3).bind fun c L4 => k' b c L4 else .ok (.bl false) L3) := q3
    split
    · rename_i e
      rw [if_pos e] at q4
      refine ⟨env, L3, M3, he.mono ((x1.trans x2).trans x3), s3, PostG.seq q4 fun c L4 M4 H4 x4 s4 q5 cv rc => ?_⟩
      exact hk' M4 H4 L4 b c y cv Q _ s4 (rb.mono (x3.trans x4)) rc q5
    · rename_i e
      rw [if_neg e] at q4
      exact q4 H3 M3 To.refl s3 _ rfl
  | _ => exact q3.elim
theorem dt_chain {op op' : CmpOp} {a b c : Expr} {r r' : R2} {k k' : D → D → LH → R D} {f g h : DE} {pos : Pos} (ho : OpR X (compareOp op) r) (ho' : OpR X (compareOp op') r') (hk : Does2 S r k) (hk' : Does2 S r' k') (ha : PE X a (tD S W f)) (hb : PE X b (tD S W g)) (hc : PE X c (tD S W h))
    (hm : lastMarks [op, op'] [b, c] = false := by with_unfolding_all rfl) : PT X (.Compare a [op, op'] [b, c] pos) (tT S W (dB (dChain k k' f g h))) := pt_imp (pt_chain ho ho' ha hb hc hm) (tTest_imp (chain_imp hk hk'))
end DL

set_option Elab.async false
set_option linter.all false
set_option maxRecDepth 100000
set_option maxHeartbeats 1000000
namespace DL
open PySem PySem.Spec L2
variable [Tbs]
/-! ### dicts whose keys are ints and texts -/
def keyD : D → Option Key
  | .int i => some (.inl i)
  | .str x => some (.inr x)
  | _ => none
def keyDD : Key → D
  | .inl i => .int i
  | .inr x => .str x
def dictD (L : LH) : D → Option (List (Key × D))
  | .dic ks => some ks
  | .ref n => match L[n]? with
    | some (.dic ks) => some ks
    | some (.lck (.dic ks)) => some ks
    | _ => none
  | _ => none
def valD : List (Key × D) → Key → Option D
  | [], _ => none
  | kd :: ks, k => if kd.1 = k then some kd.2 else valD ks k
def hasD (ks : List (Key × D)) (k : Key) : Bool := ks.any fun kv => decide (kv.1 = k)
def putD (ks : List (Key × D)) (k : Key) (d : D) : List (Key × D) := if hasD ks k = true then ks.map (fun kv => if kv.1 = k then (kv.1, d) else kv) else ks ++ [(k, d)]
section
variable {K : PySem.W.Frag} {M : Mu} {H : Hp}
theorem keyD_ok {d : D} {v : V} {k : Key} (r : Rep K M H d v) (e : keyD d = some k) : v = kV k := by
  cases d with
  | int i => cases e; exact r
  | str x => cases e; exact r
  | _ => cases e
theorem RepKV.len : ∀ {ks : List (Key × D)} {kvs : List (Key × V)}, RepKV K M H ks kvs → kvs.length = ks.length
  | [], _, h => by rw [show _ = [] from h]; rfl
  | kd :: ks, _, ⟨v, r, e, _, t⟩ => by rw [e]; simp [RepKV.len t]
theorem RepKV.keys : ∀ {ks : List (Key × D)} {kvs : List (Key × V)}, RepKV K M H ks kvs → kvs.map (·.1) = ks.map (·.1)
  | [], _, h => by rw [show _ = [] from h]; rfl
  | kd :: ks, _, ⟨v, r, e, _, t⟩ => by rw [e]; simp [RepKV.keys t]
theorem RepKV.val : ∀ {ks : List (Key × D)} {kvs : List (Key × V)} {k : Key}, RepKV K M H ks kvs → (∀ d, valD ks k = some d → ∃ v, valV kvs k = some v ∧ Rep K M H d v) ∧ (valD ks k = none → valV kvs k = none)
  | [], _, k, h => by
    rw [show _ = [] from h]
    exact ⟨(fun d e => nomatch e), fun _ => rfl⟩
  | kd :: ks, _, k, ⟨v, r, e, rv, t⟩ => by
    rw [e]
    unfold valD
    by_cases q : kd.1 = k
    · rw [if_pos q, valV_pos (p := (kd.1, v)) q]
      exact ⟨fun d z => by cases z; exact ⟨v, rfl, rv⟩, fun z => nomatch z⟩
    · rw [if_neg q, valV_neg (p := (kd.1, v)) q]
      exact RepKV.val t
theorem RepKV.any {k : Key} : ∀ {ks : List (Key × D)} {kvs : List (Key × V)}, RepKV K M H ks kvs → (kvs.any fun kv => decide (kv.1 = k)) = hasD ks k
  | [], _, h => by rw [show _ = [] from h]; rfl
  | kd :: ks, _, ⟨v, r, e, _, t⟩ => by
    rw [e]
    show (decide (kd.1 = k) || (r.any fun kv => decide (kv.1 = k))) = (decide (kd.1 = k) || hasD ks k)
    rw [RepKV.any t]
theorem RepKV.repl {k : Key} {d : D} {v : V} (rd : Rep K M H d v) : ∀ {ks : List (Key × D)} {kvs : List (Key × V)}, RepKV K M H ks kvs → RepKV K M H (ks.map fun kv => if kv.1 = k then (kv.1, d) else kv) (kvs.map fun kv => if kv.1 = k then (kv.1, v) else kv)
  | [], _, h => by rw [show _ = [] from h]; rfl
  | kd :: ks, _, ⟨u, r, e, ru, t⟩ => by
    rw [e]
    by_cases q : kd.1 = k
    · refine ⟨v, r.map (fun kv => if kv.1 = k then (kv.1, v) else kv), ?_, ?_, RepKV.repl rd t⟩
      · simp [q]
      · simp [q]; exact rd
    · refine ⟨u, r.map (fun kv => if kv.1 = k then (kv.1, v) else kv), ?_, ?_, RepKV.repl rd t⟩
      · simp [q]
      · simp [q]; exact ru
theorem RepKV.app {k : Key} {d : D} {v : V} (rd : Rep K M H d v) : ∀ {ks : List (Key × D)} {kvs : List (Key × V)}, RepKV K M H ks kvs → RepKV K M H (ks ++ [(k, d)]) (kvs ++ [(k, v)])
  | [], _, h => by
    rw [show _ = [] from h]
    exact ⟨v, [], rfl, rd, rfl⟩
  | kd :: ks, _, ⟨u, r, e, ru, t⟩ => by
    rw [e]
    exact ⟨u, r ++ [(k, v)], rfl, ru, RepKV.app rd t⟩
theorem RepKV.put {k : Key} {d : D} {v : V} {ks : List (Key × D)} {kvs : List (Key × V)} (h : RepKV K M H ks kvs) (rd : Rep K M H d v) : RepKV K M H (putD ks k d) (putK kvs k v) := by
  unfold putD putK
  rw [h.any]
  split
  · exact h.repl rd
  · exact h.app rd
theorem dictD_ok {L : LH} (s : Sim K M H L) {d : D} {v : V} {ks : List (Key × D)} (r : Rep K M H d v) (e : dictD L d = some ks) : ∃ a kvs, v = .ref a ∧ Rd H a (.dK kvs) ∧ RepKV K M H ks kvs := by
  cases d with
  | dic xs =>
    cases e
    obtain ⟨a, kvs, e1, h, _, _, q⟩ := r
    exact ⟨a, kvs, e1, h, q⟩
  | ref n =>
    obtain ⟨a, e1, hm⟩ := r
    have e0 : (match L[n]? with | some (.dic ks) => some ks | some (.lck (.dic ks)) => some ks | _ => none) = some ks := e
    cases hl : L[n]? with
    | none => rw [hl] at e0; cases e0
    | some o =>
      rw [hl] at e0
      cases o with
      | lst _ => cases e0
      | ins _ _ => cases e0
      | tdc _ => cases e0
      | lck o' =>
        cases o' with
        | dic xs =>
          cases e0
          obtain ⟨_, h, ob, u, rfl, vs, rfl, q⟩ := s.at_ n a _ hm hl
          exact ⟨a, vs, e1, .inr ⟨ob, h⟩, q⟩
        | _ => cases e0
      | dic xs =>
        cases e0
        obtain ⟨_, h, vs, rfl, q⟩ := s.at_ n a _ hm hl
        exact ⟨a, vs, e1, .inl h, q⟩
  | _ => cases e
end
/-- d[k] -/
def kDx : D → D → LH → R D := fun a b L => match dictD L a, keyD b with
  | some ks, some k => orNo (valD ks k) L
  | _, _ => .no
def rDGet : R2 := fun x y H Q => ∃ a v, x = .ref a ∧ DGet H a y (some v) ∧ Q v H
theorem does_dx : Does2 S rDGet kDx := by
  intro M H L a b x y Q w hs ra rb hp
  unfold kDx at hp
  split at hp
  · rename_i ks k e1 e2
    obtain ⟨p, kvs, rfl, h, q⟩ := dictD_ok hs ra e1
    have ek := keyD_ok rb e2
    subst ek
    cases ev : valD ks k with
    | none => rw [ev] at hp; exact hp.elim
    | some d =>
      rw [ev] at hp
      obtain ⟨v, e3, rv⟩ := (RepKV.val (k := k) q).1 d ev
      exact ⟨p, v, rfl, by rw [← e3]; exact .inl ⟨kvs, k, h, rfl, rfl⟩, hp H M To.refl hs v rv⟩
  · exact hp.elim
theorem de_dx {a b : Expr} {f g : DE} {pos : Pos} (hu : X.A.units + 1 < cLine) (ha : PE X a (tD S W f)) (hb : PE X b (tD S W g)) (hs : NoSl b) : PE X (.Subscript a b pos) (tD S W (d2 kDx f g)) := pe_imp (pe_dget hu ha hb hs) (tD2 does_dx)
/-- k in d -/
def kDIn (neg : Bool) : D → D → LH → R D := fun a b L => match keyD a, dictD L b with
  | some k, some ks => .ok (.bl (if neg then !(valD ks k).isSome else (valD ks k).isSome)) L
  | _, _ => .no
def rDIn (neg : Bool) : R2 := fun y x H Q => ∃ a o, x = .ref a ∧ DGet H a y o ∧ Q (.bl (if neg then !o.isSome else o.isSome)) H
theorem does_din {neg : Bool} : Does2 S (rDIn neg) (kDIn neg) := by
  intro M H L a b x y Q w hs ra rb hp
  unfold kDIn at hp
  split at hp
  · rename_i k ks e1 e2
    obtain ⟨p, kvs, rfl, h, q⟩ := dictD_ok hs rb e2
    have ek := keyD_ok ra e1
    subst ek
    refine ⟨p, valV kvs k, rfl, .inl ⟨kvs, k, h, rfl, rfl⟩, ?_⟩
    have e3 : (valV kvs k).isSome = (valD ks k).isSome := by
      cases ev : valD ks k with
      | none => rw [(RepKV.val q).2 ev]; rfl
      | some d =>
        obtain ⟨v, e4, _⟩ := (RepKV.val q).1 d ev
        rw [e4]; rfl
    rw [e3]
    exact hp H M To.refl hs _ rfl
  · exact hp.elim
theorem de_din {a b : Expr} {f g : DE} {pos : Pos} (hu : X.A.units + 1 < cLine) (ha : PE X a (tD S W f)) (hb : PE X b (tD S W g)) (hm : behindInMarks .In b = false) : PE X (.Compare a [.In] [b] pos) (tD S W (d2 (kDIn false) f g)) := pe_imp (pe_cmp (pc_din hu ha hb) hm) (tD2 (r := rDIn false) does_din)
theorem de_dnin {a b : Expr} {f g : DE} {pos : Pos} (hu : X.A.units + 1 < cLine) (ha : PE X a (tD S W f)) (hb : PE X b (tD S W g)) (hm : behindInMarks .NotIn b = false) : PE X (.Compare a [.NotIn] [b] pos) (tD S W (d2 (kDIn true) f g)) := pe_imp (pe_cmp (pc_dnotin hu ha hb) hm) (tD2 (r := rDIn true) does_din)
theorem dB_imp {f : DE} (σ : St) (H : Hp) (Q : Bool → Hp → Prop) : tT S W (dB f) σ H Q → tB (tD S W f) σ H Q := by
  rintro ⟨env, L, M, he, hs, hp⟩
  refine ⟨env, L, M, he, hs, PostG.seq hp fun d L1 M1 H1 x1 s1 q v r => ?_⟩
  cases d with
  | bl b => exact ⟨b, r, q H1 M1 To.refl s1⟩
  | _ => exact q.elim
theorem dt_din {a b : Expr} {f g : DE} {pos : Pos} (hu : X.A.units + 1 < cLine) (ha : PE X a (tD S W f)) (hb : PE X b (tD S W g)) (hm : behindInMarks .In b = false) : PT X (.Compare a [.In] [b] pos) (tT S W (dB (d2 (kDIn false) f g))) := pt_imp (pt_cmp (pc_din hu ha hb) hm) fun σ H Q q => by
  obtain ⟨env, L, M, he, hs, hp⟩ := dB_imp σ H Q q
  exact tD2 (r := rDIn false) does_din σ H _ ⟨env, L, M, he, hs, hp⟩
theorem dt_dnin {a b : Expr} {f g : DE} {pos : Pos} (hu : X.A.units + 1 < cLine) (ha : PE X a (tD S W f)) (hb : PE X b (tD S W g)) (hm : behindInMarks .NotIn b = false) : PT X (.Compare a [.NotIn] [b] pos) (tT S W (dB (d2 (kDIn true) f g))) := pt_imp (pt_cmp (pc_dnotin hu ha hb) hm) fun σ H Q q => by
  obtain ⟨env, L, M, he, hs, hp⟩ := dB_imp σ H Q q
  exact tD2 (r := rDIn true) does_din σ H _ ⟨env, L, M, he, hs, hp⟩
/-- x = {}, a dict that is stored into -/
def sNewD (i : Nat) : DS := fun env L => .nx (env.set i (some (.ref L.length))) (L ++ [.dic []])
theorem s_newD {i : Nat} {x : Str} {pos pos' p2 : Pos} (h : ∀ te, PE X (.Dict [] [] p2) te → PS X (.Assign [.Name x pos'] (.Dict [] [] p2) pos) (tAsg te (gName i))) : PS X (.Assign [.Name x pos'] (.Dict [] [] p2) pos) (tS S W (sNewD i)) := ps_imp (h _ pe_dnewK) fun E σ H => by
  rintro ⟨env, L, M, he, hs, hp⟩
  intro p hn
  obtain ⟨g, s2⟩ := hs.add (o := .dic []) (u := .dK []) hn ⟨[], rfl, rfl⟩
  exact hp _ _ _ g s2 ((he.mono g).set ⟨p, rfl, at_end hs⟩)
/-- d[k] = e -/
def kDPut (a i d : D) (L : LH) : R Unit := match a, keyD i with
  | .ref n, some k => (match L[n]? with
    | some (.dic ks) => if decide (ks.length < 16777216) = true then .ok () (L.set n (.dic (putD ks k d))) else .no
    | _ => .no)
  | _, _ => .no
def sDSet (f g h : DE) : DS := fun env L => (h env L).toS env fun d L1 => (f env L1).toS env fun a L2 => (g env L2).toS env fun i L3 => (kDPut a i d L3).toS env fun _ L4 => .nx env L4
theorem s_dput {o i e : Expr} {f g h : DE} {pos p2 : Pos} (hu : X.A.units + 1 < cLine) (hsw : swapsWith e (some (.Subscript o i p2)) pos.line X.env = pure false) (ho : PE X o (tD S W f)) (hi : PE X i (tD S W g)) (he : PE X e (tD S W h)) :
    PS X (.Assign [.Subscript o i p2] e pos) (tS S W (sDSet f g h)) := ps_imp (ps_dput hu ho hi he hsw) fun E σ H => by
  rintro ⟨env, L, M, he, hs, hp⟩
  refine ⟨env, L, M, he, hs, PostS.expr he hp fun d L1 M1 H1 x1 s1 q v rd => ?_⟩
  refine ⟨env, L1, M1, he.mono x1, s1, PostS.expr (he.mono x1) q fun a L2 M2 H2 x2 s2 q2 x ra => ?_⟩
  refine ⟨env, L2, M2, (he.mono x1).mono x2, s2, PostS.expr ((he.mono x1).mono x2) q2 fun i L3 M3 H3 x3 s3 q3 y ri => ?_⟩
  have ra' := ra.mono x3
  unfold kDPut at q3
  split at q3
  · rename_i n k ek
    obtain ⟨p, rfl, hm⟩ := ra'
    cases el : L3[n]? with
    | none => simp only [el] at q3; exact q3.elim
    | some o =>
      cases o with
      | lst ds => simp only [el] at q3; exact q3.elim
      | ins _ _ => simp only [el] at q3; exact q3.elim
      | tdc _ => simp only [el] at q3; exact q3.elim
      | lck _ => simp only [el] at q3; exact q3.elim
      | dic ks =>
        simp only [el] at q3
        split at q3
        · rename_i hlt
          obtain ⟨_, h1, kvs, rfl, rv⟩ := s3.at_ n p _ hm el
          have hl3 : n < L3.length := (List.getElem?_eq_some_iff.mp el).1
          have rd' := (rd.mono x2).mono x3
          obtain ⟨x4, s4⟩ := s3.put (u := .dK (putK kvs k v)) (o := .dic (putD ks k d)) hm hl3 (fun H' x' => ⟨_, rfl, RepKV.put (RepKV.mono x' _ _ rv) (rd'.mono x')⟩) (fun _ z => by rw [el] at z; cases z)
          have eky := keyD_ok ri ek
          subst eky
          refine ⟨p, _, rfl, DPut.k h1 (by rw [rv.len, sizeLine_eq]; exact of_decide_eq_true hlt), ?_⟩
          exact q3 _ _ M3 x4 s4 ((((he.mono x1).mono x2).mono x3).mono x4)
        · exact q3.elim
  · exact q3.elim
end DL

set_option Elab.async false
set_option linter.all false
set_option maxRecDepth 100000
set_option maxHeartbeats 2000000
namespace DL
open PySem PySem.Spec L2 PyProof.Rows
variable [Tbs]
/-! ### sorted keys -/
theorem cr_sortedDR {X : Cx} {b : Bool} (hcalm : X.calm = true) : CallRK X (.builtin "sorted") [Str.ofString "reverse"] (fun xs zs H Q => ∃ (a : Addr) (kvs : List (Key × V)) (ks : List Int), xs = [.ref a] ∧ zs = [.bl b] ∧ Rd H a (.dK kvs) ∧ kvs.map (·.1) = ks.map Sum.inl ∧ ks.length < 64 ∧
    ∀ (ys : List Int) (p : Addr), ys.Perm ks → OrdB b ys → H p = none → Q (.ref p) (upd H p (.lst (ys.map V.int)))) := by
  intro pins s σ H xs zs us ws Q I r rz ⟨a, kvs, ks, ex, ez, hd, hks, h64, q⟩
  subst ex; subst ez
  obtain rfl := Vals.ref1 r
  obtain ⟨w1, rfl, e1⟩ := vals1 rz
  obtain rfl : w1 = Value.bool b := e1
  obtain ⟨z, lo, vs, rel, dd⟩ := dk_rd I.hok hd; obtain ⟨ep, hat⟩ := dd.dictAt
  have hkeys : vs.map (·.1) = ks.map Sum.inl := rel.keys.symm.trans hks
  have hl : vs.length = ks.length := by
    have e := congrArg List.length hkeys; rwa [List.length_map, List.length_map] at e
  have h16 : vs.length ≤ sizeLine := by rw [hl, sizeLine_eq]; omega
  refine call_function_entry_kw kind_sorted plain_sorted entry_sorted (PyProof.Rows.args_sorted_rev _ _) ?_
  unfold Builtin.«sorted»
  refine wpAny_bind (m := checkCount "sorted" 1 1 _) (wpAny_pure (wpAny_bind (PySem.W.kdu_collect (A := X.A.in1) (PySem.W.kdl_dict (knd := mixKind X.prog X.w) (kvs := vs) (ep := ep) lo) (I.ok.hd hcalm) hat h16 fun h' tk acc hk hacc => ?_)))
  have hal : acc.toList.length = ks.length := by rw [Array.length_toList, hacc.1, hl]
  have hS : IntsAre acc.toList ks := ints_each hal fun j v e => by
    obtain ⟨k, x, e1, e2⟩ := hacc.2 j v (by rw [← Array.getElem?_toList]; exact e)
    have e3 : (ks.map Sum.inl)[j]? = some k := by rw [← hkeys, List.getElem?_map, e1]; rfl
    rw [List.getElem?_map] at e3
    cases e4 : ks[j]? with
    | none => rw [e4] at e3; cases e3
    | some y =>
      rw [e4] at e3
      have e5 : Sum.inl y = k := Option.some.inj e3
      subst e5
      rcases keyIs_shape (show keyIs (Sum.inl y) v = true from e2) with ⟨i, t, ek, ev⟩ | ⟨z, t, ek, ev⟩
      · cases ek; exact ⟨y, t, rfl, ev⟩
      · cases ek
  have I1 : Inv X pins σ H { s with heap := h', toks := tk } := I.kept hk
  have hz : acc.toList.length ≤ sizeLine := by rw [hal, sizeLine_eq]; omega
  refine wpAny_bind (wpAny_newList ?_ hz)
  have hoL : (h'.push (seqObj "list" acc.toList.toArray 0)).get? h'.objs.size = some (seqObj "list" acc.toList.toArray 0) := Heap.get?_push_size _ rfl
  show wpAny _ _ _ _ _ { s with heap := h'.push (seqObj "list" acc.toList.toArray 0), toks := tk }
  refine wpAny_bind (wpAny_holding (wpAny_call_entry_kw slot_list_sort ⟨_, hoL, rfl⟩ entry_list_sort (SrtR.list_sort_ordR (b := b) SrtO.swo_int hoL hz (fun h2 => SrtO.ints_sortable hS h2) fun out h1 h2 => ⟨_, rfl, ?_⟩) (PyProof.Rows.args_list_sort_rev _ _)))
  obtain ⟨ns', k1, k2, k3⟩ := SrtR.ints_outR hS h1 h2
  obtain ⟨e', he'⟩ := PyProof.Rows.sortedHeap_at (vs := acc.toList) (out := if b = true then out.toArray.reverse else out.toArray) hoL
  have hlen : (ns'.map V.int).length ≤ sizeLine := by rw [List.length_map, k2.length_eq]; exact Nat.le_trans (Nat.le_of_lt h64) (by decide)
  refine wpAny_pure ⟨_, rfl, .ref h'.objs.size, upd H h'.objs.size (.lst (ns'.map V.int)), I1.laid (t' := tk) (fun c u e => ?_) (Nat.le_refl _) (show ObjOk X.prog X.w _ _ _ (.lst (ns'.map V.int)) from ⟨hlen, _, e', vals_of_ints k1, by rw [Array.toArray_toList]; exact he'⟩), rfl, q ns' _ k2 k3 (I1.hok.fresh (Nat.le_refl _))⟩
  have hb : c < h'.objs.size := Heap.lt_size e
  rw [PyProof.Rows.sortedHeap_old (Nat.ne_of_lt hb) (by rw [size_push']; exact Nat.lt_succ_of_lt hb)]; exact Heap.get?_push_of_some _ e
/-! ### sorted ints as a function -/
def insI (x : Int) : List Int → List Int
  | [] => [x]
  | y :: l => if x ≤ y then x :: y :: l else y :: insI x l
def srtI : List Int → List Int
  | [] => []
  | x :: l => insI x (srtI l)
theorem insI_perm (x : Int) : ∀ l, (insI x l).Perm (x :: l)
  | [] => List.Perm.refl _
  | y :: l => by
    unfold insI
    split
    · exact List.Perm.refl _
    · exact ((insI_perm x l).cons y).trans (List.Perm.swap x y l)
theorem srtI_perm : ∀ l, (srtI l).Perm l
  | [] => List.Perm.refl _
  | x :: l => (insI_perm x _).trans ((srtI_perm l).cons x)
theorem insI_srt (x : Int) : ∀ l, l.Pairwise (· ≤ ·) → (insI x l).Pairwise (· ≤ ·)
  | [], _ => by simp [insI]
  | y :: l, h => by
    unfold insI
    rw [List.pairwise_cons] at h
    split
    · rename_i q
      refine List.pairwise_cons.mpr ⟨fun z hz => ?_, List.pairwise_cons.mpr h⟩
      rcases List.mem_cons.mp hz with rfl | hz
      · exact q
      · exact Int.le_trans q (h.1 z hz)
    · rename_i q
      refine List.pairwise_cons.mpr ⟨fun z hz => ?_, insI_srt x l h.2⟩
      rcases List.mem_cons.mp ((insI_perm x l).mem_iff.mp hz) with rfl | hz
      · omega
      · exact h.1 z hz
theorem srtI_srt : ∀ l, (srtI l).Pairwise (· ≤ ·)
  | [] => List.Pairwise.nil
  | x :: l => insI_srt x _ (srtI_srt l)
theorem srt_uniq : ∀ {l r : List Int}, l.Perm r → l.Pairwise (· ≤ ·) → r.Pairwise (· ≤ ·) → l = r
  | [], r, p, _, _ => by rw [List.Perm.nil_eq p]
  | x :: l, [], p, _, _ => by have := p.length_eq; simp at this
  | x :: l, y :: r, p, h, k => by
    rw [List.pairwise_cons] at h k
    have e : x = y := by
      have h1 : x ∈ y :: r := p.mem_iff.mp List.mem_cons_self
      have h2 : y ∈ x :: l := p.mem_iff.mpr List.mem_cons_self
      rcases List.mem_cons.mp h1 with q | q
      · exact q
      · rcases List.mem_cons.mp h2 with q2 | q2
        · exact q2.symm
        · have a1 := k.1 x q; have a2 := h.1 y q2; omega
    subst e
    rw [srt_uniq (List.Perm.cons_inv p) h.2 k.2]
def revI (b : Bool) (l : List Int) : List Int := if b = true then (srtI l).reverse else srtI l
theorem ord_uniq {b : Bool} {ys ks : List Int} (p : ys.Perm ks) (o : OrdB b ys) : ys = revI b ks := by
  cases b with
  | false => exact srt_uniq (p.trans (srtI_perm ks).symm) o (srtI_srt ks)
  | true =>
    have o' : ys.Pairwise (· ≥ ·) := o
    have h1 : ys.reverse.Pairwise (· ≤ ·) := by rw [List.pairwise_reverse]; exact o'
    have := srt_uniq ((List.reverse_perm ys).trans (p.trans (srtI_perm ks).symm)) h1 (srtI_srt ks)
    show ys = (srtI ks).reverse
    rw [← this, List.reverse_reverse]
def keysI : List (Key × D) → Option (List Int)
  | [] => some []
  | (.inl i, _) :: ks => (keysI ks).map (i :: ·)
  | (.inr _, _) :: _ => none
theorem keysI_ok : ∀ {ks : List (Key × D)} {is : List Int}, keysI ks = some is → ks.map (·.1) = is.map Sum.inl
  | [], _, e => by cases e; rfl
  | (.inl i, d) :: ks, is, e => by
    have e' : (keysI ks).map (i :: ·) = some is := e
    cases q : keysI ks with
    | none => rw [q] at e'; cases e'
    | some js => rw [q] at e'; cases e'; rw [List.map_cons, keysI_ok q]; rfl
  | (.inr _, _) :: _, _, e => by cases e
theorem rep_ints_new {K : PySem.W.Frag} {M : Mu} {H : Hp} {L : LH} (hs : Sim K M H L) {p : Addr} (hn : H p = none) (is : List Int) : Rep K M (upd H p (.lst (is.map V.int))) (.lst (is.map D.int)) (.ref p) :=
  ⟨p, _, rfl, upd_same, (nm_new hs hn).1, (nm_new hs hn).2, RepAll.of_ints is⟩
/-- sorted(d), the keys ints -/
def kSortD (b : Bool) : List D → LH → R D := fun ds L => match ds with
  | [d] => (match dictD L d with
    | some ks => (match keysI ks with
      | some is => if decide (is.length < 64) = true then .ok (.lst ((revI b is).map D.int)) L else .no
      | none => .no)
    | none => .no)
  | _ => .no
theorem kSortD_ok {b : Bool} {M : Mu} {H : Hp} {L : LH} {ds : List D} {xs : List V} {Q : VK} {w : WH} (hs : Sim S.K M H L) (ra : RepAll S.K M H ds xs) (hp : PostG S w M H (PV S Q) (kSortD b ds L)) :
    ∃ (a : Addr) (kvs : List (Key × V)) (ks : List Int), xs = [.ref a] ∧ Rd H a (.dK kvs) ∧ kvs.map (·.1) = ks.map Sum.inl ∧ ks.length < 64 ∧ ∀ (ys : List Int) (p : Addr), ys.Perm ks → OrdB b ys → H p = none → Q (.ref p) (upd H p (.lst (ys.map V.int))) := by
  unfold kSortD at hp
  split at hp
  · rename_i d
    split at hp
    · rename_i ks e1
      split at hp
      · rename_i is e2
        split at hp
        · rename_i hl
          obtain ⟨v, rfl, r⟩ := ra.single
          obtain ⟨a, kvs, rfl, h, q⟩ := dictD_ok hs r e1
          refine ⟨a, kvs, is, rfl, h, q.keys.trans (keysI_ok e2), of_decide_eq_true hl, fun ys p pm o hn => ?_⟩
          rw [ord_uniq pm o]
          exact post_new hp hs hn _ (rep_ints_new hs hn _)
        · exact hp.elim
      · exact hp.elim
    · exact hp.elim
  · exact hp.elim
theorem de_sortD {es : List Expr} {e : Expr} {g : DA} (h : ∀ t, PA X es t → PE X e (tCB (fun xs H Q => ∃ (a : Addr) (kvs : List (Key × V)) (ks : List Int), xs = [.ref a] ∧ Rd H a (.dK kvs) ∧ kvs.map (·.1) = ks.map Sum.inl ∧ ks.length < 64 ∧ ∀ (ys : List Int) (p : Addr), ys.Perm ks → ys.Pairwise (· ≤ ·) → H p = none → Q (.ref p) (upd H p (.lst (ys.map V.int)))) t)) (ha : PA X es (tDA S W g)) : PE X e (tD S W (dL (kSortD false) g)) := pe_imp (h _ ha) (tDL fun M H L a x Q w hs ra hp => kSortD_ok (b := false) hs ra hp)
theorem de_sortDR {b : Bool} {es : List Expr} {e : Expr} {g : DA} {tk : TA} (htk : ∀ σ H (P : List V → Hp → Prop), P [.bl b] H → tk σ H P) (h : ∀ t, PA X es t → PE X e (tCKw (fun xs zs H Q => ∃ (a : Addr) (kvs : List (Key × V)) (ks : List Int), xs = [.ref a] ∧ zs = [.bl b] ∧ Rd H a (.dK kvs) ∧ kvs.map (·.1) = ks.map Sum.inl ∧ ks.length < 64 ∧ ∀ (ys : List Int) (p : Addr), ys.Perm ks → OrdB b ys → H p = none → Q (.ref p) (upd H p (.lst (ys.map V.int)))) t tk)) (ha : PA X es (tDA S W g)) : PE X e (tD S W (dL (kSortD b) g)) := pe_imp (h _ ha) fun σ H Q => by
  rintro ⟨env, L, M, he, hs, hp⟩
  refine ⟨env, L, M, he, hs, PostG.seq hp fun a L1 M1 H1 x1 s1 q v ra => htk _ _ _ ?_⟩
  obtain ⟨c, kvs, ks, h1, h2⟩ := kSortD_ok s1 ra q
  exact ⟨c, kvs, ks, h1, rfl, h2⟩
end DL

set_option Elab.async false
set_option linter.all false
set_option maxRecDepth 100000
set_option maxHeartbeats 1000000
namespace DL
open PySem PySem.Spec L2
variable [Tbs]
variable {S : Sg} {X : Cx} {W : St → WH}
/-! ### dict comprehensions -/
def dcD (k : DG) (vs : List Nat) (t : DT) (ke e : DE) (env : DEnv) : List D → List (Key × D) → LH → R (List (Key × D))
  | [], ks, L => .ok ks L
  | d :: ds, ks, L => match k d (wipeD env vs) with
    | none => .no
    | some env1 => (noX (t env1 L)).bind fun b L1 => if b = true then (noX (ke env1 L1)).bind fun y L2 => (noX (e env1 L2)).bind fun z L3 => (match keyD y with
      | some ky => dcD k vs t ke e env ds (putD ks ky z) L3
      | none => .no) else dcD k vs t ke e env ds ks L1
def dDc (f : DI) (k : DG) (vs : List Nat) (t : DT) (ke e : DE) : DE := fun env L => (f env L).bind fun items L1 => if fits items.length then (dcD k vs t ke e env items [] L1).bind fun ks L2 => .ok (.dic ks) L2 else .no
theorem length_putD (ks : List (Key × D)) (k : Key) (d : D) : (putD ks k d).length ≤ ks.length + 1 := by
  unfold putD; split <;> simp
theorem dc_it {J : It} {n : Nat} {G : Hp → Prop} {Y : Nat → Hp → V → Hp → Prop} (w : Walk J n G Y) {g : TG} {tt : TT} {tk te : TE} {vs : List Nat} {σ : St} {H1 : Hp} {D : Addr} {Qd : Hp → Prop} (Pv : Nat → Hp → Prop) (h0 : Pv 0 (upd H1 D (.dK []))) (hG : ∀ i H, i ≤ n → Pv i H → G H)
    (hs : ∀ i x H H', i < n → Pv i H → Y i H x H' → g x (wipe σ vs) H' fun σ2 H2 => wipe σ2 vs = wipe σ vs ∧ tt σ2 H2 fun b H3 =>
      if b = true then tk σ2 H3 fun y H4 => te σ2 H4 fun z H5 => ∃ kvs k, y = kV k ∧ H5 D = some (.dK kvs) ∧ kvs.length < sizeLine ∧ Pv (i + 1) (upd H5 D (.dK (putK kvs k z))) else Pv (i + 1) H3) (hd : ∀ H, Pv n H → Qd H) :
    ∃ W : Nat → Nat → Hp → Prop, (∃ m, W 0 m (upd H1 D (.dK []))) ∧ ∀ i m H, W i m H → (J.stop i H ∧ Qd H) ∨ (J.go i H ∧ ∃ Nx : Hp → Prop, (∀ H', Nx H' → ∃ m', m' < m ∧ W (i + 1) m' H') ∧ ∀ x H', J.yld i H x H' → g x (wipe σ vs) H' fun σ2 H2 => wipe σ2 vs = wipe σ vs ∧ tt σ2 H2 fun b H3 =>
        if b = true then tk σ2 H3 fun y H4 => te σ2 H4 fun z H5 => ∃ kvs k, y = kV k ∧ H5 D = some (.dK kvs) ∧ kvs.length < sizeLine ∧ Nx (upd H5 D (.dK (putK kvs k z))) else Nx H3) := by
  refine ⟨fun i m H => m = n - i ∧ i ≤ n ∧ Pv i H, ⟨n, by simp, Nat.zero_le _, h0⟩, fun i m H ⟨hm, hi, p⟩ => ?_⟩
  subst hm
  by_cases hlt : i < n
  · exact .inr ⟨w.goes i H hlt (hG i H hi p), Pv (i + 1), fun H' p' => ⟨n - (i + 1), by omega, rfl, hlt, p'⟩, fun x H' y => hs i x H H' hlt p (w.yields i H x H' hlt (hG i H hi p) y)⟩
  · obtain rfl : i = n := by omega
    exact .inl ⟨w.stops H (hG i H hi p), hd H p⟩
theorem dc_imp {f : DI} {k : DG} {vs : List Nat} {t : DT} {ke e : DE} {g : TG} (hg : DoesGV S vs g k) (σ : St) (H : Hp) (Q : VK) : tD S W (dDc f k vs t ke e) σ H Q → tDc (tI S W f) g (tT S WF t) (tD S WF ke) (tD S WF e) vs σ H Q := by
  rintro ⟨env, L, M, he, hs, hp⟩
  refine ⟨env, L, M, he, hs, PostG.seq hp fun items L1 M1 H1 x1 s1 q J G Y io D0 hn => ?_⟩
  split at q
  case isFalse => exact q.elim
  rename_i hfit
  have he1 := he.mono x1
  have dm := (nm_new s1 hn).1
  have dx := (nm_new s1 hn).2
  have sM : Sim S.K ⟨M1.m, D0 :: M1.x⟩ (upd H1 D0 (.dK [])) L1 := s1.make hn
  refine dc_it io.w (fun i H' => i ≤ items.length ∧ ∃ M' L' acc ks, To M1 H1 M' H' ∧ D0 ∈ M'.x ∧ D0 ∉ M'.m ∧ Sim S.K M' H' L' ∧ H' D0 = some (.dK acc) ∧ RepKV S.K M' H' ks acc ∧ ks.length ≤ i ∧
      PostG S (W σ) M1 H1 (PV S Q) ((dcD k vs t ke e env (items.drop i) ks L').bind fun ks L2 => .ok (.dic ks) L2)) ⟨Nat.zero_le _, ⟨M1.m, D0 :: M1.x⟩, L1, [], [], To.make hn, List.mem_cons_self, dm, sM, upd_same, rfl, Nat.le_refl _, q⟩
    (fun i H' _ ⟨_, M', L', acc, ks, x, _, _, s, hD, r, _, p⟩ => io.g M' H' x) ?_ ?_
  · rintro i v H' H'' hi ⟨_, M', L', acc, ks, x, dx', dm', s, hD, r, hacc, p⟩ y
    obtain ⟨x2, s2, d, ed, rd⟩ := io.y M' H' L' i v H'' x s hi y
    have hd : items.drop i = d :: items.drop (i + 1) := by
      rw [List.drop_eq_getElem_cons hi, (List.getElem?_eq_some_iff.mp ed).2]
    rw [hd] at p
    unfold dcD at p
    have heM : EnvR S.K M' H'' env σ := he1.mono (x.trans x2)
    cases ek : k d (wipeD env vs) with
    | none => rw [ek] at p; exact p.elim
    | some env1 =>
      rw [ek] at p
      simp only at p
      refine hg M' H'' L' d v _ env1 _ _ s2 rd (wipe_env heM vs) ek fun σ2 e2 ew => ⟨by rw [ew, wipe_wipe _ _ (fun i hi => hi)], ?_⟩
      refine ⟨env1, L', M', e2, s2, ?_⟩
      cases et : t env1 L' with
      | exc ex L2 => rw [et] at p; exact p.elim
      | no => rw [et] at p; exact p.elim
      | ok b L2 =>
        rw [et] at p
        intro H3 M3 x3 s3
        have xx : To M1 H1 M3 H3 := (x.trans x2).trans x3
        have hD2 := x2.keep D0 _ dm' hD (fun ps z => nomatch z)
        have hD3 : H3 D0 = some (.dK acc) := x3.keep D0 _ dm' hD2 (fun ps z => nomatch z)
        have lD {H : Hp} {ks : List (Key × V)} (h : H D0 = some (.dK ks)) : Liv H D0 := ⟨_, h, fun _ z => nomatch z⟩
        have dm3 : D0 ∉ M3.m := x3.nm (lD hD2) dm'
        have dx3 : D0 ∈ M3.x := by
          obtain ⟨ey, q1, _⟩ := x3.x
          rw [q1]; exact List.mem_append_right _ dx'
        have r3 := RepKV.mono (x2.trans x3) ks acc r
        show if b = true then _ else _
        cases b with
        | false =>
          rw [if_neg Bool.false_ne_true]
          exact ⟨hi, M3, L2, acc, ks, xx, dx3, dm3, s3, hD3, r3, by omega, p⟩
        | true =>
          rw [if_pos rfl]
          refine ⟨env1, L2, M3, e2.mono x3, s3, ?_⟩
          have p1 : PostG S (W σ) M1 H1 (PV S Q) (((DL.noX (ke env1 L2)).bind fun y L3 => (DL.noX (e env1 L3)).bind fun z L4 => (match keyD y with | some ky => dcD k vs t ke e env (items.drop (i + 1)) (putD ks ky z) L4 | none => .no)).bind fun ks L2 => .ok (.dic ks) L2) := p
          cases eke : ke env1 L2 with
          | exc ex L3 => rw [eke] at p1; exact p1.elim
          | no => rw [eke] at p1; exact p1.elim
          | ok dy L3 =>
            rw [eke] at p1
            intro H4 M4 x4 s4 y4 ry
            refine ⟨env1, L3, M4, (e2.mono x3).mono x4, s4, ?_⟩
            have p2 : PostG S (W σ) M1 H1 (PV S Q) (((DL.noX (e env1 L3)).bind fun z L4 => (match keyD dy with | some ky => dcD k vs t ke e env (items.drop (i + 1)) (putD ks ky z) L4 | none => .no)).bind fun ks L2 => .ok (.dic ks) L2) := p1
            cases ee : e env1 L3 with
            | exc ex L4 => rw [ee] at p2; exact p2.elim
            | no => rw [ee] at p2; exact p2.elim
            | ok dz L4 =>
              rw [ee] at p2
              intro H5 M5 x5 s5 z5 rz
              have p3 : PostG S (W σ) M1 H1 (PV S Q) ((match keyD dy with | some ky => dcD k vs t ke e env (items.drop (i + 1)) (putD ks ky dz) L4 | none => .no).bind fun ks L2 => .ok (.dic ks) L2) := p2
              cases eky : keyD dy with
              | none => rw [eky] at p3; exact p3.elim
              | some ky =>
                rw [eky] at p3
                have hD4 := x4.keep D0 _ dm3 hD3 (fun ps z => nomatch z)
                have dm4 : D0 ∉ M4.m := x4.nm (lD hD3) dm3
                have hD5 : H5 D0 = some (.dK acc) := x5.keep D0 _ dm4 hD4 (fun ps z => nomatch z)
                have dm5 : D0 ∉ M5.m := x5.nm (lD hD4) dm4
                have dx5 : D0 ∈ M5.x := by
                  obtain ⟨ey, q1, _⟩ := (x4.trans x5).x
                  rw [q1]; exact List.mem_append_right _ dx3
                have r5 := RepKV.mono (x4.trans x5) ks acc r3
                have xx5 := (xx.trans x4).trans x5
                refine ⟨acc, ky, keyD_ok ry eky, hD5, ?_, hi, M5, L4, putK acc ky z5, putD ks ky dz, xx5.over hn (Sl.dK hD5), dx5, dm5, s5.sealed dx5 dm5 (Sl.dK hD5), upd_same, RepKV.put (RepKV.sealed dx5 (Sl.dK hD5) ks acc r5) (Rep.sealed dx5 (Sl.dK hD5) dz z5 rz), ?_, p3⟩
                · have := fits_ok hfit
                  have := r5.len
                  omega
                · have := length_putD ks ky dz
                  omega
  · rintro H' ⟨_, M', L', acc, ks, x, dx', dm', s, hD, r, hacc, p⟩
    rw [List.drop_length] at p
    obtain ⟨ey, q1, q2⟩ := x.x
    obtain ⟨m', x'⟩ := M'
    simp only at q1
    subst q1
    exact p H' ⟨m', M1.x⟩ ⟨x.keep, x.live, x.tabs, x.m, To.refl.x, x.frz⟩ (Sim.lessx s) _ ⟨D0, acc, rfl, .inl hD, dm', dx, RepKV.lessx ks acc r⟩
theorem de_dc {e0 : Expr} {f : DI} {k : DG} {vs : List Nat} {t : DT} {ke e : DE} {g : TG} (h : PE X e0 (tDc (tI S W f) g (tT S WF t) (tD S WF ke) (tD S WF e) vs)) (hg : DoesGV S vs g k) : PE X e0 (tD S W (dDc f k vs t ke e)) := pe_imp h (dc_imp hg)
end DL

set_option Elab.async false
set_option linter.all false
set_option maxRecDepth 100000
set_option maxHeartbeats 1000000
namespace DL
open PySem PySem.Spec L2 PyProof.Rows
variable [Tbs]
/-! ### max of a list or of a tuple of ints -/
section
variable {prog : Program} {w : World} {A : Around} {E : Value → Shared → Prop} {s : Shared} {l : Addr}
theorem max_tup {xs : Array (Int × Tok)} {Q : Value → Shared → Prop} (hh : A.handled = none) (hT : s.heap.IsTuple l (intItems xs)) (hne : 0 < xs.size)
    (h : ∀ v h' tk, (intItems xs)[argBest (fun i j => decide (numAt xs i > numAt xs j)) (xs.size - 1)]? = some v → (∀ b o, s.heap.get? b = some o → h'.get? b = some o) → Q v { s with heap := h', toks := tk }) : wpAny (model prog w) A (call (.builtin "max") [.ref l]) Q E s := by
  have hlt : l < s.heap.objs.size := by obtain ⟨_, e, _⟩ := hT; exact Heap.lt_size e
  refine call_max_walk (wpAny_pyIter_tuple hT ?_)
  refine ⟨_, [_, l], [_], _, _, _, _, rfl, Walks.tuple (A := A.in1) hh _ l (Nat.ne_of_lt hlt) (intItems xs), ⟨⟨_, Heap.get?_push_size _ rfl, rfl, rfl⟩, hT.push _⟩, fun c hc => ?_, by simpa [intItems] using hne, CmpOf.ints_gt (numAt xs) (fun _ _ => intItems_at), fun v h' tk hP hk => h v h' tk (by simpa [intItems] using hP) fun b o e => hk b o (fun hm => ?_) (Heap.get?_push_of_some _ e)⟩
  · show c < (s.heap.push _).objs.size
    rw [Heap.size_push]
    rcases List.mem_cons.mp hc with rfl | hc
    · exact Nat.lt_succ_self _
    · rw [List.mem_singleton.mp hc]; exact Nat.lt_succ_of_lt hlt
  · rw [List.mem_singleton.mp hm] at e; exact absurd (Heap.lt_size e) (Nat.lt_irrefl _)
theorem max_rawT {its : List Value} {ns : List Int} {Q : Value → Shared → Prop} (hh : A.handled = none) (hl : s.heap.IsTuple l its.toArray) (hi : IntsAre its ns) (hne : 0 < ns.length)
    (h : ∀ h' tk M t', (∀ b o, s.heap.get? b = some o → h'.get? b = some o) → M ∈ ns → (∀ a, a ∈ ns → a ≤ M) → Q (.int M t') { s with heap := h', toks := tk }) : wpAny (model prog w) A (call (.builtin "max") [.ref l]) Q E s := by
  obtain ⟨xs, e⟩ := hi.allInts.items
  have hn : numsOf (intItems xs).toList = ns := by rw [← e]; exact hi.numsOf
  rw [nums_intItems] at hn; subst hn
  rw [e] at hl
  have hsz : 0 < xs.size := by simpa using hne
  refine max_tup hh hl hsz fun v h' tk hv hk => ?_
  obtain ⟨t, rfl⟩ := intItems_at hv
  obtain ⟨h1, h2⟩ := argBest_gt (numAt xs) (xs.size - 1)
  refine h h' tk _ t hk (by rw [numAt_eq]; exact PySem.getD_mem (by rw [List.length_map, Array.length_toList]; omega)) fun a ha => ?_
  obtain ⟨j, hj, rfl⟩ := mem_getD ha
  rw [List.length_map, Array.length_toList] at hj; rw [← numAt_eq]; exact h2 j (by omega)
end
def rMaxT (K : PySem.W.Frag) : List V → Hp → VK → Prop := fun vs H Q => ∃ (a : Addr) (ns : List Int), vs = [V.ref a] ∧ SqT K H a (ns.map V.int) ∧ 0 < ns.length ∧ ∀ m, m ∈ ns → (∀ y, y ∈ ns → y ≤ m) → Q (.int m) H
theorem cr_maxT {X : Cx} (hc : X.calm = true) : CallR X (.builtin "max") (rMaxT X.K) := by
  intro pins s σ H vs us Q I r ⟨a, ns, e, hs, hne, q⟩
  subst e
  obtain ⟨its, rv, ⟨o, ho, hcl, n, hd⟩, _⟩ := I.tuple hs
  rw [Vals.ref1 r]
  exact max_rawT (I.ok.hd hc) ⟨o, ho, hcl, n, hd⟩ rv.ints hne fun h' tk m t' hk h1 h2 => ⟨.int _, H, I.kept hk, ⟨_, rfl⟩, q m h1 h2⟩
def maxI : List Int → Int
  | [] => 0
  | [x] => x
  | x :: l => if maxI l > x then maxI l else x
theorem maxI_ok : ∀ {l : List Int}, l ≠ [] → maxI l ∈ l ∧ ∀ y ∈ l, y ≤ maxI l
  | [], h => absurd rfl h
  | [x], _ => ⟨by simp [maxI], fun y hy => by rw [List.mem_singleton.mp hy]; exact Int.le_refl _⟩
  | x :: z :: l, _ => by
    obtain ⟨h1, h2⟩ := maxI_ok (l := z :: l) (by simp)
    show (if maxI (z :: l) > x then maxI (z :: l) else x) ∈ _ ∧ ∀ y ∈ _, y ≤ (if maxI (z :: l) > x then maxI (z :: l) else x)
    split
    · rename_i q
      exact ⟨List.mem_cons_of_mem _ h1, fun y hy => by
        rcases List.mem_cons.mp hy with rfl | hy
        · omega
        · exact h2 y hy⟩
    · rename_i q
      exact ⟨List.mem_cons_self, fun y hy => by
        rcases List.mem_cons.mp hy with rfl | hy
        · exact Int.le_refl _
        · have := h2 y hy; omega⟩
def kMax : List D → LH → R D := fun ds L => match ds with
  | [d] => (match seqD L d with
    | some (_, xs) => (match intsD xs with
      | some (i :: is) => .ok (.int (maxI (i :: is))) L
      | _ => .no)
    | none => .no)
  | _ => .no
variable {S : Sg}
theorem does_max : DoesL S (rOrL (rMax S.K) (rMaxT S.K)) kMax := by
  intro M H L a x Q w hs ra hp
  unfold kMax at hp
  split at hp
  · rename_i d
    split at hp
    · rename_i b xs e
      split at hp
      · rename_i i is e2
        obtain ⟨v, rfl, r⟩ := ra.single
        obtain ⟨p, vs, rfl, h, q⟩ := seqD_ok hs r e
        have ei := intsD_ok e2
        subst ei
        have ev := RepAll.ints q
        subst ev
        obtain ⟨h1, h2⟩ := maxI_ok (l := i :: is) (by simp)
        have fin : ∀ m, m ∈ i :: is → (∀ y, y ∈ i :: is → y ≤ m) → Q (.int m) H := fun m hm hy => by
          have : m = maxI (i :: is) := Int.le_antisymm (h2 m hm) (hy _ h1)
          subst this
          exact hp H M To.refl hs _ rfl
        cases b with
        | true => exact .inr ⟨p, i :: is, rfl, h, by simp, fin⟩
        | false => exact .inl ⟨p, i :: is, rfl, h, by simp, fin⟩
      · exact hp.elim
    · exact hp.elim
  · exact hp.elim
end DL

set_option Elab.async false
set_option linter.all false
set_option maxRecDepth 100000
set_option maxHeartbeats 1000000
namespace DL
open PySem PySem.Spec L2 PyProof.Rows
variable [Tbs]
variable {S : Sg} {X : Cx} {W : L2.St → WH}
/-! ### f(g(..)), g handing back a new list into which f stores -/
def dCallNew (F : List D → LH → R D) (f : DF) : DE := fun env L => (f env L).bind fun ds L1 => match F [.ref L1.length] (L1 ++ [.lst ds]) with
  | .ok d L2 => leave L1 L2 d
  | .exc e L2 => leaveX L1 L2 e
  | .no => .no
theorem de_callNew {F : List D → LH → R D} {x : Str} {e : Expr} {f : DF} {p pos : Pos} (hc : ∀ t, PA X [e] t → PE X (.Call (.Name x p) [e] [] pos) (tCallS (spD S 1 F) W t)) (hf : PE X e (tF S W f)) (hpa : PE X e (tF S W f) → PA X [e] (tCons (tF S W f) tNil)) : PE X (.Call (.Name x p) [e] [] pos) (tD S W (dCallNew F f)) := pe_imp (hc _ (hpa hf)) fun σ H Q => by
  rintro ⟨env, L, M, he, hs, hp⟩
  refine ⟨env, L, M, he, hs, PostG.seq hp fun ds L1 M1 H1 x1 s1 q vs a hn r => ?_⟩
  obtain ⟨g, s2⟩ := s1.add (o := .lst ds) hn ⟨vs, rfl, r⟩
  refine ⟨[.ref L1.length], L1 ++ [.lst ds], ⟨M1.m ++ [a], M1.x⟩, rfl, ⟨.ref a, [], rfl, ⟨a, rfl, at_end s1⟩, rfl⟩, s2, ?_⟩
  · revert q
    cases F [.ref L1.length] (L1 ++ [.lst ds]) with
    | ok d L2 => exact fun q H' M' x' s' v rv => leave_ok (g.trans x') s1 s' q rv
    | exc ex L2 => exact fun q c dd H' M' x' s' z => leaveX_ok (g.trans x') s1 s' q z
    | no => exact fun q => q
/-! ### x.extend(e) -/
def kExtend (a b : D) (L : LH) : R D := match a with
  | .ref n => (match L[n]?, b with
    | some (.lst ds), .lst es => if fits (ds.length + es.length) then .ok .non (L.set n (.lst (ds ++ es))) else .no
    | _, _ => .no)
  | _ => .no
def dExtend (f g : DE) : DE := fun env L => (f env L).bind fun a L1 => if isRefL a L1 then (g env L1).bind fun b L2 => kExtend a b L2 else .no
theorem de_extend {o e : Expr} {f g : DE} {pos apos : Pos} (h : ∀ to t, PE X o to → PA X [e] t → PE X (.Call (.Attribute o "extend" apos) [e] [] pos) (tBM X.K "list" rExtend to t)) (ho : PE X o (tD S W f)) (he : PA X [e] (tDA S W (daCons g daNil))) :
    PE X (.Call (.Attribute o "extend" apos) [e] [] pos) (tD S W (dExtend f g)) := pe_imp (h _ _ ho he) fun σ H Q => by
  rintro ⟨env, L, M, he, hs, hp⟩
  refine ⟨env, L, M, he, hs, PostG.seq hp fun a L1 M1 H1 x1 s1 q x ra => ?_⟩
  split at q
  · rename_i er
    obtain ⟨n, p, ds0, vs0, rfl, rfl, hm, el0, h0, _⟩ := isRefL_ok s1 ra er
    refine ⟨Or.inl ⟨rfl, _, Or.inl (Or.inl h0)⟩, tDA_one (he.mono x1) s1 q fun b L2 M2 H2 y x2 s2 ry q2 => ?_⟩
    unfold kExtend at q2
    cases el : L2[n]? with
    | none => simp only [el] at q2; exact q2.elim
    | some o =>
      cases o with
      | dic ds => simp only [el] at q2; exact q2.elim
      | ins _ _ => simp only [el] at q2; exact q2.elim
      | tdc _ => simp only [el] at q2; exact q2.elim
      | lck _ => simp only [el] at q2; exact q2.elim
      | lst ds =>
        cases b with
        | lst es =>
          simp only [el] at q2
          split at q2
          · rename_i hf
            have hm := x2.get hm
            obtain ⟨_, h1, vs, rfl, rv⟩ := s2.at_ n p _ hm el
            obtain ⟨pb, us, rfl, hb, _, _, rb⟩ := ry
            have hl2 : n < L2.length := (List.getElem?_eq_some_iff.mp el).1
            obtain ⟨x3, s3⟩ := s2.put (u := .lst (vs ++ us)) (o := .lst (ds ++ es)) hm hl2 (fun H' x' => ⟨_, rfl, (RepAll.mono x' _ _ rv).app (RepAll.mono x' _ _ rb)⟩) (fun _ z => by rw [el] at z; cases z)
            exact ⟨p, pb, vs, us, rfl, rfl, h1, hb, by rw [rv.len, rb.len, sizeLine_eq]; exact of_decide_eq_true hf, q2 _ _ x3 s3 _ rfl⟩
          · exact q2.elim
        | _ => simp only [el] at q2; exact q2.elim
  · exact q.elim
/-! ### t.index(i) of a tuple of ints -/
theorem mt_tup_indexI : MtR X "tuple.index" (fun x xs H Q => ∃ (p : Addr) (ys : List Int) (z : Int) (j : Nat), x = .ref p ∧ xs = [.int z] ∧ SqT X.K H p (ys.map V.int) ∧ ys[j]? = some z ∧ (∀ m, m < j → ys[m]? ≠ some z) ∧ Q (.int (j : Nat)) H) := by
  intro pins s σ H x xs v us Q I rx rs ⟨p, ys, z, j, ex, exs, hq, hy, hno, q⟩
  subst ex; subst exs
  cases rx
  obtain ⟨u, rfl, t, rfl⟩ := vals1 rs
  obtain ⟨its, r, ⟨⟨cls, dd, dt, sl⟩, ho, hc, n, hd⟩, hz⟩ := I.tuple hq
  simp only at hc hd; subst hc; subst hd
  have hl : its.toArray.size = ys.length := by rw [List.size_toArray, ← r.length, List.length_map]
  have hj : j < its.toArray.size := by rw [hl]; exact (List.getElem?_eq_some_iff.mp hy).1
  have at' : ∀ (m : Nat) (hm : m < its.toArray.size), ∃ y t', ys[m]? = some y ∧ its.toArray[m] = Value.int y t' := fun m hm => by
    have hm' : m < ys.length := by rw [← hl]; exact hm
    obtain ⟨w, hw, t', hw'⟩ := r.get (i := m) (x := .int ys[m]) (by simp [hm'])
    refine ⟨ys[m], t', List.getElem?_eq_getElem hm', ?_⟩
    have e := (List.getElem?_eq_some_iff.mp hw).2; rw [← hw', ← e]; simp
  have flat : (ys.map V.int).all flatV = true := by rw [List.all_map]; exact List.all_eq_true.mpr fun _ _ => rfl
  refine call_meets PySem.F.slot_tuple_index ⟨_, ho, rfl⟩ PySem.F.entry_tuple_index (PySem.F.args_tuple_index_2 _ _) (TI.tuple_indexAt p its.toArray n dd sl (.int z t) (eqU (.int z)) j hj ?_ ?_) ⟨ho, fun w hw => mem_eqAt (x := .int z) ⟨t, rfl⟩ rfl r flat w (by simpa using hw), ⟨.int (j : Nat), H, I.tok _, ⟨_, rfl⟩, q⟩⟩
  · obtain ⟨y, t', e1, e2⟩ := at' j hj
    rw [e2]; rw [hy] at e1; cases e1
    rw [eqU_of (x := .int z) (y := .int z) ⟨t', rfl⟩ rfl]
    show (z == z) = true
    simp
  · intro m hm hmj
    obtain ⟨y, t', e1, e2⟩ := at' m hm; rw [e2, eqU_of (x := .int z) (y := .int y) ⟨t', rfl⟩ rfl]
    have := hno m hmj
    rw [e1] at this
    show (y == z) = false
    simp; exact fun e => this (by rw [e])
end DL

set_option Elab.async false
set_option linter.all false
set_option maxRecDepth 100000
set_option maxHeartbeats 2000000
namespace DL
open PySem PySem.Spec L2 PyProof.Rows HT
variable [Tbs]
/-! ### slices with a step -/
section
variable {prog : Program} {w : World} {A : Around} {E : Value → Shared → Prop} {s : Shared}
theorem sliceApplied_rev {sl : Addr} {vs : Value} {n : Nat} {Q : Int × Int × Nat → Shared → Prop} (hs : s.heap.IsSliceOf sl .none .none vs) (ps : IsPart vs (some (-1))) (h : Q ((n : Int) - 1, -1, n) s) : wpAny (model prog w) A (Builtin.Slice.sliceApplied (.ref sl) (pure (n : Int))) Q E s := by
  obtain ⟨os, hos, hcs, hds⟩ := id hs
  unfold Builtin.Slice.sliceApplied Builtin.Slice.sliceFields
  refine wpAny_bind (wpAny_bind (wpAny_field hos hds (x := .none) rfl (wpAny_bind (wpAny_field hos hds (x := .none) rfl (wpAny_bind (wpAny_field hos hds (x := vs) rfl (wpAny_pure (wpAny_bind (slicePart_ ps ?_)))))))))
  show wpAny _ _ (if ((-1 : Int) == 0) = true then _ else _) _ _ s
  rw [if_neg (by decide)]
  refine wpAny_bind (slicePart_none (wpAny_bind (slicePart_none (wpAny_bind (wpAny_pure (wpAny_pure ?_))))))
  have e : Builtin.Slice.slicePlaces ((n : Int) - 1) (-1) (-1) = n := by
    unfold Builtin.Slice.slicePlaces
    rw [if_neg (by decide)]
    by_cases z : ((n : Int) - 1) > -1
    · rw [if_pos z]; simp
    · rw [if_neg z]; omega
  show Q ((n : Int) - 1, -1, Builtin.Slice.slicePlaces ((n : Int) - 1) (-1) (-1)) s
  rw [e]; exact h
theorem fm_congr {α β : Type} {f g : α → Option β} : ∀ {l : List α}, (∀ x ∈ l, f x = g x) → l.filterMap f = l.filterMap g
  | [], _ => rfl
  | x :: l, h => by
    rw [List.filterMap_cons, List.filterMap_cons, h x (by simp), fm_congr (l := l) fun y hy => h y (by simp [hy])]
theorem pick_rev (xs : Array Value) : ((List.range xs.size).filterMap fun (m : Nat) => xs[(((xs.size : Int) - 1) + (m : Int) * (-1)).toNat]?).toArray = xs.toList.reverse.toArray := by
  have key : ∀ (l : List Value), ((List.range l.length).filterMap fun (m : Nat) => l[(((l.length : Int) - 1) + (m : Int) * (-1)).toNat]?) = l.reverse := by
    intro l
    have e : ((List.range l.length).filterMap fun (m : Nat) => l[(((l.length : Int) - 1) + (m : Int) * (-1)).toNat]?) = (List.range l.length).map fun m => l[l.length - 1 - m]?.getD .none := by
      rw [← List.filterMap_eq_map]
      refine fm_congr fun m hm => ?_
      have hm' : m < l.length := List.mem_range.mp hm
      have h2 : (((l.length : Int) - 1) + (m : Int) * (-1)).toNat = l.length - 1 - m := by omega
      show _ = some (l[l.length - 1 - m]?.getD Value.none)
      rw [h2, List.getElem?_eq_getElem (show l.length - 1 - m < l.length by omega)]; rfl
    rw [e]
    refine List.ext_getElem (by simp) fun i h1 h2 => ?_
    rw [List.length_map, List.length_range] at h1
    rw [List.getElem_map, List.getElem_range, List.getElem_reverse, List.getElem?_eq_getElem (show l.length - 1 - i < l.length by omega)]; rfl
  have := key xs.toList
  rw [Array.length_toList] at this
  rw [← this]
  simp
theorem getItem_tuple_rev {t sl : Addr} {items : Array Value} {vs : Value} {Q : Value → Shared → Prop} (ht : IsTup s.heap t items) (hs : s.heap.IsSliceOf sl .none .none vs) (ps : IsPart vs (some (-1)))
    (h : Q (.ref s.heap.objs.size) { s with heap := s.heap.push { cls := .type "tuple", data := .seq items.toList.reverse.toArray } }) (hsz : items.size ≤ sizeLine) : wpAny (model prog w) A (getItem (.ref t) (.ref sl)) Q E s := by
  have htake : sizeOk (.seq items.toList.reverse.toArray) := by
    show items.toList.reverse.toArray.size ≤ sizeLine
    rw [List.size_toArray, List.length_reverse, Array.length_toList]; exact hsz
  obtain ⟨os, hos, hcs, hds⟩ := id hs
  have hTs : s.TypeIs (.ref sl) "slice" := ⟨os, hos, hcs⟩
  unfold getItem
  try with_reducible refine wpAny_holding ?_
  first | refine wpAny_bind (wpAny_pure ?_) | skip
  refine wpAny_bind (wpAny_sequenceKey ht.typeIs (by decide) (wpAny_bind (wpAny_callSpecial?_slot (name := Str.ofString "__getitem__") ht.typeIs PyProof.Rows.slot_tuple_getitem (wpAny_call_entry PyProof.Rows.slot_tuple_getitem ht.typeIs entry_tuple_getitem ?_ (args_tuple_getitem _ _)))))
  show wpAny _ _ (Builtin.Tuple.tupleItemsOf (.ref t) >>= _) _ _ s
  refine wpAny_bind (tupleItemsOf_ ht (wpAny_bind (wpAny_typeOf hTs ?_)))
  rw [if_pos (by decide)]
  refine wpAny_bind (sliceApplied_rev hs ps ?_)
  have hno : ¬ ((((items.size : Int) - 1) == 0 && (-1 : Int) == 1 && items.size == items.size) = true) := by simp
  show wpAny _ _ (if ((((items.size : Int) - 1) == 0 && (-1 : Int) == 1 && items.size == items.size)) = true then _ else _) _ _ s
  rw [if_neg hno, pick_rev]
  first
    | exact wpAny_bind (m := Builtin.Tuple.tupleExact _) (wpAny_newObj_type (wpAny_pure ⟨_, rfl, wpAny_pure h⟩) htake) | exact wpAny_bind (m := Builtin.Tuple.tupleExact _) (wpAny_newObj_type (wpAny_bind (wpAny_pure (wpAny_pure ⟨_, rfl, wpAny_pure h⟩))) htake)
    | exact wpAny_bind (wpAny_bind (m := Builtin.Tuple.tupleExact _) (wpAny_newObj_type (wpAny_pure (wpAny_pure ⟨_, rfl, wpAny_pure h⟩)) htake)) | exact wpAny_bind (wpAny_bind (m := Builtin.Tuple.tupleExact _) (wpAny_newObj_type (wpAny_pure ⟨_, rfl, wpAny_pure h⟩) htake))
end
def tRevT (K : PySem.W.Frag) (te : TE) : TE := fun σ H Q => te σ H fun x H1 => ∃ a xs, x = .ref a ∧ SqT K H1 a xs ∧ ∀ p (o : Obj), H1 p = none → o.dict = none → Q (.ref p) (upd H1 p (.frz o (.tup xs.reverse)))
variable {S : Sg} {X : Cx} {W : L2.St → WH}
theorem pe_revT {e : Expr} {te : TE} {k : Nat} {p1 p2 p3 pos : Pos} (he : PE X e te) : PE X (.Subscript e (.Slice none none (some (.UnaryOp .USub (.Constant (.int 1) k p1) p2)) p3) pos) (tRevT X.K te) := by
  refine ⟨fun pins s σ H Q I h => Subscript_ (thn (he.run pins s σ H _ I h) fun v s1 ⟨x, H1, I1, r1, a, xs, ex, hx, q⟩ => ?_)⟩
  subst ex; cases r1
  have hst : PO X (some (.UnaryOp .USub (.Constant (.int 1) k p1) p2)) (tPart (tUn (rU fun i => .int (-i)) (tC (.int 1)))) := po_some (pe_un un_neg pe_int)
  refine wpAny_Slice (thn (po_none.run pins s1 σ H1 (fun o H2 => o = none ∧ H2 = H1) I1 ⟨rfl, rfl⟩) fun vl s2 ⟨l, H2, I2, pl, el, e2⟩ => ?_)
  subst el; subst e2
  refine thn (po_none.run pins s2 σ H2 (fun o H3 => o = none ∧ H3 = H2) I2 ⟨rfl, rfl⟩) fun vu s3 ⟨u, H3, I3, pu, eu, e3⟩ => ?_
  subst eu; subst e3
  refine thn (hst.run pins s3 σ H3 (fun o H4 => o = some (-1) ∧ H4 = H3) I3 ⟨1, rfl, -1, rfl, rfl, rfl⟩) fun vs s4 ⟨o, H4, I4, ps, eo, e4⟩ => ?_
  subst eo; subst e4
  have I5 : Inv X pins σ H4 { s4 with heap := s4.heap.push { cls := .type "slice", data := .fields #[vl, vu, vs] } } := I4.kept (t' := s4.toks) fun b ob q => Heap.get?_push_of_some _ q
  obtain ⟨its, r, ht, hz⟩ := I5.tuple hx; have hlen := r.length
  show wpAny (model X.prog X.w) X.A (subscriptTail e (.Slice none none (some (.UnaryOp .USub (.Constant (.int 1) k p1) p2)) p3) (.ref a) (.ref s4.heap.objs.size)) (EP X pins σ Q) X.xe { s4 with heap := s4.heap.push { cls := .type "slice", data := .fields #[vl, vu, vs] } }
  refine tail_any (ops := [.ref a, .ref s4.heap.objs.size]) ht.typeIs (PyProof.Rows.slot_tuple_getitem.lookup) ?_ (by with_unfolding_all rfl)
  cases pl; cases pu
  refine getItem_tuple_rev ht (Heap.IsSliceOf.new _ .none .none vs) ps ?_ (by rw [List.size_toArray]; omega)
  refine ⟨.ref _, _, I5.laid (t' := s4.toks) (o := .frz { cls := .type "tuple", data := .seq its.reverse.toArray } (.tup xs.reverse)) (fun b ob q => Heap.get?_push_of_some _ q) (Nat.le_refl _) ⟨Heap.get?_push_size _ rfl, by rw [List.length_reverse]; exact hz, _, r.reverse, IsTup.new _ _⟩, rfl, q _ _ (I5.hok.fresh (Nat.le_refl _)) rfl⟩
theorem pe_or {e : Expr} {t t' : TE} (h : PE X e t) (h' : PE X e t') : PE X e (fun σ H Q => t σ H Q ∨ t' σ H Q) := ⟨fun pins s σ H Q I q => q.elim (h.run pins s σ H Q I) (h'.run pins s σ H Q I)⟩
theorem RepAll.rev {K : PySem.W.Frag} {M : Mu} {H : Hp} : ∀ {ds : List D} {vs : List V}, RepAll K M H ds vs → RepAll K M H ds.reverse vs.reverse
  | [], _, h => by rw [show _ = [] from h]; rfl
  | d :: ds, _, ⟨v, r, e, rv, t⟩ => by
    rw [e, List.reverse_cons, List.reverse_cons]
    exact (RepAll.rev t).app (RepAll.one rv)
def kRev : D → LH → R D := fun a L => match seqD L a with
  | some (true, xs) => .ok (.tup xs.reverse) L
  | some (false, xs) => .ok (.lst xs.reverse) L
  | none => .no
theorem de_rev {e : Expr} {f : DE} {k : Nat} {p1 p2 p3 pos : Pos} (hK : X.K = S.K) (he : PE X e (tD S W f)) : PE X (.Subscript e (.Slice none none (some (.UnaryOp .USub (.Constant (.int 1) k p1) p2)) p3) pos) (tD S W (d1 kRev f)) := pe_imp (pe_or (pe_revL he) (pe_revT he)) fun σ H Q => by
  rintro ⟨env, L, M, he, hs, hp⟩
  have key : PostG S (W σ) M H (fun a L1 M1 H1 => PostG S (W σ) M1 H1 (PV S Q) (kRev a L1)) (f env L) := hp.bind
  cases ef : f env L with
  | no => rw [ef] at key; exact key.elim
  | exc ex L1 => rw [ef] at key; exact .inl ⟨env, L, M, he, hs, by rw [ef]; exact key⟩
  | ok a L1 =>
    rw [ef] at key
    cases ea : seqD L1 a with
    | none =>
      exact .inl ⟨env, L, M, he, hs, by
        rw [ef]
        intro H1 M1 x1 s1 v ra
        have this : PostG S (W σ) M1 H1 (PV S Q) (kRev a L1) := key H1 M1 x1 s1
        unfold kRev at this
        rw [ea] at this; exact this.elim⟩
    | some bx =>
      obtain ⟨b, xs⟩ := bx
      cases b with
      | true =>
        refine .inr ⟨env, L, M, he, hs, ?_⟩
        rw [ef]
        intro H1 M1 x1 s1 v ra
        have q : PostG S (W σ) M1 H1 (PV S Q) (kRev a L1) := key H1 M1 x1 s1
        unfold kRev at q
        rw [ea] at q
        obtain ⟨p, vs, rfl, h, rr⟩ := seqD_ok s1 ra ea
        exact ⟨p, vs, rfl, by rw [hK]; exact h, fun c o hn ho => post_new q s1 hn _ (rep_tup_new s1 hn ho rr.rev)⟩
      | false =>
        refine .inl ⟨env, L, M, he, hs, ?_⟩
        rw [ef]
        intro H1 M1 x1 s1 v ra
        have q : PostG S (W σ) M1 H1 (PV S Q) (kRev a L1) := key H1 M1 x1 s1
        unfold kRev at q
        rw [ea] at q
        obtain ⟨p, vs, rfl, h, rr⟩ := seqD_ok s1 ra ea
        exact ⟨p, vs, rfl, by rw [hK]; exact h, fun c hn => post_new q s1 hn _ (rep_lst_new s1 hn rr.rev)⟩
/-! ### xs[::c] of a list -/
def pickL {α : Type} (xs : List α) (c : Int) : List α := (sliceRange (sliceBounds none none (some c) xs.length).1 (sliceBounds none none (some c) xs.length).2.1 (sliceBounds none none (some c) xs.length).2.2).filterMap (xs[·]?)
theorem pick_rep {K : PySem.W.Frag} {M : Mu} {H : Hp} {ds : List D} {vs : List V} (r : RepAll K M H ds vs) : ∀ is : List Nat, RepAll K M H (is.filterMap (ds[·]?)) (is.filterMap (vs[·]?))
  | [] => rfl
  | i :: is => by
    have ih := pick_rep r is
    by_cases hi : i < ds.length
    · have e1 : ds[i]? = some ds[i] := List.getElem?_eq_getElem hi
      obtain ⟨v, e2, rv⟩ := r.get e1
      rw [List.filterMap_cons, List.filterMap_cons, e1, e2]
      exact ⟨v, _, rfl, rv, ih⟩
    · rw [List.filterMap_cons, List.filterMap_cons, List.getElem?_eq_none (by omega), List.getElem?_eq_none (by rw [r.len]; omega)]
      exact ih
theorem pick_vals {xs : List V} {us : List Value} (r : Vals xs us) : ∀ is : List Nat, Vals (is.filterMap (xs[·]?)) (is.filterMap (us[·]?))
  | [] => .nil
  | i :: is => by
    have ih := pick_vals r is
    have hl := r.length
    by_cases hi : i < xs.length
    · have e1 : xs[i]? = some xs[i] := List.getElem?_eq_getElem hi
      obtain ⟨v, e2, rv⟩ := r.get e1
      rw [List.filterMap_cons, List.filterMap_cons, e1, e2]
      exact .cons rv ih
    · rw [List.filterMap_cons, List.filterMap_cons, List.getElem?_eq_none (by omega), List.getElem?_eq_none (by omega)]
      exact ih
def tPickL (K : PySem.W.Frag) (c : Int) (te : TE) : TE := fun σ H Q => te σ H fun x H1 => ∃ a xs, x = .ref a ∧ SqL K H1 a xs ∧ (pickL xs c).length ≤ xs.length ∧ ∀ p, H1 p = none → Q (.ref p) (upd H1 p (.lst (pickL xs c)))
theorem pe_pickL {e : Expr} {te : TE} {c : Int} {k : Nat} {p1 p3 pos : Pos} (hc : c ≠ 0) (he : PE X e te) (htail : ∀ a b, subscripted (.Slice none none (some (.Constant (.int c) k p1)) p3) false (.ref a) (.ref b) = operate [.ref a, .ref b] (getItem (.ref a) (.ref b))) : PE X (.Subscript e (.Slice none none (some (.Constant (.int c) k p1)) p3) pos) (tPickL X.K c te) := by
  refine ⟨fun pins s σ H Q I h => Subscript_ (thn (he.run pins s σ H _ I h) fun v s1 ⟨x, H1, I1, r1, a, xs, ex, hx, hpl, q⟩ => ?_)⟩
  subst ex; cases r1
  have hst : PO X (some (.Constant (.int c) k p1)) (tPart (tC (.int c))) := po_some pe_int
  refine wpAny_Slice (thn (po_none.run pins s1 σ H1 (fun o H2 => o = none ∧ H2 = H1) I1 ⟨rfl, rfl⟩) fun vl s2 ⟨l, H2, I2, pl, el, e2⟩ => ?_)
  subst el; subst e2
  refine thn (po_none.run pins s2 σ H2 (fun o H3 => o = none ∧ H3 = H2) I2 ⟨rfl, rfl⟩) fun vu s3 ⟨u, H3, I3, pu, eu, e3⟩ => ?_
  subst eu; subst e3
  refine thn (hst.run pins s3 σ H3 (fun o H4 => o = some c ∧ H4 = H3) I3 ⟨c, rfl, rfl, rfl⟩) fun vs s4 ⟨o, H4, I4, ps, eo, e4⟩ => ?_
  subst eo; subst e4
  have I5 : Inv X pins σ H4 { s4 with heap := s4.heap.push { cls := .type "slice", data := .fields #[vl, vu, vs] } } := I4.kept (t' := s4.toks) fun b ob q => Heap.get?_push_of_some _ q
  obtain ⟨its, r, ht, hz⟩ := I5.list hx; have hlen := r.length
  show wpAny (model X.prog X.w) X.A (subscriptTail e (.Slice none none (some (.Constant (.int c) k p1)) p3) (.ref a) (.ref s4.heap.objs.size)) (EP X pins σ Q) X.xe { s4 with heap := s4.heap.push { cls := .type "slice", data := .fields #[vl, vu, vs] } }
  refine tail_any (ops := [.ref a, .ref s4.heap.objs.size]) ht.isList.typeIs (PySem.slot_list_getitem.lookup) ?_ (htail _ _)
  refine wpAny_getItem_list_slice ht.isList (Heap.IsSliceOf.new _ vl vu vs) pl pu ps (fun z => hc (Option.some.inj z)) ?_ (by rw [List.size_toArray]; omega)
  have e5 : slicePick its.toArray none none (some c) = ((sliceRange (sliceBounds none none (some c) xs.length).1 (sliceBounds none none (some c) xs.length).2.1 (sliceBounds none none (some c) xs.length).2.2).filterMap (its[·]?)).toArray := by
    unfold slicePick
    rw [List.size_toArray, ← hlen]
    congr 1
    exact fm_congr fun i _ => by simp
  rw [e5]
  refine ⟨.ref _, _, I5.laid (t' := s4.toks) (o := .lst (pickL xs c)) (fun b ob q => Heap.get?_push_of_some _ q) (Nat.le_refl _) ⟨by omega, _, 0, pick_vals r _, Heap.get?_push_size _ rfl⟩, rfl, q _ (I5.hok.fresh (Nat.le_refl _))⟩
def kPickL (c : Int) : D → LH → R D := fun a L => match seqD L a with
  | some (false, xs) => if decide ((pickL xs c).length ≤ xs.length) = true then .ok (.lst (pickL xs c)) L else .no
  | _ => .no
theorem pickL_len {α β : Type} (xs : List α) (ys : List β) (c : Int) (h : xs.length = ys.length) : (pickL xs c).length = (pickL ys c).length := by
  unfold pickL
  rw [h]
  generalize sliceRange _ _ _ = is
  induction is with
  | nil => rfl
  | cons i is ih =>
    by_cases hi : i < xs.length
    · rw [List.filterMap_cons, List.filterMap_cons, List.getElem?_eq_getElem hi, List.getElem?_eq_getElem (by omega)]
      simp [ih]
    · rw [List.filterMap_cons, List.filterMap_cons, List.getElem?_eq_none (by omega), List.getElem?_eq_none (by omega)]
      exact ih
theorem de_pickL {e : Expr} {f : DE} {c : Int} {k : Nat} {p1 p3 pos : Pos} (hK : X.K = S.K) (hc : c ≠ 0) (he : PE X e (tD S W f)) (htail : ∀ a b, subscripted (.Slice none none (some (.Constant (.int c) k p1)) p3) false (.ref a) (.ref b) = operate [.ref a, .ref b] (getItem (.ref a) (.ref b))) : PE X (.Subscript e (.Slice none none (some (.Constant (.int c) k p1)) p3) pos) (tD S W (d1 (kPickL c) f)) := pe_imp (pe_pickL hc he htail) fun σ H Q => by
  rintro ⟨env, L, M, he, hs, hp⟩
  refine ⟨env, L, M, he, hs, PostG.seq hp fun a L1 M1 H1 x1 s1 q v ra => ?_⟩
  unfold kPickL at q
  split at q
  · rename_i xs ea
    split at q
    · rename_i hl
      obtain ⟨p, vs, rfl, h, rr⟩ := seqD_ok s1 ra ea
      have e1 := pickL_len xs vs c rr.len.symm
      refine ⟨p, vs, rfl, by rw [hK]; exact h, by rw [← e1, rr.len]; exact of_decide_eq_true hl, fun b hn => post_new q s1 hn _ (rep_lst_new s1 hn ?_)⟩
      have := pick_rep rr (sliceRange (sliceBounds none none (some c) xs.length).1 (sliceBounds none none (some c) xs.length).2.1 (sliceBounds none none (some c) xs.length).2.2)
      unfold pickL
      rw [rr.len]
      exact this
    · exact q.elim
  · exact q.elim
end DL

set_option Elab.async false
set_option linter.all false
set_option maxRecDepth 100000
set_option maxHeartbeats 2000000
namespace DL
open PySem PySem.Spec L2 PyProof.Rows
variable [Tbs]
/-! ### len(set(rows)), the rows tuples of ints, all unlike -/
def rLenST (P : Program) (w : World) : List V → Hp → VK → Prop := fun xs H Q => ∃ (a : Addr) (L : List (Addr × List Int)), xs = [V.ref a] ∧ H a = some (SetTO P w a L) ∧ ((L.map (·.2)).Nodup → Q (.int (L.length : Nat)) H)
theorem cr_lenST {X : Cx} : CallR X (.builtin "len") (rLenST X.prog X.w) := by
  intro pins s σ H xs us Q I r ⟨a, L, ex, ha, q⟩
  subst ex
  rw [Vals.ref1 r]
  have R0 : SetT0 X.prog X.w s.heap a L := (I.hok a _ ha).1
  obtain ⟨es, ep, t, ⟨o, ho, hex, hd⟩, hrows, tab, nd, _, _, _, few⟩ := R0.ex
  have hsz : es.size = L.length := by
    have := congrArg List.length hrows
    simpa [rowsOf] using this
  refine call_len_set ho hex hd ?_ (by rw [hsz]; omega) ⟨.int (L.length : Nat), H, I.tok _, ⟨_, by rw [hsz]⟩, q nd⟩
  have := tab.sz
  unfold SetTable.fits
  have few2 : L.length ≤ t.mask := by omega
  simp [hsz, this, SetTable.fill, tab.dm, few2]
def rowsD : List D → Option (List (List Int))
  | [] => some []
  | .tup ds :: xs => (match intsD ds, rowsD xs with
    | some is, some r => some (is :: r)
    | _, _ => none)
  | _ :: _ => none
def nodupB : List (List Int) → Bool
  | [] => true
  | x :: l => !l.contains x && nodupB l
theorem nodupB_ok : ∀ {l : List (List Int)}, nodupB l = true → l.Nodup
  | [], _ => List.nodup_nil
  | x :: l, h => by
    have h' : (!l.contains x && nodupB l) = true := h
    rw [Bool.and_eq_true] at h'
    rw [List.nodup_cons]
    exact ⟨fun z => by simp [z] at h', nodupB_ok h'.2⟩
theorem rowsD_ok {K : PySem.W.Frag} {M : Mu} {H : Hp} : ∀ {xs : List D} {r : List (List Int)} {vs : List V}, rowsD xs = some r → RepAll K M H xs vs → ∃ ks : List (Addr × List Int), vs = ks.map (fun p => V.ref p.1) ∧ ks.map (·.2) = r ∧ ∀ p ∈ ks, SqT K H p.1 (p.2.map V.int)
  | [], r, vs, e, h => by
    cases e
    exact ⟨[], h, rfl, fun _ z => nomatch z⟩
  | d :: xs, r, vs, e, ⟨v, us, e1, hv, ht⟩ => by
    cases d with
    | tup ds =>
      have e' : (match intsD ds, rowsD xs with | some is, some r => some (is :: r) | _, _ => none) = some r := e
      cases hi : intsD ds with
      | none => rw [hi] at e'; cases e'
      | some is =>
        cases hr : rowsD xs with
        | none => rw [hi, hr] at e'; cases e'
        | some r' =>
          rw [hi, hr] at e'
          cases e'
          obtain ⟨ks, k1, k2, k3⟩ := rowsD_ok hr ht
          obtain ⟨a, ws, rfl, hq, ra⟩ := hv
          have ed := intsD_ok hi
          subst ed
          have ew := ra.ints
          subst ew
          exact ⟨(a, is) :: ks, by rw [e1, k1]; rfl, by simp [k2], fun p hp => by
            rcases List.mem_cons.mp hp with rfl | hp
            · exact hq.t
            · exact k3 p hp⟩
    | _ => cases e
theorem nodup_len {α : Type} [DecidableEq α] : ∀ {l r : List α}, l.Nodup → r.Nodup → (∀ x ∈ l, x ∈ r) → (∀ x ∈ r, x ∈ l) → l.length = r.length := by
  have key : ∀ {l r : List α}, l.Nodup → (∀ x ∈ l, x ∈ r) → l.length ≤ r.length := by
    intro l
    induction l with
    | nil => intro r _ _; exact Nat.zero_le _
    | cons x l ih =>
      intro r h s
      rw [List.nodup_cons] at h
      have hx := s x List.mem_cons_self
      have := ih (r := r.erase x) h.2 (fun y hy => (List.mem_erase_of_ne (fun z : y = x => h.1 (by rw [← z]; exact hy))).mpr (s y (List.mem_cons_of_mem _ hy)))
      rw [List.length_erase_of_mem hx] at this
      have h0 := List.length_pos_of_mem hx
      simp only [List.length_cons]
      omega
  intro l r h1 h2 s1 s2
  exact Nat.le_antisymm (key h1 s1) (key h2 s2)
variable {S : Sg} {X : Cx} {W : L2.St → WH}
def kLenSet : D → LH → R D := fun a L => match seqD L a with
  | some (false, xs) => (match rowsD xs with
    | some r => if (decide (r.length < 64) && nodupB r) = true then .ok (.int (r.length : Nat)) L else .no
    | none => .no)
  | _ => .no
theorem de_lenSet {a e : Expr} {f : DE} (hK : X.K = S.K) (h : ∀ t, PE X a t → PE X e (tCB (rLenST X.prog X.w) (tCons (tCB (rSetOfT X.K X.prog X.w) (tCons t tNil)) tNil))) (ha : PE X a (tD S W f)) : PE X e (tD S W (d1 kLenSet f)) := pe_imp (h _ ha) fun σ H Q => by
  rintro ⟨env, L, M, he, hs, hp⟩
  refine ⟨env, L, M, he, hs, PostG.seq hp fun a L1 M1 H1 x1 s1 q v ra => ?_⟩
  unfold kLenSet at q
  split at q
  · rename_i xs ea
    split at q
    · rename_i r er
      split at q
      · rename_i hb
        rw [Bool.and_eq_true] at hb
        obtain ⟨p, vs, rfl, hq, rr⟩ := seqD_ok s1 ra ea
        obtain ⟨ks, k1, k2, k3⟩ := rowsD_ok er rr
        subst k1
        refine ⟨p, ks, rfl, by rw [hK]; exact hq, by rw [hK]; exact k3, by rw [← List.length_map (f := fun p : Addr × List Int => p.2), k2]; exact of_decide_eq_true hb.1, fun c Ls hn h1 h2 => ?_⟩
        refine ⟨c, Ls, rfl, upd_same, fun nd => ?_⟩
        have hl : Ls.length = r.length := by
          have := nodup_len nd (nodupB_ok hb.2) (fun x hx => by
            obtain ⟨p, hp, rfl⟩ := List.mem_map.mp hx
            rw [← k2]
            exact List.mem_map.mpr ⟨p, h1 p hp, rfl⟩) (fun x hx => by
            rw [← k2] at hx
            obtain ⟨p, hp, rfl⟩ := List.mem_map.mp hx
            exact h2 p hp)
          simpa using this
        rw [hl]
        exact post_new q s1 hn _ rfl
      · exact q.elim
    · exact q.elim
  · exact q.elim
end DL

set_option Elab.async false
set_option linter.all false
set_option maxRecDepth 100000
set_option maxHeartbeats 1000000
namespace DL
open PySem PySem.Spec L2
variable [Tbs]
variable {S : Sg} {X : Cx} {W : L2.St → WH}
/-! ### more ways to new lists -/
def fPlus (f g : DE) : DF := fun env L => (f env L).bind fun a L1 => (g env L1).bind fun b L2 => match lstD L2 a, lstD L2 b with
  | some xs, some ys => if fits (xs.length + ys.length) then .ok (xs ++ ys) L2 else .no
  | _, _ => .no
theorem df_plus {a b : Expr} {pos : Pos} {f g : DE} (ha : PE X a (tD S W f)) (hb : PE X b (tD S W g)) : PE X (.BinOp a .Add b pos) (tF S W (fPlus f g)) := pe_imp (pe_op op_cat ha hb) fun σ H Q => by
  rintro ⟨env, L, M, he, hs, hp⟩
  refine ⟨env, L, M, he, hs, PostG.seq hp fun a L1 M1 H1 x1 s1 q x ra => ⟨env, L1, M1, he.mono x1, s1, PostG.seq q fun b L2 M2 H2 x2 s2 q2 y rb => ?_⟩⟩
  split at q2
  · rename_i xs ys e1 e2
    split at q2
    · rename_i hf
      obtain ⟨p, vs, rfl, h1, r1⟩ := lstD_ok s2 (ra.mono x2) e1
      obtain ⟨c, us, rfl, h2, r2⟩ := lstD_ok s2 rb e2
      exact ⟨p, c, vs, us, rfl, rfl, h1, h2, by rw [r1.len, r2.len]; exact fits_ok hf, fun l hn => q2 H2 M2 To.refl s2 _ l hn (r1.app r2)⟩
    · exact q2.elim
  · exact q2.elim
/-- x, y = a new list that is stored into, e -/
def sParF0 (i j : Nat) (g : DF) (f : DE) : DS := fun env L => (g env L).toS env fun ds L1 => (f env (L1 ++ [.lst ds])).toS env fun a L2 => .nx ((env.set i (some (.ref L1.length))).set j (some a)) L2
theorem s_parF0 {st : Stmt} {a b : Expr} {i j : Nat} {f : DE} {g : DF} (h : ∀ t, PA X [a, b] t → PS X st (tPar i j t)) (hp : ∀ ta tb, PE X a ta → PE X b tb → PA X [a, b] (tCons ta (tCons tb tNil))) (ha : PE X a (tF S W g)) (hb : PE X b (tD S W f)) : PS X st (tS S W (sParF0 i j g f)) :=
  ps_imp (h _ (hp _ _ ha hb)) fun E σ H => by
  rintro ⟨env, L, M, he, hs, hp⟩
  refine ⟨env, L, M, he, hs, PostS.expr he hp fun ds L1 M1 H1 x1 s1 q vs p hn r => ?_⟩
  obtain ⟨g, s2⟩ := s1.add (o := .lst ds) hn ⟨vs, rfl, r⟩
  have he2 := (he.mono x1).mono g
  refine ⟨env, L1 ++ [.lst ds], ⟨M1.m ++ [p], M1.x⟩, he2, s2, ?_⟩
  have q' : PostS S W ⟨M1.m ++ [p], M1.x⟩ (upd H1 p (.lst vs)) E ((f env (L1 ++ [.lst ds])).toS env fun a L2 => .nx ((env.set i (some (.ref L1.length))).set j (some a)) L2) := PostS.ext g q
  refine PostS.expr he2 q' fun a L2 M3 H3 x3 s3 q3 v rv => ⟨.ref p, v, rfl, ?_⟩
  exact q3 _ _ _ To.refl s3 (((he2.mono x3).set (d := .ref L1.length) (v := .ref p) ⟨p, rfl, x3.get (at_end s1)⟩).set rv)
/-- t.index(i), t a tuple of ints -/
def idxI : List Int → Int → Option Nat
  | [], _ => none
  | x :: l, z => if x = z then some 0 else (idxI l z).map (· + 1)
theorem idxI_ok : ∀ {l : List Int} {z : Int} {j : Nat}, idxI l z = some j → l[j]? = some z ∧ ∀ m, m < j → l[m]? ≠ some z
  | [], _, _, e => nomatch e
  | x :: l, z, j, e => by
    unfold idxI at e
    split at e
    · rename_i h
      cases e
      exact ⟨by simp [h], fun m hm => absurd hm (Nat.not_lt_zero m)⟩
    · rename_i h
      cases q : idxI l z with
      | none => rw [q] at e; cases e
      | some k =>
        rw [q] at e
        have e' : k + 1 = j := Option.some.inj e
        subst e'
        obtain ⟨h1, h2⟩ := idxI_ok q
        refine ⟨by simpa using h1, fun m hm => ?_⟩
        cases m with
        | zero => simpa using h
        | succ m => simpa using h2 m (by omega)
/-- x is a tuple, its object known to have no dict -/
def PlainT (K : PySem.W.Frag) (H : Hp) (x : V) : Prop := ∃ a, x = .ref a ∧ ((∃ (o : Obj) (vs : List V), H a = some (.frz o (.tup vs)) ∧ o.dict = none) ∨ ∃ o : Obj, K.lookup a = some o ∧ o.cls = .type "tuple" ∧ o.dict = none)
def tBMT (K : PySem.W.Frag) (r : V → List V → Hp → VK → Prop) (to : TE) (t : TA) : TE := fun σ H Q => to σ H fun x H1 => PlainT K H1 x ∧ t σ H1 fun xs H2 => r x xs H2 Q
theorem plainT_is {pins : List (Addr × Obj)} {σ : L2.St} {H : Hp} {s : Shared} {x : V} {v : Value} (I : L2.Inv X pins σ H s) (r : RelV x v) (ty : PlainT X.K H x) : s.TypeIs v "tuple" ∧ ∀ a, v = .ref a → ∃ ob, s.heap.get? a = some ob ∧ ob.dict = none := by
  obtain ⟨a, rfl, ⟨o, vs, h, d⟩ | ⟨o, h, c, d⟩⟩ := ty
  · cases r
    obtain ⟨h1, _, its, _, ⟨o', h2, h3, _⟩⟩ := (show ObjOk X.prog X.w H s.heap a (.frz o (.tup vs)) from I.hok a _ h)
    rw [h1] at h2; cases h2
    exact ⟨⟨o, h1, h3⟩, fun b e => by cases e; exact ⟨o, h1, d⟩⟩
  · cases r
    have h1 := I.kIn a o h
    exact ⟨⟨o, h1, c⟩, fun b e => by cases e; exact ⟨o, h1, d⟩⟩
theorem pe_bmT {o e : Expr} {es : List Expr} {name : Str} {id : String} {apos cpos : Pos} {to : TE} {t : TA} {r : V → List V → Hp → VK → Prop} (pa : PlainAttrs "tuple") (slot : Slot "tuple" name id) (hty : typeOf (.builtin id) = pure (.type "method_descriptor")) (hm : MtR X id r) (ho : PE X o to) (ha : PA X (e :: es) t)
    (hbase : attributeBase o name X.env (eval o X.env) = eval o X.env := by rfl)
    (hfew : ((backTo cpos (starEach (e :: es) X.env)).all (fun x => !x.1) && (backToKw cpos (keywordEach [] X.env)).all (fun x => x.1.isSome) && decide ((e :: es).length + ([] : List Keyword).length + (if ([] : List Keyword).isEmpty then 0 else 1) < 30)) = true := by rfl)
    (hline : (apos.endLine == cpos.line) = true := by rfl) (hs : starEach (e :: es) X.env = (false, eval e X.env) :: starEach es X.env := by rfl) (hplain : (backTo cpos (starEach es X.env)).any (·.1) = false := by rfl) : PE X (.Call (.Attribute o name apos) (e :: es) [] cpos) (tBMT X.K r to t) := by
  refine ⟨fun pins s σ H Q I h => wpAny_Call_method_late hbase hfew hline rfl (thn (ho.run pins s σ H _ I h) fun v s1 ⟨x, H1, I1, r1, ty, q1⟩ => ?_)⟩
  obtain ⟨h1, h2⟩ := plainT_is I1 r1 ty
  have hA := ha.run cpos pins s1 σ H1 _ I1 q1
  refine ⟨"tuple", id, pa, slot, hty, h1, h2, ?_⟩; rw [hs] at hA ⊢
  refine Calls.callWith_builtin (by show (false || (backTo cpos (starEach es X.env)).any (·.1)) = false; rw [hplain] <;> rfl) (Calls.evalArgs_plain (thn hA fun us s2 ⟨vs, H2, I2, r2, q2⟩ => hm pins s2 σ H2 x vs v us Q I2 r1 r2 q2))
def kIndexT : D → D → LH → R D := fun a b L => match a, b with
  | .tup xs, .int z => (match intsD xs with
    | some is => (match idxI is z with
      | some j => .ok (.int (j : Nat)) L
      | none => .no)
    | none => .no)
  | _, _ => .no
def isTupD : D → Bool
  | .tup _ => true
  | _ => false
def dIndexT (f g : DE) : DE := fun env L => (f env L).bind fun a L1 => if isTupD a then (g env L1).bind fun b L2 => kIndexT a b L2 else .no
theorem de_indexT {o e : Expr} {f g : DE} {pos apos : Pos} (hK : X.K = S.K) (h : ∀ to t, PE X o to → PA X [e] t → PE X (.Call (.Attribute o "index" apos) [e] [] pos) (tBMT X.K (fun x xs H Q => ∃ (p : Addr) (ys : List Int) (z : Int) (j : Nat), x = .ref p ∧ xs = [.int z] ∧ SqT X.K H p (ys.map V.int) ∧ ys[j]? = some z ∧ (∀ m, m < j → ys[m]? ≠ some z) ∧ Q (.int (j : Nat)) H) to t)) (ho : PE X o (tD S W f)) (he : PA X [e] (tDA S W (daCons g daNil))) :
    PE X (.Call (.Attribute o "index" apos) [e] [] pos) (tD S W (dIndexT f g)) := pe_imp (h _ _ ho he) fun σ H Q => by
  rintro ⟨env, L, M, he, hs, hp⟩
  refine ⟨env, L, M, he, hs, PostG.seq hp fun a L1 M1 H1 x1 s1 q x ra => ?_⟩
  split at q
  · rename_i et
    cases a with
    | tup xs =>
      obtain ⟨p, vs, rfl, hq, rr⟩ := ra
      refine ⟨⟨p, rfl, hq.elim (fun ⟨o, h1, h2, _⟩ => .inl ⟨o, vs, h1, h2⟩) (fun ⟨o, _, _, h1, h2, h3, _⟩ => .inr ⟨o, by rw [hK]; exact h1, h2, h3⟩)⟩, tDA_one (he.mono x1) s1 q fun b L2 M2 H2 y x2 s2 ry q2 => ?_⟩
      cases b with
      | int z =>
        have q3 : PostG S (W σ) M2 H2 (PV S Q) (match intsD xs with
          | some is => (match idxI is z with
            | some j => .ok (.int (j : Nat)) L2
            | none => .no)
          | none => .no) := q2
        cases e1 : intsD xs with
        | none => rw [e1] at q3; exact q3.elim
        | some is =>
          rw [e1] at q3
          simp only at q3
          cases e2 : idxI is z with
          | none => rw [e2] at q3; exact q3.elim
          | some j =>
            rw [e2] at q3
            have ed := intsD_ok e1
            subst ed
            have ev := RepAll.ints rr
            subst ev
            obtain ⟨h1, h2⟩ := idxI_ok e2
            exact ⟨p, is, z, j, rfl, by rw [show y = V.int z from ry], by rw [hK]; exact (hq.mono x2).t, h1, h2, q3 H2 M2 To.refl s2 _ rfl⟩
      | _ => exact q2.elim
    | _ => cases et
  · exact q.elim
end DL

set_option Elab.async false
set_option linter.all false
set_option maxRecDepth 100000
namespace DL
open PySem PySem.Spec L2
variable [Tbs]
variable {S : Sg} {X : Cx} {W : L2.St → WH}
/-! ### a, b, c = a list or a tuple of three -/
theorem RepAll.three {K : PySem.W.Frag} {M : Mu} {H : Hp} {d e f : D} {vs : List V} (h : RepAll K M H [d, e, f] vs) : ∃ v u t, vs = [v, u, t] ∧ Rep K M H d v ∧ Rep K M H e u ∧ Rep K M H f t := by
  obtain ⟨v, r, rfl, h1, h2⟩ := h
  obtain ⟨u, t, rfl, h3, h4⟩ := RepAll.two h2
  exact ⟨v, u, t, rfl, h1, h3, h4⟩
def gSet3 (i j k : Nat) : DG := fun d env => match d with
  | .tup [a, b, c] => some (((env.set i (some a)).set j (some b)).set k (some c))
  | _ => none
theorem does_gTup3 {K : PySem.W.Frag} {i j k : Nat} (hK : K = S.K) : DoesG S X (gTup K 3 (gCons (gName i) (gCons (gName j) (gCons (gName k) gNil)))) (gSet3 i j k) := fun M H L d v env env' σ Q hs r he e h => by
  unfold gSet3 at e
  split at e
  · rename_i a b c
    cases e
    obtain ⟨p, vs, rfl, hq, ra⟩ := r
    obtain ⟨x, y, z, rfl, rx, ry, rz⟩ := RepAll.three ra
    exact ⟨p, [x, y, z], rfl, by rw [hK]; exact hq.t, rfl, x, [y, z], rfl, y, [z], rfl, z, [], rfl, rfl, h _ (((he.set rx).set ry).set rz)⟩
  · cases e
def gSet3L (i j k : Nat) : DG := fun d env => match d with
  | .lst [a, b, c] => some (((env.set i (some a)).set j (some b)).set k (some c))
  | _ => none
theorem does_gLst3 {K : PySem.W.Frag} {i j k : Nat} (hK : K = S.K) : DoesG S X (gLst K 3 (gCons (gName i) (gCons (gName j) (gCons (gName k) gNil)))) (gSet3L i j k) := fun M H L d v env env' σ Q hs r he e h => by
  unfold gSet3L at e
  split at e
  · rename_i a b c
    cases e
    obtain ⟨p, vs, rfl, hq, n1, n2, ra⟩ := r
    obtain ⟨x, y, z, rfl, rx, ry, rz⟩ := RepAll.three ra
    exact ⟨p, [x, y, z], rfl, by rw [hK]; exact SqL.of hq, rfl, x, [y, z], rfl, y, [z], rfl, z, [], rfl, rfl, h _ (((he.set rx).set ry).set rz)⟩
  · cases e
end DL

set_option Elab.async false
set_option linter.all false
set_option maxRecDepth 100000
namespace DL
open PySem PySem.Spec L2
variable [Tbs]
variable {S : Sg} {X : Cx} {W : L2.St → WH}
/-! ### a comprehension that walks the keys of a dict that is a value: the dict is locked meanwhile -/
section
variable {K : PySem.W.Frag} {M : Mu} {H : Hp} {a : Addr} {u u' : HO}
/-- the cell a is another one that nothing but a dict that is read looks at -/
structure Cell (M : Mu) (H : Hp) (a : Addr) (u u' w : HO) : Prop where
  at_ : H a = some u
  nm : a ∉ M.m
  k : ∀ z, Rd H a z → (∀ o y, z ≠ .frz o y) → z = w
  k' : Rd (upd H a u') a w
  nt : ∀ o xs, u ≠ .frz o (.tup xs)
  nl : ∀ xs, u ≠ .lst xs
  nfl : ∀ o xs, u ≠ .frz o (.lst xs)
  nc : ∀ c q, u ≠ LamX.CodeO c q
  nt1 : ∀ ps, u ≠ .tbl ps
  nt2 : ∀ ps, u' ≠ .tbl ps
variable {w : HO}
theorem Cell.ne {b : Addr} {o : HO} (c : Cell M H a u u' w) (h : H b = some o) (n : o ≠ u) : b ≠ a := fun z => by
  rw [z, c.at_] at h
  exact n (Option.some.inj h).symm
theorem Cell.rd {b : Addr} {z : HO} (c : Cell M H a u u' w) (h : Rd H b z) (n : ∀ o y, z ≠ .frz o y) : Rd (upd H a u') b z := by
  by_cases hb : b = a
  · subst hb
    rw [c.k z h n]
    exact c.k'
  · rcases h with h | ⟨ob, h⟩
    · exact .inl ((upd_ne hb).trans h)
    · exact .inr ⟨ob, (upd_ne hb).trans h⟩
mutual
theorem Rep.cell (c : Cell M H a u u' w) : ∀ (d : D) (v : V), Rep K M H d v → Rep K M (upd H a u') d v
  | .non, _, h => h
  | .bl _, _, h => h
  | .int _, _, h => h
  | .str _, _, h => h
  | .tup ds, _, ⟨b, vs, e1, h, r⟩ => by
    refine ⟨b, vs, e1, ?_, RepAll.cell c ds vs r⟩
    rcases h with ⟨ob, h, d, n⟩ | h
    · exact .inl ⟨ob, (upd_ne (c.ne h fun z => c.nt _ _ z.symm)).trans h, d, n⟩
    · exact .inr h
  | .lst ds, _, ⟨b, vs, e1, h, n, n2, r⟩ => ⟨b, vs, e1, (upd_ne (c.ne h fun z => c.nl _ z.symm)).trans h, n, n2, RepAll.cell c ds vs r⟩
  | .frl ds, _, ⟨b, vs, e1, h, r⟩ => by
    refine ⟨b, vs, e1, ?_, RepAll.cell c ds vs r⟩
    rcases h with ⟨h, n, n2⟩ | h
    · refine .inl ⟨?_, n, n2⟩
      rcases h with h | ⟨ob, h⟩
      · exact .inl ((upd_ne (c.ne h fun z => c.nl _ z.symm)).trans h)
      · exact .inr ⟨ob, (upd_ne (c.ne h fun z => c.nfl _ _ z.symm)).trans h⟩
    · exact .inr h
  | .dic ds, _, ⟨b, vs, e1, h, n, n2, r⟩ => ⟨b, vs, e1, c.rd h (fun _ _ z => nomatch z), n, n2, RepKV.cell c ds vs r⟩
  | .tdc ds, _, ⟨b, vs, e1, h, n, n2, r⟩ => ⟨b, vs, e1, c.rd h (fun _ _ z => nomatch z), n, n2, RepTK.cell c ds vs r⟩
  | .ref _, _, h => h
  | .obj _, _, h => h
  | .glo _, _, h => h
theorem RepAll.cell (c : Cell M H a u u' w) : ∀ (ds : List D) (vs : List V), RepAll K M H ds vs → RepAll K M (upd H a u') ds vs
  | [], _, h => h
  | d :: ds, _, ⟨v, r, e1, h, t⟩ => ⟨v, r, e1, Rep.cell c d v h, RepAll.cell c ds r t⟩
theorem RepKV.cell (c : Cell M H a u u' w) : ∀ (ds : List (Key × D)) (vs : List (Key × V)), RepKV K M H ds vs → RepKV K M (upd H a u') ds vs
  | [], _, h => h
  | kd :: ds, _, ⟨v, r, e1, h, t⟩ => ⟨v, r, e1, Rep.cell c kd.2 v h, RepKV.cell c ds r t⟩
theorem RepTK.cell (c : Cell M H a u u' w) : ∀ (ds : List (D × D)) (vs : List (KT × Addr × V)), RepTK K M H ds vs → RepTK K M (upd H a u') ds vs
  | [], _, h => h
  | kd :: ds, _, ⟨k, b, v, r, e1, hk, h1, h, t⟩ => ⟨k, b, v, r, e1, hk, Rep.cell c kd.1 _ h1, Rep.cell c kd.2 v h, RepTK.cell c ds r t⟩
end
theorem EnvR.cell {env : DEnv} {σ : L2.St} (c : Cell M H a u u' w) (h : EnvR K M H env σ) : EnvR K M (upd H a u') env σ :=
  ⟨h.1, fun i d q => let ⟨v, e1, r⟩ := h.2 i d q; ⟨v, e1, Rep.cell c d v r⟩⟩
theorem RepU.cell {b : Addr} (c : Cell M H a u u' w) : ∀ {o : LO} {z : HO}, RepU K M H b o z → RepU K M (upd H a u') b o z
  | .lst ds, _, ⟨vs, e, r⟩ => ⟨vs, e, RepAll.cell c ds vs r⟩
  | .dic ds, _, ⟨vs, e, r⟩ => ⟨vs, e, RepKV.cell c ds vs r⟩
  | .tdc ds, _, ⟨vs, e, r⟩ => ⟨vs, e, RepTK.cell c ds vs r⟩
  | .lck o, _, ⟨ob, u, e, r⟩ => ⟨ob, u, e, RepU.cell c r⟩
  | .ins _ ds, _, ⟨C, n, dx, us, e, h, h2, r⟩ => ⟨C, n, dx, us, e, h, h2, RepAll.cell c ds us r⟩
theorem Sim.cell {L : LH} (c : Cell M H a u u' w) (s : Sim K M H L) : Sim K M (upd H a u') L := by
  refine ⟨s.len, s.nod, fun n b o hb hl => ?_, fun b hb => Liv.upd c.nt2 fun _ => s.xs b hb, fun p hp => tabS_upd (s.tb p hp) (fun ps z => by rw [c.at_] at z; exact c.nt1 ps (Option.some.inj z)) (fun d q z => by rw [c.at_] at z; exact c.nc d q (Option.some.inj z))⟩
  have hba : b ≠ a := fun z => c.nm (by rw [← z]; exact List.mem_of_getElem? hb)
  obtain ⟨z, e, r⟩ := s.at_ n b o hb hl
  exact ⟨z, (upd_ne hba).trans e, r.cell c⟩
/-- a dict -/
def IsDc (u : HO) : Prop := (∃ ks, u = .dK ks) ∨ ∃ b es, u = .ext (TDo b es)
theorem IsDc.nf {u : HO} (d : IsDc u) : ∀ o y, u ≠ .frz o y := by
  rcases d with ⟨_, rfl⟩ | ⟨_, _, rfl⟩ <;> exact fun _ _ z => nomatch z
theorem IsDc.nl {u : HO} (d : IsDc u) : ∀ y, u ≠ .lst y := by
  rcases d with ⟨_, rfl⟩ | ⟨_, _, rfl⟩ <;> exact fun _ z => nomatch z
theorem IsDc.nt {u : HO} (d : IsDc u) : ∀ y, u ≠ .tbl y := by
  rcases d with ⟨_, rfl⟩ | ⟨_, _, rfl⟩ <;> exact fun _ z => nomatch z
theorem IsDc.ntp {u : HO} (d : IsDc u) : ∀ y, u ≠ .tup y := by
  rcases d with ⟨_, rfl⟩ | ⟨_, _, rfl⟩ <;> exact fun _ z => nomatch z
theorem IsDc.nc {u : HO} (d : IsDc u) : ∀ c q, u ≠ LamX.CodeO c q := by
  rcases d with ⟨_, rfl⟩ | ⟨_, _, rfl⟩
  · exact fun c q z => code_dK _ z.symm
  · exact fun c q => code_tdo
theorem cell_lock {w : HO} (d : IsDc w) (h : H a = some w) (n : a ∉ M.m) (o : Obj) : Cell M H a w (.frz o w) w :=
  ⟨h, n, (fun z r nz => by
    rcases r with r | ⟨o', r⟩
    · rw [h] at r; cases r; rfl
    · rw [h] at r; cases r; exact absurd rfl (d.nf _ _)), .inr ⟨o, upd_same⟩, (fun _ _ => d.nf _ _), (fun _ => d.nl _), (fun _ _ => d.nf _ _), (fun _ _ => d.nc _ _), (fun _ => d.nt _), (fun _ z => nomatch z)⟩
theorem cell_free {w : HO} {o : Obj} (d : IsDc w) (h : H a = some (.frz o w)) (n : a ∉ M.m) : Cell M H a (.frz o w) w w :=
  ⟨h, n, (fun z r nz => by
    rcases r with r | ⟨o', r⟩
    · rw [h] at r; cases r; exact absurd rfl (nz _ _)
    · rw [h] at r; cases r; rfl), .inl upd_same, (fun _ _ z => by injection z with _ z; exact d.ntp _ z), (fun _ z => nomatch z), (fun _ _ z => by injection z with _ z; exact d.nl _ z), (fun _ _ z => code_frz _ _ z.symm), (fun _ z => nomatch z), fun _ => d.nt _⟩
end
def keysD (ks : List (Key × D)) : List D := ks.map fun k => keyDD k.1
/-- the keys of the dict at i -/
def iDicK (i : Nat) : DI := fun env L => match env[i]? with
  | some (some (.dic ks)) => .ok (keysD ks) L
  | _ => .no
theorem iter_keysD {M : Mu} {H1 : Hp} {a : Addr} {o : Obj} {ks : List (Key × D)} {kvs : List (Key × V)} (ha : H1 a = some (.frz o (.dK kvs))) (n : a ∉ M.m) (r : RepKV S.K M H1 ks kvs) :
    IterOk S M H1 (keysD ks) (Itk a o kvs) (fun H => H a = some (.frz o (.dK kvs))) (fun i H x H' => H' = H ∧ ∃ k v, kvs[i]? = some (k, v) ∧ x = kV k) where
  w := by
    have : (keysD ks).length = kvs.length := by rw [keysD, List.length_map, r.len]
    rw [this]; exact walk_keys
  g := fun M' H' x => x.keep a _ n ha (fun ps z => nomatch z)
  y := fun M' H2 L2 i x H3 x2 s hi y => by
    obtain ⟨rfl, k, v, e, rfl⟩ := y
    refine ⟨To.refl, s, keyDD k, ?_, ?_⟩
    · have hk := r.keys
      have h1 : (ks.map (·.1))[i]? = some k := by
        rw [← hk, List.getElem?_map, e]; rfl
      rw [List.getElem?_map] at h1
      unfold keysD
      rw [List.getElem?_map]
      cases hq : ks[i]? with
      | none => rw [hq] at h1; cases h1
      | some z =>
        rw [hq] at h1
        have : z.1 = k := Option.some.inj h1
        show some (keyDD z.1) = _
        rw [this]
    · cases k <;> rfl
def dLcK (i : Nat) (k : DG) (vs : List Nat) (t : DT) (e : DE) : DE := fun env L => noX (dLc (iDicK i) k vs t e env L)
theorem walkK_imp {i : Nat} {k : DG} {vs : List Nat} {t : DT} {e : DE} {g : TG} (hg : DoesGV S vs g k) {σ : L2.St} {H : Hp} {Q : VK} {env : DEnv} {L : LH} {M : Mu} {a : Addr} {o : Obj} {ks : List (Key × D)} {kvs : List (Key × V)}
    (he : EnvR S.K M H env σ) (hs : Sim S.K M H L) (hi : env[i]? = some (some (.dic ks))) (hσ : σ[i]? = some (some (.ref a))) (ha : H a = some (.frz o (.dK kvs))) (n : a ∉ M.m) (r : RepKV S.K M H ks kvs)
    (hp : PostG S (W σ) M H (PV S Q) (dLc (iDicK i) k vs t e env L)) : tLc (iKeys (tVar i)) g (tT S WF t) (tD S WF e) vs σ H Q := by
  have hl := lc_imp (W := W) (f := iDicK i) (t := t) (e := e) hg σ H Q ⟨env, L, M, he, hs, hp⟩
  obtain ⟨env', L', M', he', hs', hp'⟩ := hl
  unfold iDicK at hp'
  split at hp'
  · rename_i ks' e'
    obtain ⟨v, e1, b, kvs', rfl, hb, nb, _, r'⟩ := he'.2 i _ e'
    rw [hσ] at e1
    have hba : a = b := by injection e1 with e1; injection e1 with e1; injection e1
    subst hba
    have hk : kvs' = kvs := by
      rcases hb with hb | ⟨o', hb⟩
      · rw [ha] at hb; cases hb
      · rw [ha] at hb; cases hb; rfl
    subst hk
    have q := hp' H M' To.refl hs' _ _ _ (iter_keysD ha nb r')
    exact ⟨_, hσ, a, o, rfl, .inl ⟨kvs', ha, q⟩⟩
  · exact hp'.elim
theorem To.lock {M M' : Mu} {H H' : Hp} {a : Addr} {o : Obj} {w : HO} (d : IsDc w) (h : H a = some w) (n : a ∉ M.m) (x : To M (upd H a (.frz o w)) M' H') : To M H M' (upd H' a w) ∧ H' a = some (.frz o w) ∧ a ∉ M'.m := by
  have ha : H' a = some (.frz o w) := x.keep a _ n upd_same (fun ps z => nomatch z)
  have lv {b : Addr} (q : Liv H b) : Liv (upd H a (.frz o w)) b := Liv.upd (fun _ z => nomatch z) fun _ => q
  refine ⟨⟨fun b ob nb hb ht => ?_, fun b hb => Liv.upd (fun ps => d.nt ps) fun _ => x.live b (lv hb), fun p hp t => tabS_frz (x.tabs p hp (tabS_upd t (fun ps z => by rw [h] at z; exact d.nt ps (Option.some.inj z)) (fun c q z => by rw [h] at z; exact d.nc c q (Option.some.inj z)))) ha, ?_, ?_, fun b ob u e => ?_⟩, ha, x.nm (.frz upd_same) n⟩
  · by_cases hba : b = a
    · subst hba
      rw [h] at hb
      rw [upd_same]; exact hb
    · rw [upd_ne hba]
      exact x.keep b ob nb (by rw [upd_ne hba]; exact hb) ht
  · obtain ⟨ex, e, f⟩ := x.m
    exact ⟨ex, e, fun b hb z => f b hb (lv z)⟩
  · obtain ⟨ex, e, f⟩ := x.x
    exact ⟨ex, e, fun b hb z => f b hb (lv z)⟩
  · have nb : b ≠ a := fun z => by rw [z, h] at e; exact d.nf _ _ (Option.some.inj e)
    rw [upd_ne nb]
    exact x.frz b ob u (by rw [upd_ne nb]; exact e)
theorem postG_free {M : Mu} {H : Hp} {a : Addr} {o : Obj} {w0 : HO} {Q : VK} {w : WH} {r : R D} (dc : IsDc w0) (h : H a = some w0) (n : a ∉ M.m) (hp : PostG S w M H (PV S Q) (noX r)) :
    PostG S w M (upd H a (.frz o w0)) (PV S fun v H' => H' a = some (.frz o w0) ∧ Q v (upd H' a w0)) r := by
  cases r with
  | exc e L => exact hp.elim
  | no => exact hp.elim
  | ok d L =>
    intro H' M' x s v rv
    obtain ⟨x', ha, n'⟩ := x.lock dc h n
    have c := cell_free (M := M') dc ha n'
    exact ⟨ha, hp (upd H' a w0) M' x' (s.cell c) v (Rep.cell c d v rv)⟩
theorem postG_noX {M : Mu} {H : Hp} {Q : VK} {w : WH} {r : R D} (hp : PostG S w M H (PV S Q) (noX r)) : PostG S w M H (PV S Q) r := by
  cases r with
  | exc e L => exact hp.elim
  | no => exact hp.elim
  | ok d L => exact hp
/-- [.. for x in d if ..], d a dict that is a value -/
theorem de_lcK {e0 : Expr} {i : Nat} {k : DG} {vs : List Nat} {t : DT} {e : DE} {g : TG} (h : PE X e0 (tLc (iKeys (tVar i)) g (tT S WF t) (tD S WF e) vs)) (hg : DoesGV S vs g k) : PE X e0 (tD S W (dLcK i k vs t e)) :=
  pe_imp (pe_or (pe_lock h) h) fun σ H Q => by
    rintro ⟨env, L, M, he, hs, hp⟩
    have hp0 : PostG S (W σ) M H (PV S Q) (noX (dLc (iDicK i) k vs t e env L)) := hp
    cases hi : env[i]? with
    | none =>
      have : dLc (iDicK i) k vs t e env L = .no := by unfold dLc iDicK; rw [hi]; rfl
      rw [this] at hp0; exact hp0.elim
    | some od =>
      cases od with
      | none =>
        have : dLc (iDicK i) k vs t e env L = .no := by unfold dLc iDicK; rw [hi]; rfl
        rw [this] at hp0; exact hp0.elim
      | some d =>
        cases d with
        | dic ks =>
          obtain ⟨v, hσ, a, kvs, rfl, hr, n, n2, r⟩ := he.2 i _ hi
          rcases hr with ha | ⟨o, ha⟩
          · refine .inl ⟨a, .dK kvs, ha, trivial, fun od => ?_⟩
            have c := cell_lock (M := M) (.inl ⟨_, rfl⟩) ha n od
            exact walkK_imp (W := W) hg (he.cell c) (hs.cell c) hi hσ upd_same n (RepKV.cell c ks kvs r) (postG_free (.inl ⟨_, rfl⟩) ha n hp0)
          · exact .inr (walkK_imp (W := W) hg he hs hi hσ ha n r (postG_noX hp0))
        | _ =>
          have : dLc (iDicK i) k vs t e env L = .no := by unfold dLc iDicK; rw [hi]; rfl
          rw [this] at hp0; exact hp0.elim
end DL

set_option Elab.async false
set_option linter.all false
set_option maxRecDepth 100000
set_option maxHeartbeats 1000000
namespace DL
open PySem PySem.Spec L2
variable [Tbs]
variable {S : Sg} {X : Cx} {W : L2.St → WH}
/-! ### walks over what may be a list that is stored into: it is read turn by turn -/
def forLive (n : Nat) (k : DG) (body : DS) : Nat → Nat → DEnv → LH → SR
  | 0, _, _, _ => .no
  | f + 1, i, env, L => match L[n]? with
    | some (.lst xs) => (match xs[i]? with
      | none => .nx env L
      | some d => (match k d env with
        | none => .no
        | some env1 => (match body env1 L with
          | .nx env2 L2 => forLive n k body f (i + 1) env2 L2
          | .ct env2 L2 => forLive n k body f (i + 1) env2 L2
          | .bk env2 L2 => .nx env2 L2
          | .rt d L2 => .rt d L2
          | .rf d L2 => .rf d L2
          | .exc e env2 L2 => .exc e env2 L2
          | .no => .no)))
    | _ => .no
def lcLive (n : Nat) (k : DG) (vs : List Nat) (t : DT) (e : DE) (env : DEnv) : Nat → Nat → LH → R (List D)
  | 0, _, _ => .no
  | f + 1, i, L => match L[n]? with
    | some (.lst xs) => (match xs[i]? with
      | none => .ok [] L
      | some d => (match k d (wipeD env vs) with
        | none => .no
        | some env1 => (noX (t env1 L)).bind fun b L1 => if b = true then (noX (e env1 L1)).bind fun y L2 => (lcLive n k vs t e env f (i + 1) L2).bind fun ys L3 => .ok (y :: ys) L3 else lcLive n k vs t e env f (i + 1) L1))
    | _ => .no
def liveF : Nat := 1000000
def sForV (f : DE) (k : DG) (body : DS) : DS := fun env L => (f env L).toS env fun d L1 => match d with
  | .ref n => forLive n k body liveF 0 env L1
  | d => (match itemsV d with
    | some xs => forD k body xs env L1
    | none => .no)
def dLcW (f : DE) (k : DG) (vs : List Nat) (t : DT) (e : DE) : DE := fun env L => (f env L).bind fun d L1 => match d with
  | .ref n => (lcLive n k vs t e env liveF 0 L1).bind fun ys L2 => .ok (.lst ys) L2
  | d => (match itemsV d with
    | some items => if fits items.length then (lcD k vs t e env items L1).bind fun ys L2 => .ok (.lst ys) L2 else .no
    | none => .no)
theorem RepAll.at_ {K : PySem.W.Frag} {M : Mu} {H : Hp} : ∀ {ds : List D} {vs : List V} {i : Nat} {v : V}, RepAll K M H ds vs → vs[i]? = some v → ∃ d, ds[i]? = some d ∧ Rep K M H d v
  | [], vs, i, v, r, h => by
    have : vs = [] := r
    rw [this] at h; cases i <;> cases h
  | d :: ds, _, 0, v, ⟨u, r, rfl, h1, h2⟩, h => by
    cases h
    exact ⟨d, rfl, h1⟩
  | d :: ds, _, i + 1, v, ⟨u, r, rfl, h1, h2⟩, h => RepAll.at_ (ds := ds) (vs := r) (i := i) h2 h
theorem rd_lst {H : Hp} {a : Addr} {us ys : List V} {K : PySem.W.Frag} {st : Prop} (h : H a = some (.lst us)) (q : SqL K H a ys) (hk : K.lookup a = none ∨ (∀ o its n, K.lookup a = some o → o.cls = .type "list" → o.dict = none → o.data = .seq its n → Vals ys its.toList → ys = us)) : ys = us := by
  rcases q with (q | ⟨o, q⟩) | ⟨o, its, n, h1, h2, h3, h4, h5, h6⟩
  · rw [h] at q; cases q; rfl
  · rw [h] at q; cases q
  · rcases hk with hk | hk
    · rw [hk] at h1; cases h1
    · exact hk o its n h1 h2 h3 h4 h6
/-- the walk at a list that is stored into -/
def PvL (S : Sg) (W : L2.St → WH) (E : Ends) (n : Nat) (a : Addr) (k : DG) (b : DS) (i m : Nat) (σ : L2.St) (H : Hp) : Prop :=
  ∃ env L M, EnvR S.K M H env σ ∧ Sim S.K M H L ∧ M.m[n]? = some a ∧ PostS S W M H E (forLive n k b m i env L)
theorem for_live {M1 : Mu} {H1 : Hp} {E : Ends} {σ : L2.St} {env : DEnv} {L1 : LH} {n : Nat} {a : Addr} {k : DG} {b : DS} {g : TG} (hg : DoesG S X g k) (he : EnvR S.K M1 H1 env σ) (s1 : Sim S.K M1 H1 L1) (hm : M1.m[n]? = some a) (p : PostS S W M1 H1 E (forLive n k b liveF 0 env L1)) :
    ∃ Wv : Nat → Nat → L2.St → Hp → Prop, (∃ m, Wv 0 m σ H1) ∧ ∀ i m σ H, Wv i m σ H →
      ((Itl S.K a).stop i H ∧ E.nx σ H) ∨ ((Itl S.K a).go i H ∧ ∃ N : L2.St → Hp → Prop, (∀ σ' H', N σ' H' → ∃ m', m' < m ∧ Wv (i + 1) m' σ' H') ∧ ∀ x H', (Itl S.K a).yld i H x H' → g x σ H' fun σ2 H2 => tS S W b { E with nx := N, ct := N, bk := E.nx } σ2 H2) := by
  refine ⟨PvL S W E n a k b, ⟨liveF, env, L1, M1, he, s1, hm, p⟩, ?_⟩
  rintro i m σ H ⟨env, L, M, he, s, hm, p⟩
  cases m with
  | zero => exact p.elim
  | succ m =>
    unfold forLive at p
    split at p
    · rename_i xs hL
      obtain ⟨_, hv, vs, rfl, rv⟩ := s.at_ n a _ hm hL
      split at p
      · rename_i hn
        refine .inl ⟨⟨vs, SqL.of hv, ?_⟩, p σ H M To.refl s he⟩
        rw [rv.len]
        exact List.getElem?_eq_none_iff.mp hn
      · rename_i d hd
        obtain ⟨v, ev, rd⟩ := rv.get hd
        refine .inr ⟨⟨vs, v, SqL.of hv, ev⟩, fun σ' H' => PvL S W E n a k b (i + 1) m σ' H', fun σ' H' z => ⟨m, Nat.lt_succ_self m, z⟩, ?_⟩
        rintro x H' ⟨rfl, hx⟩
        have exv : x = v := by
          have := hx vs (SqL.of hv)
          rw [ev] at this
          exact (Option.some.inj this).symm
        subst exv
        split at p
        · exact p.elim
        · rename_i env1 ek
          refine hg M _ L d x env env1 σ _ s rd he ek fun σ2 e2 => ⟨env1, L, M, e2, s, ?_⟩
          cases eb : b env1 L with
          | nx env2 L2 =>
            rw [eb] at p
            exact fun σ3 H3 M3 x3 s3 e3 => ⟨env2, L2, M3, e3, s3, x3.get hm, PostS.ext x3 p⟩
          | ct env2 L2 =>
            rw [eb] at p
            exact fun σ3 H3 M3 x3 s3 e3 => ⟨env2, L2, M3, e3, s3, x3.get hm, PostS.ext x3 p⟩
          | bk env2 L2 => rw [eb] at p; exact p
          | rt d2 L2 => rw [eb] at p; exact p
          | rf d2 L2 => rw [eb] at p; exact p
          | exc ex env2 L2 => rw [eb] at p; exact p
          | no => rw [eb] at p; exact p.elim
    · exact p.elim
theorem for_items {M1 : Mu} {H1 : Hp} {E : Ends} {σ : L2.St} {env : DEnv} {L1 : LH} {items : List D} {k : DG} {b : DS} {g : TG} {J : It} {G : Hp → Prop} {Y : Nat → Hp → V → Hp → Prop} (hg : DoesG S X g k) (io : IterOk S M1 H1 items J G Y) (he1 : EnvR S.K M1 H1 env σ) (s1 : Sim S.K M1 H1 L1) (q : PostS S W M1 H1 E (forD k b items env L1)) :
    ∃ Wv : Nat → Nat → L2.St → Hp → Prop, (∃ m, Wv 0 m σ H1) ∧ ∀ i m σ H, Wv i m σ H →
      (J.stop i H ∧ E.nx σ H) ∨ (J.go i H ∧ ∃ N : L2.St → Hp → Prop, (∀ σ' H', N σ' H' → ∃ m', m' < m ∧ Wv (i + 1) m' σ' H') ∧ ∀ x H', J.yld i H x H' → g x σ H' fun σ2 H2 => tS S W b { E with nx := N, ct := N, bk := E.nx } σ2 H2) := by
  refine for_it io.w (fun i σ' H' => ∃ env' L' M', To M1 H1 M' H' ∧ Sim S.K M' H' L' ∧ EnvR S.K M' H' env' σ' ∧ PostS S W M' H' E (forD k b (items.drop i) env' L')) ⟨env, L1, M1, To.refl, s1, he1, q⟩ (fun i σ' H' _ ⟨_, _, M', x, _⟩ => io.g M' H' x) ?_ ?_
  · rintro i v σ' H' H'' hi ⟨env', L', M', x, s, e, p⟩ y
    obtain ⟨x2, s2, d, ed, rd⟩ := io.y M' H' L' i v H'' x s hi y
    have hd : items.drop i = d :: items.drop (i + 1) := by
      rw [List.drop_eq_getElem_cons hi]
      have := (List.getElem?_eq_some_iff.mp ed).2
      rw [this]
    rw [hd] at p
    have p' : PostS S W M' H'' E (forD k b (d :: items.drop (i + 1)) env' L') := PostS.ext x2 p
    unfold forD at p'
    cases ek : k d env' with
    | none => rw [ek] at p'; exact p'.elim
    | some env1 =>
      rw [ek] at p'
      simp only at p'
      refine hg M' H'' L' d v env' env1 σ' _ s2 rd (e.mono x2) ek fun σ2 e2 => ⟨env1, L', M', e2, s2, ?_⟩
      have x' : To M1 H1 M' H'' := x.trans x2
      cases eb : b env1 L' with
      | nx env2 L2 =>
        rw [eb] at p'
        exact fun σ3 H3 M3 x3 s3 e3 => ⟨env2, L2, M3, x'.trans x3, s3, e3, PostS.ext x3 p'⟩
      | ct env2 L2 =>
        rw [eb] at p'
        exact fun σ3 H3 M3 x3 s3 e3 => ⟨env2, L2, M3, x'.trans x3, s3, e3, PostS.ext x3 p'⟩
      | bk env2 L2 => rw [eb] at p'; exact p'
      | rt d2 L2 => rw [eb] at p'; exact p'
      | rf d2 L2 => rw [eb] at p'; exact p'
      | exc ex env2 L2 => rw [eb] at p'; exact p'
      | no => rw [eb] at p'; exact p'.elim
  · rintro σ' H' ⟨env', L', M', x, s, e, p⟩
    rw [List.drop_length] at p
    exact p σ' H' M' To.refl s e
theorem s_forV {tg iter : Expr} {body : List Stmt} {f : DE} {g : TG} {k : DG} {b : DS} {pos : Pos} (hK : X.K = S.K) (h : ∀ wi tb, PI X tg iter wi → PSs X body tb → PS X (.For tg iter body [] pos) (tFor wi g tb)) (hi : PE X iter (tD S W f)) (hg : DoesG S X g k) (hb : PSs X body (tS S W b)) :
    PS X (.For tg iter body [] pos) (tS S W (sForV f k b)) := ps_imp (h _ _ (pi_seq hi) hb) fun E σ H => by
  rintro ⟨env, L, M, he, hs, hp⟩
  refine ⟨env, L, M, he, hs, PostS.expr he hp fun d L1 M1 H1 x1 s1 q v r => ?_⟩
  have he1 := he.mono x1
  rw [hK]
  cases d with
  | ref n =>
    have q' : PostS S W M1 H1 E (forLive n k b liveF 0 env L1) := q
    obtain ⟨a, rfl, hm⟩ := r
    have q2 := q'
    unfold liveF at q2
    unfold forLive at q2
    split at q2
    · rename_i xs hL
      obtain ⟨_, hv, vs, rfl, rv⟩ := s1.at_ n a _ hm hL
      exact ⟨a, rfl, .inl ⟨vs, SqL.of hv, for_live hg he1 s1 hm q'⟩⟩
    · exact q2.elim
  | tup ds =>
    obtain ⟨a, vs, rfl, h, ra⟩ := r
    exact ⟨a, rfl, .inr ⟨vs, h.t, for_items hg (iter_tup h ra) he1 s1 q⟩⟩
  | lst ds =>
    obtain ⟨a, vs, rfl, h, n1, n2, ra⟩ := r
    exact ⟨a, rfl, .inl ⟨vs, .inl (.inl h), for_items hg (iter_list (fun M' H' x => .inl (.inl (x.keep a _ n1 h (fun ps z => nomatch z)))) ra) he1 s1 q⟩⟩
  | frl ds =>
    obtain ⟨a, vs, rfl, h, ra⟩ := r
    exact ⟨a, rfl, .inl ⟨vs, h.l, for_items hg (iter_list (fun M' H' x => (h.mono x).l) ra) he1 s1 q⟩⟩
  | _ => exact q.elim
/-! ### comprehensions -/
def PvC (S : Sg) (W : L2.St → WH) (Q : VK) (n : Nat) (a : Addr) (k : DG) (vs : List Nat) (t : DT) (e : DE) (env : DEnv) (σ : L2.St) (M1 : Mu) (H1 : Hp) (D0 : Addr) (i m : Nat) (H' : Hp) : Prop :=
  i + m = liveF ∧ ∃ M' L' acc ds, To M1 H1 M' H' ∧ D0 ∈ M'.x ∧ D0 ∉ M'.m ∧ Sim S.K M' H' L' ∧ M'.m[n]? = some a ∧ H' D0 = some (.lst acc) ∧ RepAll S.K M' H' ds acc ∧ acc.length ≤ i ∧
    PostG S (W σ) M1 H1 (PV S Q) ((lcLive n k vs t e env m i L').bind fun ys L2 => .ok (.lst (ds ++ ys)) L2)
theorem lc_live {k : DG} {vs : List Nat} {t : DT} {e : DE} {g : TG} (hg : DoesGV S vs g k) {σ : L2.St} {H1 : Hp} {Q : VK} {env : DEnv} {L1 : LH} {M1 : Mu} {n : Nat} {a : Addr}
    (he1 : EnvR S.K M1 H1 env σ) (s1 : Sim S.K M1 H1 L1) (hm : M1.m[n]? = some a) (q : PostG S (W σ) M1 H1 (PV S Q) ((lcLive n k vs t e env liveF 0 L1).bind fun ys L2 => .ok (.lst ys) L2)) (D0 : Addr) (hn : H1 D0 = none) :
    ∃ W' : Nat → Nat → Hp → Prop, (∃ m, W' 0 m (upd H1 D0 (.lst []))) ∧ ∀ i m H, W' i m H →
      ((Itl S.K a).stop i H ∧ Q (.ref D0) H) ∨ ((Itl S.K a).go i H ∧ ∃ Nx : Hp → Prop, (∀ H', Nx H' → ∃ m', m' < m ∧ W' (i + 1) m' H') ∧ ∀ x H', (Itl S.K a).yld i H x H' → g x (wipe σ vs) H' fun σ2 H2 => wipe σ2 vs = wipe σ vs ∧ tT S WF t σ2 H2 fun b H3 =>
        if b = true then tD S WF e σ2 H3 fun y H4 => ∃ acc, H4 D0 = some (.lst acc) ∧ acc.length < sizeLine ∧ Nx (upd H4 D0 (.lst (acc ++ [y]))) else Nx H3) := by
  have dm := (nm_new s1 hn).1
  have dx := (nm_new s1 hn).2
  have sM : Sim S.K ⟨M1.m, D0 :: M1.x⟩ (upd H1 D0 (.lst [])) L1 := s1.make hn
  refine ⟨PvC S W Q n a k vs t e env σ M1 H1 D0, ⟨liveF, Nat.zero_add _, ⟨M1.m, D0 :: M1.x⟩, L1, [], [], To.make hn, List.mem_cons_self, dm, sM, hm, upd_same, rfl, Nat.le_refl _, q⟩, ?_⟩
  rintro i m H' ⟨him, M', L', acc, ds, x, dx', dm', s, hm', hD, r, hacc, p⟩
  cases m with
  | zero => exact p.elim
  | succ m =>
    unfold lcLive at p
    split at p
    · rename_i xs hL
      obtain ⟨_, hv, us, rfl, rv⟩ := s.at_ n a _ hm' hL
      split at p
      · rename_i hx
        refine .inl ⟨⟨us, SqL.of hv, by rw [rv.len]; exact List.getElem?_eq_none_iff.mp hx⟩, ?_⟩
        have p' : PostG S (W σ) M1 H1 (PV S Q) (.ok (.lst (ds ++ [])) L') := p
        rw [List.append_nil] at p'
        obtain ⟨ey, q1, q2⟩ := x.x
        obtain ⟨m', x'⟩ := M'
        simp only at q1
        subst q1
        exact p' H' ⟨m', M1.x⟩ ⟨x.keep, x.live, x.tabs, x.m, To.refl.x, x.frz⟩ (Sim.lessx s) _ ⟨D0, acc, rfl, hD, dm', dx, RepAll.lessx ds acc r⟩
      · rename_i d hd
        obtain ⟨v, ev, rd⟩ := rv.get hd
        refine .inr ⟨⟨us, v, SqL.of hv, ev⟩, PvC S W Q n a k vs t e env σ M1 H1 D0 (i + 1) m, fun H' z => ⟨m, Nat.lt_succ_self m, z⟩, ?_⟩
        rintro y H'' ⟨rfl, hx⟩
        have exv : y = v := by
          have := hx us (SqL.of hv)
          rw [ev] at this
          exact (Option.some.inj this).symm
        subst exv
        have heM : EnvR S.K M' H'' env σ := he1.mono x
        split at p
        · exact p.elim
        · rename_i env1 ek
          refine hg M' H'' L' d y _ env1 _ _ s rd (wipe_env heM vs) ek fun σ2 e2 ew => ⟨by rw [ew, wipe_wipe _ _ (fun i hi => hi)], ?_⟩
          refine ⟨env1, L', M', e2, s, ?_⟩
          cases et : t env1 L' with
          | exc ex L2 => rw [et] at p; exact p.elim
          | no => rw [et] at p; exact p.elim
          | ok b L2 =>
            rw [et] at p
            intro H3 M3 x3 s3
            have xx : To M1 H1 M3 H3 := x.trans x3
            have hD3 : H3 D0 = some (.lst acc) := x3.keep D0 _ dm' hD (fun ps z => nomatch z)
            have dm3 : D0 ∉ M3.m := x3.nm (.lst hD) dm'
            have dx3 : D0 ∈ M3.x := by
              obtain ⟨ey, q1, _⟩ := x3.x
              rw [q1]; exact List.mem_append_right _ dx'
            have r3 := RepAll.mono x3 ds acc r
            show if b = true then _ else _
            cases b with
            | false =>
              rw [if_neg Bool.false_ne_true]
              exact ⟨by omega, M3, L2, acc, ds, xx, dx3, dm3, s3, x3.get hm', hD3, r3, by omega, p⟩
            | true =>
              rw [if_pos rfl]
              have p1 : PostG S (W σ) M1 H1 (PV S Q) (((DL.noX (e env1 L2)).bind fun y L3 => (lcLive n k vs t e env m (i + 1) L3).bind fun ys L4 => .ok (y :: ys) L4).bind fun ys L2 => .ok (.lst (ds ++ ys)) L2) := p
              refine ⟨env1, L2, M3, e2.mono x3, s3, ?_⟩
              cases ee : e env1 L2 with
              | exc ex L3 => rw [ee] at p1; exact p1.elim
              | no => rw [ee] at p1; exact p1.elim
              | ok dy L3 =>
                rw [ee] at p1
                intro H4 M4 x4 s4 y4 ry
                have hD4 : H4 D0 = some (.lst acc) := x4.keep D0 _ dm3 hD3 (fun ps z => nomatch z)
                have dm4 : D0 ∉ M4.m := x4.nm (.lst hD3) dm3
                have dx4 : D0 ∈ M4.x := by
                  obtain ⟨ey, q1, _⟩ := x4.x
                  rw [q1]; exact List.mem_append_right _ dx3
                have r4 := RepAll.mono x4 ds acc r3
                refine ⟨acc, hD4, ?_, by omega, M4, L3, acc ++ [y4], ds ++ [dy], (xx.trans x4).over hn (Sl.lst hD4), dx4, dm4, s4.sealed dx4 dm4 (Sl.lst hD4), x4.get (x3.get hm'), upd_same, (RepAll.sealed dx4 (Sl.lst hD4) ds acc r4).app (RepAll.one (Rep.sealed dx4 (Sl.lst hD4) dy y4 ry)), ?_, ?_⟩
                · rw [sizeLine_eq]
                  unfold liveF at him
                  omega
                · rw [List.length_append, List.length_singleton]
                  omega
                · have p2 : PostG S (W σ) M1 H1 (PV S Q) (((lcLive n k vs t e env m (i + 1) L3).bind fun ys L4 => .ok (dy :: ys) L4).bind fun ys L2 => .ok (.lst (ds ++ ys)) L2) := p1
                  revert p2
                  cases lcLive n k vs t e env m (i + 1) L3 with
                  | ok ys L4 =>
                    intro p2
                    show PostG S (W σ) M1 H1 (PV S Q) (.ok (.lst ((ds ++ [dy]) ++ ys)) L4)
                    rw [List.append_assoc]
                    exact p2
                  | exc ex L4 => exact fun p2 => p2
                  | no => exact fun p2 => p2
    · exact p.elim
theorem lcW_imp {f : DE} {k : DG} {vs : List Nat} {t : DT} {e : DE} {g : TG} {K : PySem.W.Frag} (hK : K = S.K) (hg : DoesGV S vs g k) (σ : L2.St) (H : Hp) (Q : VK) : tD S W (dLcW f k vs t e) σ H Q → tLc (iSeq K (tD S W f)) g (tT S WF t) (tD S WF e) vs σ H Q := by
  rintro ⟨env, L, M, he, hs, hp⟩
  have hp0 := hp
  unfold dLcW at hp
  rw [hK]
  by_cases hr : ∃ n L1, f env L = .ok (.ref n) L1
  · obtain ⟨n, L1, ef⟩ := hr
    rw [ef] at hp
    refine ⟨env, L, M, he, hs, ?_⟩
    rw [ef]
    intro H1 M1 x1 s1 v rv
    obtain ⟨a, rfl, hm⟩ := rv
    have q : PostG S (W σ) M1 H1 (PV S Q) ((lcLive n k vs t e env liveF 0 L1).bind fun ys L2 => .ok (.lst ys) L2) := PostG.ext x1 hp
    have q2 := q
    unfold liveF at q2
    unfold lcLive at q2
    cases hL : L1[n]? with
    | none => rw [hL] at q2; exact q2.elim
    | some o =>
      rw [hL] at q2
      cases o with
      | lst xs =>
        obtain ⟨_, hv, us, rfl, ra⟩ := s1.at_ n a _ hm hL
        exact ⟨a, rfl, .inl ⟨us, SqL.of hv, fun D0 hn => lc_live (W := W) hg (he.mono x1) s1 hm q D0 hn⟩⟩
      | dic _ => exact q2.elim
      | ins _ _ => exact q2.elim
      | tdc _ => exact q2.elim
      | lck _ => exact q2.elim
  · have hp1 : PostG S (W σ) M H (PV S Q) (dLc (iVal f) k vs t e env L) := by
      have e0 : dLcW f k vs t e env L = dLc (iVal f) k vs t e env L := by
        unfold dLcW dLc iVal
        cases ef : f env L with
        | exc _ _ => rfl
        | no => rfl
        | ok d L1 =>
          cases d with
          | ref n => exact absurd ⟨n, L1, ef⟩ hr
          | _ => rfl
      rw [← e0]; exact hp0
    obtain ⟨env2, L2, M2, he2, hs2, hp2⟩ := lc_imp (W := W) (f := iVal f) hg σ H Q ⟨env, L, M, he, hs, hp1⟩
    refine ⟨env2, L2, M2, he2, hs2, PostG.seq hp2 fun d L1 M1 H1 x1 s1 q v r => ?_⟩
    cases d with
    | tup ds =>
      obtain ⟨a, vs, rfl, h, ra⟩ := r
      exact ⟨a, rfl, .inr ⟨vs, h.t, q H1 M1 To.refl s1 _ _ _ (iter_tup h ra)⟩⟩
    | lst ds =>
      obtain ⟨a, vs, rfl, h, n1, n2, ra⟩ := r
      exact ⟨a, rfl, .inl ⟨vs, .inl (.inl h), q H1 M1 To.refl s1 _ _ _ (iter_list (fun M' H' x => .inl (.inl (x.keep a _ n1 h (fun ps z => nomatch z)))) ra)⟩⟩
    | frl ds =>
      obtain ⟨a, vs, rfl, h, ra⟩ := r
      exact ⟨a, rfl, .inl ⟨vs, h.l, q H1 M1 To.refl s1 _ _ _ (iter_list (fun M' H' x => (h.mono x).l) ra)⟩⟩
    | _ => exact q.elim
theorem de_lcW {e0 : Expr} {f : DE} {k : DG} {vs : List Nat} {t : DT} {e : DE} {g : TG} (hK : X.K = S.K) (h : PE X e0 (tLc (iSeq X.K (tD S W f)) g (tT S WF t) (tD S WF e) vs)) (hg : DoesGV S vs g k) : PE X e0 (tD S W (dLcW f k vs t e)) := pe_imp h (lcW_imp hK hg)
theorem s_setLcW {st : Stmt} {i : Nat} {f : DE} {k : DG} {vs : List Nat} {t : DT} {e : DE} {g : TG} (hK : X.K = S.K) (h : PS X st (tAsg (tLc (iSeq X.K (tD S W f)) g (tT S WF t) (tD S WF e) vs) (gName i))) (hg : DoesGV S vs g k) : PS X st (tS S W (sSet i (dLcW f k vs t e))) := ps_imp h fun E σ H => by
  rintro ⟨env, L, M, he, hs, hp⟩
  refine lcW_imp hK hg σ H _ ⟨env, L, M, he, hs, PostS.expr he hp fun d L1 M1 H1 x1 s1 q v r => ?_⟩
  exact q _ H1 M1 To.refl s1 ((he.mono x1).set r)
end DL

set_option Elab.async false
set_option linter.all false
set_option maxRecDepth 100000
set_option maxHeartbeats 2000000
namespace ErrR
open PySem PySem.Spec PySem.W PySem.Calls PyProof.Rows PySem.HandSPX
/-! ### an own error class Refused(ArithmeticError) whose own __init__ keeps one field reason -/
abbrev bmB : List Value := [.type "ArithmeticError", .type "Exception", .type "BaseException", .type "object"]
def iA (p1 p2 : Pos) : Arguments := { posonlyargs := [], args := [{ arg := "self", annotation := none, pos := p1 }, { arg := "reason", annotation := none, pos := p2 }], vararg := none, kwonlyargs := [], kw_defaults := [], kwarg := none, defaults := [] }
def iB (q1 q2 q3 q4 : Pos) : List Stmt := [.Assign [.Attribute (.Name "self" q1) "reason" q2] (.Name "reason" q3) q4]
def iS : Scope := { kind := .function, names := [(PySem.Str.ofString "self", .local), (PySem.Str.ofString "reason", .local)], isGenerator := false, isCoroutine := false, more := [] }
structure ErrTxt (K : Frag) (mg : Str → Option Value) (C fI : Addr) : Prop where
  gC : mg "Refused" = some (.ref C)
  ini : excInitIn K C bmB "ArithmeticError.__new__" = true
  ovr : excOver K C bmB = true
  tak : takerIn K C "reason" = some none
  sa : findIn K (.ref C) "__setattr__" = some (some (.builtin "object.__setattr__"))
  ga : findIn K (.ref C) "__getattribute__" = some (some (.builtin "BaseException.__getattribute__"))
  gg : findIn K (.ref C) "__getattr__" = some none
  noN : findIn K (.ref C) "reason" = some none
  iC : findIn K (.ref C) "__init__" = some (some (.ref fI))
  tC : typeIn K (.ref fI) = some (.type "function")
  kC : keepIn K (.ref C) = true
  exC : subIn K (.ref C) (.type "BaseException") = some true
  tyC : typeIn K (.ref C) = some (.type "type")
  hdC : hasDictIn K C = true
  te : exmOne K (.ref C) (.ref C) = some true
  fn : ∃ (oc : Value) (od : Option Addr) (doc pm : Value) (an : Option Addr) (cdv ct : Value) (osl : Array (Option Value)) (p1 p2 q1 q2 q3 q4 : Pos),
    K.lookup fI = some ⟨oc, od, .func (fnOf "__init__" "Refused.__init__" (iA p1 p2) (iB q1 q2 q3 q4) iS .none .none doc pm an cdv ct), osl⟩ ∧ codeIn K cdv "Refused.__init__" = true
theorem one_size (v : Value) : [v].length ≤ sizeLine := by
  rw [sizeLine_eq]
  exact (by decide : 1 ≤ 16777216)
theorem bind_ofT {K : Frag} {h : Heap} {M : Model} {fI : Addr} (X : K.In h) (e : typeIn K (.ref fI) = some (.type "function")) (self : Value) : Looks M h (bindSpecial (.ref fI) self) (.ref fI, [self]) := bind_fn X self e
theorem ldC {M : Model} {s : Shared} {name : Str} {scope : Scope} {L a : Addr} {cd : Value} {m : Str → Option Value} {x : Str} {pos : Pos} {v : Value} {Q : Value → Shared → Prop} {A : Around} {E : Value → Shared → Prop} (hn : s.heap.Ns L m) (hv : m x = some v) (h : Q v s)
    (hk : scope.kind = .function := by rfl) (hl : (envOfC name scope L a cd).kindOf x = some .local := by rfl) (hd : (x == ("__debug__" : Str)) = false := by decide) :
    wpAny M A (eval (.Name x pos) (envOfC name scope L a cd)) Q E s := wpAny_Name (wpAny_loadName_local hk hl hn hv h) hd
/-- what __init__ leaves of a fresh exception at x -/
structure InitEnd (h h' : Heap) (x C dx t1 : Addr) (v : Value) : Prop where
  keep : ∀ b o, b ≠ x → h.get? b = some o → h'.get? b = some o
  obj : h'.get? x = some { cls := .ref C, dict := some dx, data := .fields #[.ref t1, .none, .none, .none, .bool false, .none] }
  dbig : h.objs.size ≤ dx
  dne : dx ≠ x
  ns : h'.Ns1 dx (fun y => if y = "reason" then some v else none)
/-- a made error -/
structure OwnMade (h h' : Heap) (e C d : Addr) (v : Value) : Prop where
  keep : ∀ b o, h.get? b = some o → h'.get? b = some o
  new : h.objs.size ≤ e
  obj : ∃ oe vs, h'.get? e = some oe ∧ oe.cls = .ref C ∧ oe.dict = some d ∧ oe.data = .fields vs ∧ vs[1]? = some .none
  dbig : h.objs.size ≤ d
  dne : d ≠ e
  ns : h'.Ns1 d (fun y => if y = "reason" then some v else none)
section
variable {prog : Program} {w : World} {A : Around} {E : Value → Shared → Prop} {R : Result → Shared → Prop} {s : Shared} {K : Frag} {mg : Str → Option Value} {C fI : Addr}
/-- the first field of a fresh exception -/
theorem first_store {name : Str} {tk : Tok} {v : Value} {x t0 : Addr} {hp : Heap} {g : Array GenState} {d : Drawn} {t : Nat} {os : OsState} (SF : StoreFacts "ArithmeticError" bmB "object.__setattr__" "object") (X : K.In hp) (hx : hp.get? x = some (excO C t0)) (ho : excOver K C bmB = true) (ht : takerIn K C name = some none) (hh : hasDictIn K C = true)
    (hq : ∀ h' tk' dx, (∀ b o, b ≠ x → hp.get? b = some o → h'.get? b = some o) → hp.objs.size ≤ dx → dx ≠ x → h'.get? x = some { cls := .ref C, dict := some dx, data := .fields #[.ref t0, .none, .none, .none, .bool false, .none] } →
      h'.Ns1 dx (fun y => if y = name then some v else none) → R (.ok (.ret .none)) ⟨h', g, d, tk', os⟩) :
    codeAny (model prog w) A (.call (.builtin "object.__setattr__") ⟨[.ref x, .str name tk, v], []⟩) R ⟨hp, g, d, t, os⟩ := by
  have hlt := Heap.lt_size hx
  have apart : hp.objs.size ≠ x := fun z => Nat.lt_irrefl _ (z ▸ hlt)
  refine osa_openX (s := ⟨hp, g, d, t, os⟩) (od := none) (ox := excO C t0) SF X ⟨hx, rfl, rfl, trivial⟩ ho ht fun b => ?_
  obtain ⟨cd, hc, hd'⟩ := any_some hh
  refine wpAny_bind (wpAny_pure (wpAny_bind (instanceDict_exc (t := t0) (c2 := .none) hx (looks_clsIn X hc) hd' ?_)))
  refine store_in_new (hp := (hp.push (dictOf [] 0)).update x fun o => { o with dict := some hp.objs.size }) (dx := hp.objs.size) ?_ fun h' tk' hn' hs => ?_
  · exact ⟨_, #[], _, (Heap.get?_update_ne _ _ _ _ apart).trans (Heap.get?_push_size hp rfl), rfl, fun _ q => absurd q (by simp), fun _ => rfl⟩
  · have hx₁ : (hp.push (dictOf [] 0)).get? x = some (excO C t0) := Heap.get?_push_of_some _ hx
    refine hq h' tk' hp.objs.size (fun b o hb e => ?_) (Nat.le_refl _) apart ?_ hn'
    · refine (hs.2 b fun z => ?_).trans ((Heap.get?_update_ne _ _ _ _ hb).trans (Heap.get?_push_of_some _ e))
      have := Heap.lt_size e
      rw [z] at this
      exact Nat.lt_irrefl _ this
    · exact (hs.2 x apart.symm).trans (Heap.get?_update_self _ hx₁ rfl)
theorem err_init (T : ErrTxt K mg C fI) {x t0 : Addr} {v : Value} (X : K.In s.heap) (hlim : s.heap.NoLimit) (hx : s.heap.get? x = some (excO C t0)) (hroom : A.depth < recursionLimit)
    (hq : ∀ h' tk dx, InitEnd s.heap h' x C dx t0 v → R (.ok (.ret .none)) { s with heap := h', toks := tk }) :
    codeAny (model prog w) A (.call (.ref fI) ⟨[.ref x, v], []⟩) R s := by
  obtain ⟨oc, od, doc, pm, an, cdv, ct, osl, p1, p2, q1, q2, q3, q4, ho, hcd⟩ := T.fn
  refine Att.call_fn (binds := [("self", .ref x), ("reason", v)]) X hlim ho hcd hroom (BindsTo.of_eq (by first | rfl | with_unfolding_all rfl)) (by first | rfl | decide | with_unfolding_all rfl) (fun s₁ IC => ?_) rfl rfl rfl
  obtain ⟨h₁, tk₁, rfl⟩ := IC.toInCall.same
  have k : ∀ b o, s.heap.get? b = some o → h₁.get? b = some o := IC.toInCall.keep
  have hn := IC.toInCall.ns
  have X₁ : K.In h₁ := X.keeps k
  have hx₁ := k _ _ hx
  show wpAny _ _ (execs _ _) _ _ _
  refine wpAny_execs_cons (plainObj_wpAny_Assign_Attribute ?_)
  refine ldC (v := v) hn (by first | rfl | with_unfolding_all rfl | kernel_rfl) (ldC (v := .ref x) hn (by first | rfl | with_unfolding_all rfl | kernel_rfl) ?_)
  refine set_plain X₁ (ox := excO C t0) (od := none) ⟨hx₁, rfl, rfl, trivial⟩ T.sa ?_
  refine first_store (F.store_ArithmeticError) X₁ hx₁ T.ovr T.tak T.hdC (fun h₃ tk₃ dx k₃ dn dne hx₃ hn₃ => ?_)
  show wpAny _ _ (execs _ _) _ _ _
  have z : s.heap.objs.size < h₁.objs.size := hn.lt
  exact wpAny_execs_nil (hq h₃ tk₃ dx ⟨fun b o hb e => k₃ b o hb (k b o e), hx₃, Nat.le_of_lt (Nat.lt_of_lt_of_le z dn), dne, hn₃⟩)
theorem err_made (T : ErrTxt K mg C fI) {v : Value} (X : K.In s.heap) (hlim : s.heap.NoLimit) (hroom : A.depth + 1 < recursionLimit)
    (hq : ∀ h' tk e d, OwnMade s.heap h' e C d v → R (.ok (.ret (.ref e))) { s with heap := h', toks := tk }) :
    codeAny (model prog w) A (.call (.ref C) ⟨[v], []⟩) R s := by
  obtain ⟨nm, N, q, bs, bm, hdct, sn, sub, ab, col, dd, k0, k1, k2, k3, k5, hC, hbm⟩ := excInit_of X T.ini
  obtain ⟨hp, g, dr, tk, os⟩ := s
  have k : ∀ b o, hp.get? b = some o → ((hp.push (kdv_tup [v])).push (excO C hp.objs.size)).get? b = some o := fun b o e => Heap.get?_push_of_some _ (Heap.get?_push_of_some _ e)
  have hget : ((hp.push (kdv_tup [v])).push (excO C hp.objs.size)).get? (hp.objs.size + 1) = some (excO C hp.objs.size) := by heap_get
  refine call_own PySem.F.excBase_ArithmeticError hbm hC (looks_findIn X T.iC) (fun self => bind_ofT X T.tC self) (one_size v) ?_
  refine err_init (s := ⟨(hp.push (kdv_tup [v])).push (excO C hp.objs.size), g, dr, tk, os⟩) T (X.keeps k) (hlim.keeps k) hget ?_ fun h' tk' dx ⟨k', hx, dn, dne, hns⟩ => ?_
  · show A.depth + 1 < recursionLimit
    exact hroom
  · have old : ∀ b o, hp.get? b = some o → h'.get? b = some o := fun b o e => k' b o (Nat.ne_of_lt (Nat.lt_succ_of_lt (Heap.lt_size e))) (k b o e)
    have z : hp.objs.size + 1 + 1 ≤ dx := by
      first
        | (simpa only [Heap.size_push] using dn)
        | exact dn
        | (have q := dn; rw [Heap.size_push, Heap.size_push] at q; exact q)
    exact ⟨rfl, hq h' tk' (hp.objs.size + 1) dx ⟨old, Nat.le_succ _, ⟨_, _, hx, rfl, rfl, rfl, rfl⟩, Nat.le_trans (Nat.le_trans (Nat.le_succ _) (Nat.le_succ _)) z, dne, hns⟩⟩
end
section
open L2
theorem relO_fld {v : V} {v' : Value} (r : RelV v v') (f : Str) : RelO (List.lookup f [(("reason" : Str), v)]) (if f = "reason" then some v' else none) := by
  by_cases hw : f = "reason"
  · subst hw
    rw [if_pos rfl]
    have q : List.lookup ("reason" : Str) [(("reason" : Str), v)] = some v := by simp [List.lookup]
    rw [q]
    exact r
  · rw [if_neg hw]
    have qw : (f == ("reason" : Str)) = false := by simpa using hw
    have q2 : List.lookup f [(("reason" : Str), v)] = none := by simp [List.lookup, qw]
    rw [q2]
    trivial
variable {X : Cx} {C fI : Addr}
/-- Refused(e) -/
def tMk (C : Addr) (ta : TA) : L2.St → Hp → XK → Prop := fun σ H Q => ta σ H fun vs H1 => ∃ v, vs = [v] ∧ ∀ d, H1 d = none → Q (.ref C) (some d) (upd H1 d (.xd [(("reason" : Str), v)]))
theorem pmk {a : Expr} {ta : TA} {p pos : Pos} {k : Nat} (T : ErrTxt X.K X.mg C fI) (hr : Room k X.A) (ha : PA X [a] ta) (hg : Gl X "Refused" := by rfl)
    (he : starEach (a :: []) X.env = (false, eval a X.env) :: starEach [] X.env := by rfl) (hpl : (backTo pos (starEach [] X.env)).any (·.1) = false := by rfl) :
    PMk X (.Call (.Name "Refused" p) [a] [] pos) (tMk C ta) := by
  intro pins s σ H Q I h
  refine wpAny_Call_Name_kw (ld_glob I hg T.gC ?_)
  refine PySem.W.callWith_K (h₀ := X.base) I.ok.mod.kin T.kC (thn (ha.run pos pins s σ H _ I h) fun us s1 hh => ?_) he hpl
  obtain ⟨vs, H1, I1, r1, v, ev, q1⟩ := hh
  subst ev
  refine ⟨I1.kIn, ?_⟩
  cases r1 with
  | cons rv rn =>
    rename_i v' us'
    cases rn
    show wpAny _ _ (call (.ref C) [v']) _ _ _
    have hlim := I1.nolimit
    obtain ⟨hp, g, dr, tk, os⟩ := s1
    refine wpAny_call (err_made T I1.kIn hlim (by have := hr.dp; omega) fun h' tk' e d M => ?_)
    show MkP X pins σ Q (.ref e) ⟨h', g, dr, tk', os⟩
    obtain ⟨oe, fv, hoe, hc, hd, hdat, h1⟩ := M.obj
    have hns := M.ns
    obtain ⟨G', g1, g2⟩ := restrict h' fun b => decide (b ≠ e)
    have gk : ∀ b, b ≠ e → G'.get? b = h'.get? b := fun b hb => g1 b (decide_eq_true hb)
    have ge : G'.get? e = none := g2 e (by simp)
    have old : ∀ b o, hp.get? b = some o → G'.get? b = some o := fun b o q => (gk b (Nat.ne_of_lt (Nat.lt_of_lt_of_le (Heap.lt_size q) M.new))).trans (M.keep b o q)
    have ob : ObjOk X.prog X.w (upd H1 d (.xd [(("reason" : Str), v)])) G' d (.xd [(("reason" : Str), v)]) :=
      ⟨_, hns.at (fun o q => (gk d M.dne).trans q), fun f => relO_fld rv f⟩
    have J : Inv X pins σ (upd H1 d (.xd [(("reason" : Str), v)])) ⟨G', g, dr, tk', os⟩ := I1.laid (t' := tk') old M.dbig ob
    refine ⟨e, oe, fv, ⟨G', g, dr, tk', os⟩, _, .ref C, some d, rfl, J, fun b o q => ?_, ge, hoe, ⟨hc, hd⟩, hdat, h1, ?_, rfl, I1.bare, raises_own T.exC T.tyC, q1 d (I1.hok.fresh M.dbig)⟩
    · by_cases hb : b = e
      · have q' : G'.get? b = some o := q
        rw [hb, ge] at q'; cases q'
      · exact (gk b hb).symm.trans q
    · rw [upd_ne (Ne.symm M.dne)]
      exact I1.hok.fresh M.new
/-- e.reason, e the exception that the suite holds (at a; its class cls, its dict d) -/
def tFld (C : Addr) (a : Addr) (cls : Value) (d : Option Addr) (te : TE) : TE := fun σ H Q => te σ H fun x H1 => x = .ref a ∧ cls = .ref C ∧ ∃ (dd : Addr) (v : V), d = some dd ∧ H1 dd = some (.xd [(("reason" : Str), v)]) ∧ Q v H1
theorem pe_fld {a : Addr} {oe : Obj} {cls : Value} {d : Option Addr} {pn : List (Addr × Obj)} {e : Expr} {te : TE} {pos : Pos} (T : ErrTxt X.K X.mg C fI) (hz : Zc cls d oe) (hf : ∃ vs, oe.data = .fields vs) (he : PE (X.suite a ((a, oe) :: pn)) e te)
    (hb : attributeBase e "reason" X.env (eval e X.env) = eval e X.env := by rfl) :
    PE (X.suite a ((a, oe) :: pn)) (.Attribute e "reason" pos) (tFld C a cls d te) := by
  refine ⟨fun pins s σ H Q I h => ?_⟩
  refine attr_of hb (thn (he.run pins s σ H _ I h) fun u s1 hh => ?_)
  obtain ⟨x, H1, I1, rx, ex, ec, dd, v, ed, ea, q⟩ := hh
  subst ex
  obtain rfl : u = Value.ref a := rx
  subst ec
  subst ed
  obtain ⟨ha, _⟩ := I1.pin (a, oe) (List.mem_append_left _ List.mem_cons_self)
  obtain ⟨vs, hd⟩ := hf
  have hx : ObjOk X.prog X.w H1 s1.heap dd (.xd [(("reason" : Str), v)]) := I1.hok dd _ ea
  obtain ⟨mA, hns, hr⟩ := hx
  obtain ⟨od, ho, hl⟩ := lookIn_ns hns
  have l : List.lookup ("reason" : Str) [(("reason" : Str), v)] = some v := by simp [List.lookup]
  obtain ⟨u, hu, ru⟩ := RelO.some_of (v := v) (o := mA "reason") (by rw [← l]; exact hr "reason")
  have J : PySem.W.InstAt s1.heap a oe C (some od) := ⟨ha, hz.1, by unfold PySem.W.notCls; rw [hd] <;> rfl, by rw [hz.2]; exact ho⟩
  exact HandSPX.exc_get I1.kIn J T.ga T.gg T.exC (PySem.W.findObj_own T.hdC T.noN rfl (by rw [hl, hu])) (handed_of ru) ⟨v, H1, I1.tok _, ru, q⟩
end
end ErrR
namespace DL
open PySem PySem.Spec L2
variable [Tbs] {S : Sg} {X : Cx} {W : L2.St → WH}
/-- raise Refused(e) -/
def sRaise_ErrR (f : DE) : DS := fun env L => (f env L).toS env fun d L1 => .exc ⟨100, some d⟩ env L1
theorem s_raise_ErrR {C fI : Addr} {a : Expr} {f : DE} {p pos pos2 : Pos} {k : Nat} (hc : X.calm = true) (T : ErrR.ErrTxt X.K X.mg C fI) (hr : Room k X.A) (tk : Takes X (wishOf W)) (hct : S.ct 100 = some C) (ha : PE X a (tD S W f)) (hp : ∀ {ta}, PE X a ta → PA X [a] (tCons ta tNil))
    (hg : Gl X "Refused" := by rfl) (he : starEach (a :: []) X.env = (false, eval a X.env) :: starEach [] X.env := by rfl) (hpl : (backTo pos (starEach [] X.env)).any (·.1) = false := by rfl) :
    PS X (.Raise (some (.Call (.Name "Refused" p) [a] [] pos)) none pos2) (tS S W (sRaise_ErrR f)) :=
  ps_imp (ps_raise hc tk (ErrR.pmk T hr (hp ha) hg he hpl)) fun E σ H => by
    rintro ⟨env, L, M, he, hs, hp⟩
    refine ⟨env, L, M, he, hs, PostS.expr he hp fun d L1 M1 H1 x1 s1 q v r => ?_⟩
    refine ⟨v, rfl, fun b hb => ?_⟩
    refine q σ _ _ _ M1 (To.new hb) (s1.new hb) ((he.mono x1).mono (To.new hb)) ?_
    exact ⟨C, hct, rfl, b, v, rfl, upd_same, fun z => s1.ms b z hb, r.mono (To.new hb)⟩
end DL

set_option Elab.async false
set_option linter.all false
set_option maxRecDepth 100000
set_option maxHeartbeats 2000000
namespace ErrN
open PySem PySem.Spec PySem.W PySem.Calls PyProof.Rows PySem.HandSPX
/-! ### an own error class InvalidNumber(IndexError) whose own __init__ keeps one field given -/
abbrev bmB : List Value := [.type "IndexError", .type "LookupError", .type "Exception", .type "BaseException", .type "object"]
def iA (p1 p2 : Pos) : Arguments := { posonlyargs := [], args := [{ arg := "self", annotation := none, pos := p1 }, { arg := "given", annotation := none, pos := p2 }], vararg := none, kwonlyargs := [], kw_defaults := [], kwarg := none, defaults := [] }
def iB (q1 q2 q3 q4 : Pos) : List Stmt := [.Assign [.Attribute (.Name "self" q1) "given" q2] (.Name "given" q3) q4]
def iS : Scope := { kind := .function, names := [(PySem.Str.ofString "self", .local), (PySem.Str.ofString "given", .local)], isGenerator := false, isCoroutine := false, more := [] }
structure ErrTxt (K : Frag) (mg : Str → Option Value) (C fI : Addr) : Prop where
  gC : mg "InvalidNumber" = some (.ref C)
  ini : excInitIn K C bmB "IndexError.__new__" = true
  ovr : excOver K C bmB = true
  tak : takerIn K C "given" = some none
  sa : findIn K (.ref C) "__setattr__" = some (some (.builtin "object.__setattr__"))
  ga : findIn K (.ref C) "__getattribute__" = some (some (.builtin "BaseException.__getattribute__"))
  gg : findIn K (.ref C) "__getattr__" = some none
  noN : findIn K (.ref C) "given" = some none
  iC : findIn K (.ref C) "__init__" = some (some (.ref fI))
  tC : typeIn K (.ref fI) = some (.type "function")
  kC : keepIn K (.ref C) = true
  exC : subIn K (.ref C) (.type "BaseException") = some true
  tyC : typeIn K (.ref C) = some (.type "type")
  hdC : hasDictIn K C = true
  te : exmOne K (.ref C) (.ref C) = some true
  fn : ∃ (oc : Value) (od : Option Addr) (doc pm : Value) (an : Option Addr) (cdv ct : Value) (osl : Array (Option Value)) (p1 p2 q1 q2 q3 q4 : Pos),
    K.lookup fI = some ⟨oc, od, .func (fnOf "__init__" "InvalidNumber.__init__" (iA p1 p2) (iB q1 q2 q3 q4) iS .none .none doc pm an cdv ct), osl⟩ ∧ codeIn K cdv "InvalidNumber.__init__" = true
theorem one_size (v : Value) : [v].length ≤ sizeLine := by
  rw [sizeLine_eq]
  exact (by decide : 1 ≤ 16777216)
theorem bind_ofT {K : Frag} {h : Heap} {M : Model} {fI : Addr} (X : K.In h) (e : typeIn K (.ref fI) = some (.type "function")) (self : Value) : Looks M h (bindSpecial (.ref fI) self) (.ref fI, [self]) := bind_fn X self e
theorem ldC {M : Model} {s : Shared} {name : Str} {scope : Scope} {L a : Addr} {cd : Value} {m : Str → Option Value} {x : Str} {pos : Pos} {v : Value} {Q : Value → Shared → Prop} {A : Around} {E : Value → Shared → Prop} (hn : s.heap.Ns L m) (hv : m x = some v) (h : Q v s)
    (hk : scope.kind = .function := by rfl) (hl : (envOfC name scope L a cd).kindOf x = some .local := by rfl) (hd : (x == ("__debug__" : Str)) = false := by decide) :
    wpAny M A (eval (.Name x pos) (envOfC name scope L a cd)) Q E s := wpAny_Name (wpAny_loadName_local hk hl hn hv h) hd
/-- what __init__ leaves of a fresh exception at x -/
structure InitEnd (h h' : Heap) (x C dx t1 : Addr) (v : Value) : Prop where
  keep : ∀ b o, b ≠ x → h.get? b = some o → h'.get? b = some o
  obj : h'.get? x = some { cls := .ref C, dict := some dx, data := .fields #[.ref t1, .none, .none, .none, .bool false, .none] }
  dbig : h.objs.size ≤ dx
  dne : dx ≠ x
  ns : h'.Ns1 dx (fun y => if y = "given" then some v else none)
/-- a made error -/
structure OwnMade (h h' : Heap) (e C d : Addr) (v : Value) : Prop where
  keep : ∀ b o, h.get? b = some o → h'.get? b = some o
  new : h.objs.size ≤ e
  obj : ∃ oe vs, h'.get? e = some oe ∧ oe.cls = .ref C ∧ oe.dict = some d ∧ oe.data = .fields vs ∧ vs[1]? = some .none
  dbig : h.objs.size ≤ d
  dne : d ≠ e
  ns : h'.Ns1 d (fun y => if y = "given" then some v else none)
section
variable {prog : Program} {w : World} {A : Around} {E : Value → Shared → Prop} {R : Result → Shared → Prop} {s : Shared} {K : Frag} {mg : Str → Option Value} {C fI : Addr}
/-- the first field of a fresh exception -/
theorem first_store {name : Str} {tk : Tok} {v : Value} {x t0 : Addr} {hp : Heap} {g : Array GenState} {d : Drawn} {t : Nat} {os : OsState} (SF : StoreFacts "IndexError" bmB "object.__setattr__" "object") (X : K.In hp) (hx : hp.get? x = some (excO C t0)) (ho : excOver K C bmB = true) (ht : takerIn K C name = some none) (hh : hasDictIn K C = true)
    (hq : ∀ h' tk' dx, (∀ b o, b ≠ x → hp.get? b = some o → h'.get? b = some o) → hp.objs.size ≤ dx → dx ≠ x → h'.get? x = some { cls := .ref C, dict := some dx, data := .fields #[.ref t0, .none, .none, .none, .bool false, .none] } →
      h'.Ns1 dx (fun y => if y = name then some v else none) → R (.ok (.ret .none)) ⟨h', g, d, tk', os⟩) :
    codeAny (model prog w) A (.call (.builtin "object.__setattr__") ⟨[.ref x, .str name tk, v], []⟩) R ⟨hp, g, d, t, os⟩ := by
  have hlt := Heap.lt_size hx
  have apart : hp.objs.size ≠ x := fun z => Nat.lt_irrefl _ (z ▸ hlt)
  refine osa_openX (s := ⟨hp, g, d, t, os⟩) (od := none) (ox := excO C t0) SF X ⟨hx, rfl, rfl, trivial⟩ ho ht fun b => ?_
  obtain ⟨cd, hc, hd'⟩ := any_some hh
  refine wpAny_bind (wpAny_pure (wpAny_bind (instanceDict_exc (t := t0) (c2 := .none) hx (looks_clsIn X hc) hd' ?_)))
  refine store_in_new (hp := (hp.push (dictOf [] 0)).update x fun o => { o with dict := some hp.objs.size }) (dx := hp.objs.size) ?_ fun h' tk' hn' hs => ?_
  · exact ⟨_, #[], _, (Heap.get?_update_ne _ _ _ _ apart).trans (Heap.get?_push_size hp rfl), rfl, fun _ q => absurd q (by simp), fun _ => rfl⟩
  · have hx₁ : (hp.push (dictOf [] 0)).get? x = some (excO C t0) := Heap.get?_push_of_some _ hx
    refine hq h' tk' hp.objs.size (fun b o hb e => ?_) (Nat.le_refl _) apart ?_ hn'
    · refine (hs.2 b fun z => ?_).trans ((Heap.get?_update_ne _ _ _ _ hb).trans (Heap.get?_push_of_some _ e))
      have := Heap.lt_size e
      rw [z] at this
      exact Nat.lt_irrefl _ this
    · exact (hs.2 x apart.symm).trans (Heap.get?_update_self _ hx₁ rfl)
theorem err_init (T : ErrTxt K mg C fI) {x t0 : Addr} {v : Value} (X : K.In s.heap) (hlim : s.heap.NoLimit) (hx : s.heap.get? x = some (excO C t0)) (hroom : A.depth < recursionLimit)
    (hq : ∀ h' tk dx, InitEnd s.heap h' x C dx t0 v → R (.ok (.ret .none)) { s with heap := h', toks := tk }) :
    codeAny (model prog w) A (.call (.ref fI) ⟨[.ref x, v], []⟩) R s := by
  obtain ⟨oc, od, doc, pm, an, cdv, ct, osl, p1, p2, q1, q2, q3, q4, ho, hcd⟩ := T.fn
  refine Att.call_fn (binds := [("self", .ref x), ("given", v)]) X hlim ho hcd hroom (BindsTo.of_eq (by first | rfl | with_unfolding_all rfl)) (by first | rfl | decide | with_unfolding_all rfl) (fun s₁ IC => ?_) rfl rfl rfl
  obtain ⟨h₁, tk₁, rfl⟩ := IC.toInCall.same
  have k : ∀ b o, s.heap.get? b = some o → h₁.get? b = some o := IC.toInCall.keep
  have hn := IC.toInCall.ns
  have X₁ : K.In h₁ := X.keeps k
  have hx₁ := k _ _ hx
  show wpAny _ _ (execs _ _) _ _ _
  refine wpAny_execs_cons (plainObj_wpAny_Assign_Attribute ?_)
  refine ldC (v := v) hn (by first | rfl | with_unfolding_all rfl | kernel_rfl) (ldC (v := .ref x) hn (by first | rfl | with_unfolding_all rfl | kernel_rfl) ?_)
  refine set_plain X₁ (ox := excO C t0) (od := none) ⟨hx₁, rfl, rfl, trivial⟩ T.sa ?_
  refine first_store (F.store_IndexError) X₁ hx₁ T.ovr T.tak T.hdC (fun h₃ tk₃ dx k₃ dn dne hx₃ hn₃ => ?_)
  show wpAny _ _ (execs _ _) _ _ _
  have z : s.heap.objs.size < h₁.objs.size := hn.lt
  exact wpAny_execs_nil (hq h₃ tk₃ dx ⟨fun b o hb e => k₃ b o hb (k b o e), hx₃, Nat.le_of_lt (Nat.lt_of_lt_of_le z dn), dne, hn₃⟩)
theorem err_made (T : ErrTxt K mg C fI) {v : Value} (X : K.In s.heap) (hlim : s.heap.NoLimit) (hroom : A.depth + 1 < recursionLimit)
    (hq : ∀ h' tk e d, OwnMade s.heap h' e C d v → R (.ok (.ret (.ref e))) { s with heap := h', toks := tk }) :
    codeAny (model prog w) A (.call (.ref C) ⟨[v], []⟩) R s := by
  obtain ⟨nm, N, q, bs, bm, hdct, sn, sub, ab, col, dd, k0, k1, k2, k3, k5, hC, hbm⟩ := excInit_of X T.ini
  obtain ⟨hp, g, dr, tk, os⟩ := s
  have k : ∀ b o, hp.get? b = some o → ((hp.push (kdv_tup [v])).push (excO C hp.objs.size)).get? b = some o := fun b o e => Heap.get?_push_of_some _ (Heap.get?_push_of_some _ e)
  have hget : ((hp.push (kdv_tup [v])).push (excO C hp.objs.size)).get? (hp.objs.size + 1) = some (excO C hp.objs.size) := by heap_get
  refine call_own PySem.F.excBase_IndexError hbm hC (looks_findIn X T.iC) (fun self => bind_ofT X T.tC self) (one_size v) ?_
  refine err_init (s := ⟨(hp.push (kdv_tup [v])).push (excO C hp.objs.size), g, dr, tk, os⟩) T (X.keeps k) (hlim.keeps k) hget ?_ fun h' tk' dx ⟨k', hx, dn, dne, hns⟩ => ?_
  · show A.depth + 1 < recursionLimit
    exact hroom
  · have old : ∀ b o, hp.get? b = some o → h'.get? b = some o := fun b o e => k' b o (Nat.ne_of_lt (Nat.lt_succ_of_lt (Heap.lt_size e))) (k b o e)
    have z : hp.objs.size + 1 + 1 ≤ dx := by
      first
        | (simpa only [Heap.size_push] using dn)
        | exact dn
        | (have q := dn; rw [Heap.size_push, Heap.size_push] at q; exact q)
    exact ⟨rfl, hq h' tk' (hp.objs.size + 1) dx ⟨old, Nat.le_succ _, ⟨_, _, hx, rfl, rfl, rfl, rfl⟩, Nat.le_trans (Nat.le_trans (Nat.le_succ _) (Nat.le_succ _)) z, dne, hns⟩⟩
end
section
open L2
theorem relO_fld {v : V} {v' : Value} (r : RelV v v') (f : Str) : RelO (List.lookup f [(("given" : Str), v)]) (if f = "given" then some v' else none) := by
  by_cases hw : f = "given"
  · subst hw
    rw [if_pos rfl]
    have q : List.lookup ("given" : Str) [(("given" : Str), v)] = some v := by simp [List.lookup]
    rw [q]
    exact r
  · rw [if_neg hw]
    have qw : (f == ("given" : Str)) = false := by simpa using hw
    have q2 : List.lookup f [(("given" : Str), v)] = none := by simp [List.lookup, qw]
    rw [q2]
    trivial
variable {X : Cx} {C fI : Addr}
/-- InvalidNumber(e) -/
def tMk (C : Addr) (ta : TA) : L2.St → Hp → XK → Prop := fun σ H Q => ta σ H fun vs H1 => ∃ v, vs = [v] ∧ ∀ d, H1 d = none → Q (.ref C) (some d) (upd H1 d (.xd [(("given" : Str), v)]))
theorem pmk {a : Expr} {ta : TA} {p pos : Pos} {k : Nat} (T : ErrTxt X.K X.mg C fI) (hr : Room k X.A) (ha : PA X [a] ta) (hg : Gl X "InvalidNumber" := by rfl)
    (he : starEach (a :: []) X.env = (false, eval a X.env) :: starEach [] X.env := by rfl) (hpl : (backTo pos (starEach [] X.env)).any (·.1) = false := by rfl) :
    PMk X (.Call (.Name "InvalidNumber" p) [a] [] pos) (tMk C ta) := by
  intro pins s σ H Q I h
  refine wpAny_Call_Name_kw (ld_glob I hg T.gC ?_)
  refine PySem.W.callWith_K (h₀ := X.base) I.ok.mod.kin T.kC (thn (ha.run pos pins s σ H _ I h) fun us s1 hh => ?_) he hpl
  obtain ⟨vs, H1, I1, r1, v, ev, q1⟩ := hh
  subst ev
  refine ⟨I1.kIn, ?_⟩
  cases r1 with
  | cons rv rn =>
    rename_i v' us'
    cases rn
    show wpAny _ _ (call (.ref C) [v']) _ _ _
    have hlim := I1.nolimit
    obtain ⟨hp, g, dr, tk, os⟩ := s1
    refine wpAny_call (err_made T I1.kIn hlim (by have := hr.dp; omega) fun h' tk' e d M => ?_)
    show MkP X pins σ Q (.ref e) ⟨h', g, dr, tk', os⟩
    obtain ⟨oe, fv, hoe, hc, hd, hdat, h1⟩ := M.obj
    have hns := M.ns
    obtain ⟨G', g1, g2⟩ := restrict h' fun b => decide (b ≠ e)
    have gk : ∀ b, b ≠ e → G'.get? b = h'.get? b := fun b hb => g1 b (decide_eq_true hb)
    have ge : G'.get? e = none := g2 e (by simp)
    have old : ∀ b o, hp.get? b = some o → G'.get? b = some o := fun b o q => (gk b (Nat.ne_of_lt (Nat.lt_of_lt_of_le (Heap.lt_size q) M.new))).trans (M.keep b o q)
    have ob : ObjOk X.prog X.w (upd H1 d (.xd [(("given" : Str), v)])) G' d (.xd [(("given" : Str), v)]) :=
      ⟨_, hns.at (fun o q => (gk d M.dne).trans q), fun f => relO_fld rv f⟩
    have J : Inv X pins σ (upd H1 d (.xd [(("given" : Str), v)])) ⟨G', g, dr, tk', os⟩ := I1.laid (t' := tk') old M.dbig ob
    refine ⟨e, oe, fv, ⟨G', g, dr, tk', os⟩, _, .ref C, some d, rfl, J, fun b o q => ?_, ge, hoe, ⟨hc, hd⟩, hdat, h1, ?_, rfl, I1.bare, raises_own T.exC T.tyC, q1 d (I1.hok.fresh M.dbig)⟩
    · by_cases hb : b = e
      · have q' : G'.get? b = some o := q
        rw [hb, ge] at q'; cases q'
      · exact (gk b hb).symm.trans q
    · rw [upd_ne (Ne.symm M.dne)]
      exact I1.hok.fresh M.new
/-- e.given, e the exception that the suite holds (at a; its class cls, its dict d) -/
def tFld (C : Addr) (a : Addr) (cls : Value) (d : Option Addr) (te : TE) : TE := fun σ H Q => te σ H fun x H1 => x = .ref a ∧ cls = .ref C ∧ ∃ (dd : Addr) (v : V), d = some dd ∧ H1 dd = some (.xd [(("given" : Str), v)]) ∧ Q v H1
theorem pe_fld {a : Addr} {oe : Obj} {cls : Value} {d : Option Addr} {pn : List (Addr × Obj)} {e : Expr} {te : TE} {pos : Pos} (T : ErrTxt X.K X.mg C fI) (hz : Zc cls d oe) (hf : ∃ vs, oe.data = .fields vs) (he : PE (X.suite a ((a, oe) :: pn)) e te)
    (hb : attributeBase e "given" X.env (eval e X.env) = eval e X.env := by rfl) :
    PE (X.suite a ((a, oe) :: pn)) (.Attribute e "given" pos) (tFld C a cls d te) := by
  refine ⟨fun pins s σ H Q I h => ?_⟩
  refine attr_of hb (thn (he.run pins s σ H _ I h) fun u s1 hh => ?_)
  obtain ⟨x, H1, I1, rx, ex, ec, dd, v, ed, ea, q⟩ := hh
  subst ex
  obtain rfl : u = Value.ref a := rx
  subst ec
  subst ed
  obtain ⟨ha, _⟩ := I1.pin (a, oe) (List.mem_append_left _ List.mem_cons_self)
  obtain ⟨vs, hd⟩ := hf
  have hx : ObjOk X.prog X.w H1 s1.heap dd (.xd [(("given" : Str), v)]) := I1.hok dd _ ea
  obtain ⟨mA, hns, hr⟩ := hx
  obtain ⟨od, ho, hl⟩ := lookIn_ns hns
  have l : List.lookup ("given" : Str) [(("given" : Str), v)] = some v := by simp [List.lookup]
  obtain ⟨u, hu, ru⟩ := RelO.some_of (v := v) (o := mA "given") (by rw [← l]; exact hr "given")
  have J : PySem.W.InstAt s1.heap a oe C (some od) := ⟨ha, hz.1, by unfold PySem.W.notCls; rw [hd] <;> rfl, by rw [hz.2]; exact ho⟩
  exact HandSPX.exc_get I1.kIn J T.ga T.gg T.exC (PySem.W.findObj_own T.hdC T.noN rfl (by rw [hl, hu])) (handed_of ru) ⟨v, H1, I1.tok _, ru, q⟩
end
end ErrN
namespace DL
open PySem PySem.Spec L2
variable [Tbs] {S : Sg} {X : Cx} {W : L2.St → WH}
/-- raise InvalidNumber(e) -/
def sRaise_ErrN (f : DE) : DS := fun env L => (f env L).toS env fun d L1 => .exc ⟨101, some d⟩ env L1
theorem s_raise_ErrN {C fI : Addr} {a : Expr} {f : DE} {p pos pos2 : Pos} {k : Nat} (hc : X.calm = true) (T : ErrN.ErrTxt X.K X.mg C fI) (hr : Room k X.A) (tk : Takes X (wishOf W)) (hct : S.ct 101 = some C) (ha : PE X a (tD S W f)) (hp : ∀ {ta}, PE X a ta → PA X [a] (tCons ta tNil))
    (hg : Gl X "InvalidNumber" := by rfl) (he : starEach (a :: []) X.env = (false, eval a X.env) :: starEach [] X.env := by rfl) (hpl : (backTo pos (starEach [] X.env)).any (·.1) = false := by rfl) :
    PS X (.Raise (some (.Call (.Name "InvalidNumber" p) [a] [] pos)) none pos2) (tS S W (sRaise_ErrN f)) :=
  ps_imp (ps_raise hc tk (ErrN.pmk T hr (hp ha) hg he hpl)) fun E σ H => by
    rintro ⟨env, L, M, he, hs, hp⟩
    refine ⟨env, L, M, he, hs, PostS.expr he hp fun d L1 M1 H1 x1 s1 q v r => ?_⟩
    refine ⟨v, rfl, fun b hb => ?_⟩
    refine q σ _ _ _ M1 (To.new hb) (s1.new hb) ((he.mono x1).mono (To.new hb)) ?_
    exact ⟨C, hct, rfl, b, v, rfl, upd_same, fun z => s1.ms b z hb, r.mono (To.new hb)⟩
end DL

set_option Elab.async false
set_option linter.all false
set_option maxRecDepth 100000
set_option maxHeartbeats 2000000
namespace ErrM
open PySem PySem.Spec PySem.W PySem.Calls PyProof.Rows PySem.HandSPX
/-! ### an own error class TooMany(OverflowError) whose own __init__ keeps one field most -/
abbrev bmB : List Value := [.type "OverflowError", .type "ArithmeticError", .type "Exception", .type "BaseException", .type "object"]
def iA (p1 p2 : Pos) : Arguments := { posonlyargs := [], args := [{ arg := "self", annotation := none, pos := p1 }, { arg := "most", annotation := none, pos := p2 }], vararg := none, kwonlyargs := [], kw_defaults := [], kwarg := none, defaults := [] }
def iB (q1 q2 q3 q4 : Pos) : List Stmt := [.Assign [.Attribute (.Name "self" q1) "most" q2] (.Name "most" q3) q4]
def iS : Scope := { kind := .function, names := [(PySem.Str.ofString "self", .local), (PySem.Str.ofString "most", .local)], isGenerator := false, isCoroutine := false, more := [] }
structure ErrTxt (K : Frag) (mg : Str → Option Value) (C fI : Addr) : Prop where
  gC : mg "TooMany" = some (.ref C)
  ini : excInitIn K C bmB "OverflowError.__new__" = true
  ovr : excOver K C bmB = true
  tak : takerIn K C "most" = some none
  sa : findIn K (.ref C) "__setattr__" = some (some (.builtin "object.__setattr__"))
  ga : findIn K (.ref C) "__getattribute__" = some (some (.builtin "BaseException.__getattribute__"))
  gg : findIn K (.ref C) "__getattr__" = some none
  noN : findIn K (.ref C) "most" = some none
  iC : findIn K (.ref C) "__init__" = some (some (.ref fI))
  tC : typeIn K (.ref fI) = some (.type "function")
  kC : keepIn K (.ref C) = true
  exC : subIn K (.ref C) (.type "BaseException") = some true
  tyC : typeIn K (.ref C) = some (.type "type")
  hdC : hasDictIn K C = true
  te : exmOne K (.ref C) (.ref C) = some true
  fn : ∃ (oc : Value) (od : Option Addr) (doc pm : Value) (an : Option Addr) (cdv ct : Value) (osl : Array (Option Value)) (p1 p2 q1 q2 q3 q4 : Pos),
    K.lookup fI = some ⟨oc, od, .func (fnOf "__init__" "TooMany.__init__" (iA p1 p2) (iB q1 q2 q3 q4) iS .none .none doc pm an cdv ct), osl⟩ ∧ codeIn K cdv "TooMany.__init__" = true
theorem one_size (v : Value) : [v].length ≤ sizeLine := by
  rw [sizeLine_eq]
  exact (by decide : 1 ≤ 16777216)
theorem bind_ofT {K : Frag} {h : Heap} {M : Model} {fI : Addr} (X : K.In h) (e : typeIn K (.ref fI) = some (.type "function")) (self : Value) : Looks M h (bindSpecial (.ref fI) self) (.ref fI, [self]) := bind_fn X self e
theorem ldC {M : Model} {s : Shared} {name : Str} {scope : Scope} {L a : Addr} {cd : Value} {m : Str → Option Value} {x : Str} {pos : Pos} {v : Value} {Q : Value → Shared → Prop} {A : Around} {E : Value → Shared → Prop} (hn : s.heap.Ns L m) (hv : m x = some v) (h : Q v s)
    (hk : scope.kind = .function := by rfl) (hl : (envOfC name scope L a cd).kindOf x = some .local := by rfl) (hd : (x == ("__debug__" : Str)) = false := by decide) :
    wpAny M A (eval (.Name x pos) (envOfC name scope L a cd)) Q E s := wpAny_Name (wpAny_loadName_local hk hl hn hv h) hd
/-- what __init__ leaves of a fresh exception at x -/
structure InitEnd (h h' : Heap) (x C dx t1 : Addr) (v : Value) : Prop where
  keep : ∀ b o, b ≠ x → h.get? b = some o → h'.get? b = some o
  obj : h'.get? x = some { cls := .ref C, dict := some dx, data := .fields #[.ref t1, .none, .none, .none, .bool false, .none] }
  dbig : h.objs.size ≤ dx
  dne : dx ≠ x
  ns : h'.Ns1 dx (fun y => if y = "most" then some v else none)
/-- a made error -/
structure OwnMade (h h' : Heap) (e C d : Addr) (v : Value) : Prop where
  keep : ∀ b o, h.get? b = some o → h'.get? b = some o
  new : h.objs.size ≤ e
  obj : ∃ oe vs, h'.get? e = some oe ∧ oe.cls = .ref C ∧ oe.dict = some d ∧ oe.data = .fields vs ∧ vs[1]? = some .none
  dbig : h.objs.size ≤ d
  dne : d ≠ e
  ns : h'.Ns1 d (fun y => if y = "most" then some v else none)
section
variable {prog : Program} {w : World} {A : Around} {E : Value → Shared → Prop} {R : Result → Shared → Prop} {s : Shared} {K : Frag} {mg : Str → Option Value} {C fI : Addr}
/-- the first field of a fresh exception -/
theorem first_store {name : Str} {tk : Tok} {v : Value} {x t0 : Addr} {hp : Heap} {g : Array GenState} {d : Drawn} {t : Nat} {os : OsState} (SF : StoreFacts "OverflowError" bmB "object.__setattr__" "object") (X : K.In hp) (hx : hp.get? x = some (excO C t0)) (ho : excOver K C bmB = true) (ht : takerIn K C name = some none) (hh : hasDictIn K C = true)
    (hq : ∀ h' tk' dx, (∀ b o, b ≠ x → hp.get? b = some o → h'.get? b = some o) → hp.objs.size ≤ dx → dx ≠ x → h'.get? x = some { cls := .ref C, dict := some dx, data := .fields #[.ref t0, .none, .none, .none, .bool false, .none] } →
      h'.Ns1 dx (fun y => if y = name then some v else none) → R (.ok (.ret .none)) ⟨h', g, d, tk', os⟩) :
    codeAny (model prog w) A (.call (.builtin "object.__setattr__") ⟨[.ref x, .str name tk, v], []⟩) R ⟨hp, g, d, t, os⟩ := by
  have hlt := Heap.lt_size hx
  have apart : hp.objs.size ≠ x := fun z => Nat.lt_irrefl _ (z ▸ hlt)
  refine osa_openX (s := ⟨hp, g, d, t, os⟩) (od := none) (ox := excO C t0) SF X ⟨hx, rfl, rfl, trivial⟩ ho ht fun b => ?_
  obtain ⟨cd, hc, hd'⟩ := any_some hh
  refine wpAny_bind (wpAny_pure (wpAny_bind (instanceDict_exc (t := t0) (c2 := .none) hx (looks_clsIn X hc) hd' ?_)))
  refine store_in_new (hp := (hp.push (dictOf [] 0)).update x fun o => { o with dict := some hp.objs.size }) (dx := hp.objs.size) ?_ fun h' tk' hn' hs => ?_
  · exact ⟨_, #[], _, (Heap.get?_update_ne _ _ _ _ apart).trans (Heap.get?_push_size hp rfl), rfl, fun _ q => absurd q (by simp), fun _ => rfl⟩
  · have hx₁ : (hp.push (dictOf [] 0)).get? x = some (excO C t0) := Heap.get?_push_of_some _ hx
    refine hq h' tk' hp.objs.size (fun b o hb e => ?_) (Nat.le_refl _) apart ?_ hn'
    · refine (hs.2 b fun z => ?_).trans ((Heap.get?_update_ne _ _ _ _ hb).trans (Heap.get?_push_of_some _ e))
      have := Heap.lt_size e
      rw [z] at this
      exact Nat.lt_irrefl _ this
    · exact (hs.2 x apart.symm).trans (Heap.get?_update_self _ hx₁ rfl)
theorem err_init (T : ErrTxt K mg C fI) {x t0 : Addr} {v : Value} (X : K.In s.heap) (hlim : s.heap.NoLimit) (hx : s.heap.get? x = some (excO C t0)) (hroom : A.depth < recursionLimit)
    (hq : ∀ h' tk dx, InitEnd s.heap h' x C dx t0 v → R (.ok (.ret .none)) { s with heap := h', toks := tk }) :
    codeAny (model prog w) A (.call (.ref fI) ⟨[.ref x, v], []⟩) R s := by
  obtain ⟨oc, od, doc, pm, an, cdv, ct, osl, p1, p2, q1, q2, q3, q4, ho, hcd⟩ := T.fn
  refine Att.call_fn (binds := [("self", .ref x), ("most", v)]) X hlim ho hcd hroom (BindsTo.of_eq (by first | rfl | with_unfolding_all rfl)) (by first | rfl | decide | with_unfolding_all rfl) (fun s₁ IC => ?_) rfl rfl rfl
  obtain ⟨h₁, tk₁, rfl⟩ := IC.toInCall.same
  have k : ∀ b o, s.heap.get? b = some o → h₁.get? b = some o := IC.toInCall.keep
  have hn := IC.toInCall.ns
  have X₁ : K.In h₁ := X.keeps k
  have hx₁ := k _ _ hx
  show wpAny _ _ (execs _ _) _ _ _
  refine wpAny_execs_cons (plainObj_wpAny_Assign_Attribute ?_)
  refine ldC (v := v) hn (by first | rfl | with_unfolding_all rfl | kernel_rfl) (ldC (v := .ref x) hn (by first | rfl | with_unfolding_all rfl | kernel_rfl) ?_)
  refine set_plain X₁ (ox := excO C t0) (od := none) ⟨hx₁, rfl, rfl, trivial⟩ T.sa ?_
  refine first_store (F.store_OverflowError) X₁ hx₁ T.ovr T.tak T.hdC (fun h₃ tk₃ dx k₃ dn dne hx₃ hn₃ => ?_)
  show wpAny _ _ (execs _ _) _ _ _
  have z : s.heap.objs.size < h₁.objs.size := hn.lt
  exact wpAny_execs_nil (hq h₃ tk₃ dx ⟨fun b o hb e => k₃ b o hb (k b o e), hx₃, Nat.le_of_lt (Nat.lt_of_lt_of_le z dn), dne, hn₃⟩)
theorem err_made (T : ErrTxt K mg C fI) {v : Value} (X : K.In s.heap) (hlim : s.heap.NoLimit) (hroom : A.depth + 1 < recursionLimit)
    (hq : ∀ h' tk e d, OwnMade s.heap h' e C d v → R (.ok (.ret (.ref e))) { s with heap := h', toks := tk }) :
    codeAny (model prog w) A (.call (.ref C) ⟨[v], []⟩) R s := by
  obtain ⟨nm, N, q, bs, bm, hdct, sn, sub, ab, col, dd, k0, k1, k2, k3, k5, hC, hbm⟩ := excInit_of X T.ini
  obtain ⟨hp, g, dr, tk, os⟩ := s
  have k : ∀ b o, hp.get? b = some o → ((hp.push (kdv_tup [v])).push (excO C hp.objs.size)).get? b = some o := fun b o e => Heap.get?_push_of_some _ (Heap.get?_push_of_some _ e)
  have hget : ((hp.push (kdv_tup [v])).push (excO C hp.objs.size)).get? (hp.objs.size + 1) = some (excO C hp.objs.size) := by heap_get
  refine call_own PySem.F.excBase_OverflowError hbm hC (looks_findIn X T.iC) (fun self => bind_ofT X T.tC self) (one_size v) ?_
  refine err_init (s := ⟨(hp.push (kdv_tup [v])).push (excO C hp.objs.size), g, dr, tk, os⟩) T (X.keeps k) (hlim.keeps k) hget ?_ fun h' tk' dx ⟨k', hx, dn, dne, hns⟩ => ?_
  · show A.depth + 1 < recursionLimit
    exact hroom
  · have old : ∀ b o, hp.get? b = some o → h'.get? b = some o := fun b o e => k' b o (Nat.ne_of_lt (Nat.lt_succ_of_lt (Heap.lt_size e))) (k b o e)
    have z : hp.objs.size + 1 + 1 ≤ dx := by
      first
        | (simpa only [Heap.size_push] using dn)
        | exact dn
        | (have q := dn; rw [Heap.size_push, Heap.size_push] at q; exact q)
    exact ⟨rfl, hq h' tk' (hp.objs.size + 1) dx ⟨old, Nat.le_succ _, ⟨_, _, hx, rfl, rfl, rfl, rfl⟩, Nat.le_trans (Nat.le_trans (Nat.le_succ _) (Nat.le_succ _)) z, dne, hns⟩⟩
end
section
open L2
theorem relO_fld {v : V} {v' : Value} (r : RelV v v') (f : Str) : RelO (List.lookup f [(("most" : Str), v)]) (if f = "most" then some v' else none) := by
  by_cases hw : f = "most"
  · subst hw
    rw [if_pos rfl]
    have q : List.lookup ("most" : Str) [(("most" : Str), v)] = some v := by simp [List.lookup]
    rw [q]
    exact r
  · rw [if_neg hw]
    have qw : (f == ("most" : Str)) = false := by simpa using hw
    have q2 : List.lookup f [(("most" : Str), v)] = none := by simp [List.lookup, qw]
    rw [q2]
    trivial
variable {X : Cx} {C fI : Addr}
/-- TooMany(e) -/
def tMk (C : Addr) (ta : TA) : L2.St → Hp → XK → Prop := fun σ H Q => ta σ H fun vs H1 => ∃ v, vs = [v] ∧ ∀ d, H1 d = none → Q (.ref C) (some d) (upd H1 d (.xd [(("most" : Str), v)]))
theorem pmk {a : Expr} {ta : TA} {p pos : Pos} {k : Nat} (T : ErrTxt X.K X.mg C fI) (hr : Room k X.A) (ha : PA X [a] ta) (hg : Gl X "TooMany" := by rfl)
    (he : starEach (a :: []) X.env = (false, eval a X.env) :: starEach [] X.env := by rfl) (hpl : (backTo pos (starEach [] X.env)).any (·.1) = false := by rfl) :
    PMk X (.Call (.Name "TooMany" p) [a] [] pos) (tMk C ta) := by
  intro pins s σ H Q I h
  refine wpAny_Call_Name_kw (ld_glob I hg T.gC ?_)
  refine PySem.W.callWith_K (h₀ := X.base) I.ok.mod.kin T.kC (thn (ha.run pos pins s σ H _ I h) fun us s1 hh => ?_) he hpl
  obtain ⟨vs, H1, I1, r1, v, ev, q1⟩ := hh
  subst ev
  refine ⟨I1.kIn, ?_⟩
  cases r1 with
  | cons rv rn =>
    rename_i v' us'
    cases rn
    show wpAny _ _ (call (.ref C) [v']) _ _ _
    have hlim := I1.nolimit
    obtain ⟨hp, g, dr, tk, os⟩ := s1
    refine wpAny_call (err_made T I1.kIn hlim (by have := hr.dp; omega) fun h' tk' e d M => ?_)
    show MkP X pins σ Q (.ref e) ⟨h', g, dr, tk', os⟩
    obtain ⟨oe, fv, hoe, hc, hd, hdat, h1⟩ := M.obj
    have hns := M.ns
    obtain ⟨G', g1, g2⟩ := restrict h' fun b => decide (b ≠ e)
    have gk : ∀ b, b ≠ e → G'.get? b = h'.get? b := fun b hb => g1 b (decide_eq_true hb)
    have ge : G'.get? e = none := g2 e (by simp)
    have old : ∀ b o, hp.get? b = some o → G'.get? b = some o := fun b o q => (gk b (Nat.ne_of_lt (Nat.lt_of_lt_of_le (Heap.lt_size q) M.new))).trans (M.keep b o q)
    have ob : ObjOk X.prog X.w (upd H1 d (.xd [(("most" : Str), v)])) G' d (.xd [(("most" : Str), v)]) :=
      ⟨_, hns.at (fun o q => (gk d M.dne).trans q), fun f => relO_fld rv f⟩
    have J : Inv X pins σ (upd H1 d (.xd [(("most" : Str), v)])) ⟨G', g, dr, tk', os⟩ := I1.laid (t' := tk') old M.dbig ob
    refine ⟨e, oe, fv, ⟨G', g, dr, tk', os⟩, _, .ref C, some d, rfl, J, fun b o q => ?_, ge, hoe, ⟨hc, hd⟩, hdat, h1, ?_, rfl, I1.bare, raises_own T.exC T.tyC, q1 d (I1.hok.fresh M.dbig)⟩
    · by_cases hb : b = e
      · have q' : G'.get? b = some o := q
        rw [hb, ge] at q'; cases q'
      · exact (gk b hb).symm.trans q
    · rw [upd_ne (Ne.symm M.dne)]
      exact I1.hok.fresh M.new
/-- e.most, e the exception that the suite holds (at a; its class cls, its dict d) -/
def tFld (C : Addr) (a : Addr) (cls : Value) (d : Option Addr) (te : TE) : TE := fun σ H Q => te σ H fun x H1 => x = .ref a ∧ cls = .ref C ∧ ∃ (dd : Addr) (v : V), d = some dd ∧ H1 dd = some (.xd [(("most" : Str), v)]) ∧ Q v H1
theorem pe_fld {a : Addr} {oe : Obj} {cls : Value} {d : Option Addr} {pn : List (Addr × Obj)} {e : Expr} {te : TE} {pos : Pos} (T : ErrTxt X.K X.mg C fI) (hz : Zc cls d oe) (hf : ∃ vs, oe.data = .fields vs) (he : PE (X.suite a ((a, oe) :: pn)) e te)
    (hb : attributeBase e "most" X.env (eval e X.env) = eval e X.env := by rfl) :
    PE (X.suite a ((a, oe) :: pn)) (.Attribute e "most" pos) (tFld C a cls d te) := by
  refine ⟨fun pins s σ H Q I h => ?_⟩
  refine attr_of hb (thn (he.run pins s σ H _ I h) fun u s1 hh => ?_)
  obtain ⟨x, H1, I1, rx, ex, ec, dd, v, ed, ea, q⟩ := hh
  subst ex
  obtain rfl : u = Value.ref a := rx
  subst ec
  subst ed
  obtain ⟨ha, _⟩ := I1.pin (a, oe) (List.mem_append_left _ List.mem_cons_self)
  obtain ⟨vs, hd⟩ := hf
  have hx : ObjOk X.prog X.w H1 s1.heap dd (.xd [(("most" : Str), v)]) := I1.hok dd _ ea
  obtain ⟨mA, hns, hr⟩ := hx
  obtain ⟨od, ho, hl⟩ := lookIn_ns hns
  have l : List.lookup ("most" : Str) [(("most" : Str), v)] = some v := by simp [List.lookup]
  obtain ⟨u, hu, ru⟩ := RelO.some_of (v := v) (o := mA "most") (by rw [← l]; exact hr "most")
  have J : PySem.W.InstAt s1.heap a oe C (some od) := ⟨ha, hz.1, by unfold PySem.W.notCls; rw [hd] <;> rfl, by rw [hz.2]; exact ho⟩
  exact HandSPX.exc_get I1.kIn J T.ga T.gg T.exC (PySem.W.findObj_own T.hdC T.noN rfl (by rw [hl, hu])) (handed_of ru) ⟨v, H1, I1.tok _, ru, q⟩
end
end ErrM
namespace DL
open PySem PySem.Spec L2
variable [Tbs] {S : Sg} {X : Cx} {W : L2.St → WH}
/-- raise TooMany(e) -/
def sRaise_ErrM (f : DE) : DS := fun env L => (f env L).toS env fun d L1 => .exc ⟨102, some d⟩ env L1
theorem s_raise_ErrM {C fI : Addr} {a : Expr} {f : DE} {p pos pos2 : Pos} {k : Nat} (hc : X.calm = true) (T : ErrM.ErrTxt X.K X.mg C fI) (hr : Room k X.A) (tk : Takes X (wishOf W)) (hct : S.ct 102 = some C) (ha : PE X a (tD S W f)) (hp : ∀ {ta}, PE X a ta → PA X [a] (tCons ta tNil))
    (hg : Gl X "TooMany" := by rfl) (he : starEach (a :: []) X.env = (false, eval a X.env) :: starEach [] X.env := by rfl) (hpl : (backTo pos (starEach [] X.env)).any (·.1) = false := by rfl) :
    PS X (.Raise (some (.Call (.Name "TooMany" p) [a] [] pos)) none pos2) (tS S W (sRaise_ErrM f)) :=
  ps_imp (ps_raise hc tk (ErrM.pmk T hr (hp ha) hg he hpl)) fun E σ H => by
    rintro ⟨env, L, M, he, hs, hp⟩
    refine ⟨env, L, M, he, hs, PostS.expr he hp fun d L1 M1 H1 x1 s1 q v r => ?_⟩
    refine ⟨v, rfl, fun b hb => ?_⟩
    refine q σ _ _ _ M1 (To.new hb) (s1.new hb) ((he.mono x1).mono (To.new hb)) ?_
    exact ⟨C, hct, rfl, b, v, rfl, upd_same, fun z => s1.ms b z hb, r.mono (To.new hb)⟩
end DL

set_option Elab.async false
set_option linter.all false
set_option maxRecDepth 100000
set_option maxHeartbeats 2000000
namespace DL
open PySem PySem.Spec PyProof.Rows L2
/-! ### repr of data -/
/-- the text of an empty dict -/
theorem call_repr0 {X : Cx} (hgd : X.A.guards = some []) (hu : X.A.units + 64 < cLine) : CallR X (.builtin "repr") (fun xs H Q => ∃ a, xs = [.ref a] ∧ Rd H a (.dK []) ∧ Q (.str "{}") H) := by
  intro pins s σ H xs us Q I r h
  obtain ⟨a, rfl, hd, q⟩ := h
  obtain ⟨u, rfl, ru⟩ := vals1 r
  obtain rfl : u = Value.ref a := ru
  have ob : ObjOk X.prog X.w H s.heap a (.dK []) := by
    rcases hd with e | ⟨o, e⟩
    · exact I.hok a _ e
    · exact (I.hok a _ e).2
  obtain ⟨_, ns, vs, kv, o, es, ep, e1, ex, e2, _, pr, _⟩ := ob
  have hv : vs = [] := by cases kv; rfl
  subst hv
  have he : es.toList = [] := by
    cases hes : es.toList with
    | nil => rfl
    | cons x xs => rw [hes] at pr; cases pr
  have rr : Reads s.heap (.ref a) (.dict []) (a :: [] ++ []) := .dict e1 ex.1 e2 (by rw [he]; exact .nil) (by rw [he]; exact .nil)
  have hs : PyData.shown (.dict []) = "{}" := by decide +kernel
  refine repr_of_reads' rr rfl (fun _ z => ?_) hgd (by show X.A.units + (PyData.depth (.dict []) + 1) < cLine; have : PyData.depth (.dict []) = 1 := by decide +kernel
                                                       omega) (fun _ _ e => e) (fun h' u' tk hk => ⟨.str (PyData.shown (.dict [])), H, I.kept hk, ⟨_, rfl⟩, by rw [hs]; exact q⟩) (by rw [hs, sizeLine_eq]; decide)
  have z' : sysModules = a := by simpa using z
  rw [← z'] at ns
  exact absurd ns (by decide)
theorem call_reprD {X : Cx} (hgd : X.A.guards = some []) (hu : X.A.units + 64 < cLine) : CallR X (.builtin "repr") (fun xs H Q => ∃ v p, xs = [v] ∧ Dp X.K H v p ∧ p.showable = true ∧ p.hasDict = false ∧ p.depth ≤ 60 ∧ p.shown.length ≤ sizeLine ∧ Q (.str p.shown) H) := by
  intro pins s σ H xs us Q I r h
  obtain ⟨v, p, rfl, hd, h1, h2, h3, h4, q⟩ := h
  obtain ⟨u, rfl, ru⟩ := vals1 r
  obtain ⟨as, rd⟩ := Dp.reads I p v u hd ru
  have key : ∀ {a : Addr}, Reads s.heap (.ref a) p as → wpAny (model X.prog X.w) X.A (call (.builtin "repr") [.ref a]) (EP X pins σ Q) X.xe s := fun {a} rr =>
    repr_of_reads' rr h1 (fun z => by rw [h2] at z; cases z) hgd (by omega) (fun _ _ e => e) (fun h' u' tk hk => ⟨.str p.shown, H, I.kept hk, ⟨_, rfl⟩, q⟩) h4
  cases rd with
  | none => exact PySem.P.repr_of_none ⟨.str _, H, I.tok _, ⟨_, rfl⟩, by simpa [PyData.shown] using q⟩
  | bool b => exact PySem.P.repr_of_bool ⟨.str _, H, I.tok _, ⟨_, rfl⟩, by simpa [PyData.shown] using q⟩
  | int i t => exact PySem.P.repr_of_int (of_decide_eq_true h1) ⟨.str _, H, I.tok _, ⟨_, rfl⟩, by simpa [PyData.shown] using q⟩
  | str x t => exact PySem.P.repr_of_str ⟨.str _, H, I.tok _, ⟨_, rfl⟩, by simpa [PyData.shown] using q⟩ (by simpa [PyData.shown] using h4)
  | list a1 a2 a3 a4 => exact key (.list a1 a2 a3 a4)
  | tuple a1 a2 a3 a4 => exact key (.tuple a1 a2 a3 a4)
  | dict a1 a2 a3 a4 a5 => exact key (.dict a1 a2 a3 a4 a5)
/-- what repr tells -/
def reprD (L : LH) (d : D) : Option Str := match d with
  | .dic [] => some "{}"
  | d => (deepL L d).bind fun p => if p.showable && !p.hasDict && decide (p.depth ≤ 60) && fits p.shown.length then some p.shown else none
def kRepr : List D → LH → R D := fun ds L => match ds with
  | [d] => (match reprD L d with
    | some x => .ok (.str x) L
    | none => .no)
  | _ => .no
def rRepr (K : PySem.W.Frag) : List V → Hp → VK → Prop := fun xs H Q => (∃ v p, xs = [v] ∧ Dp K H v p ∧ p.showable = true ∧ p.hasDict = false ∧ p.depth ≤ 60 ∧ p.shown.length ≤ sizeLine ∧ Q (.str p.shown) H) ∨ (∃ a, xs = [.ref a] ∧ Rd H a (.dK []) ∧ Q (.str "{}") H)
theorem call_repr {X : Cx} (hgd : X.A.guards = some []) (hu : X.A.units + 64 < cLine) : CallR X (.builtin "repr") (rRepr X.K) := fun pins s σ H xs us Q I r h => h.elim (call_reprD hgd hu pins s σ H xs us Q I r) (call_repr0 hgd hu pins s σ H xs us Q I r)
variable [Tbs] {S : Sg} {X : Cx} {W : L2.St → WH}
theorem does_repr : DoesL S (rRepr S.K) kRepr := by
  intro M H L a x Q w hs ra hp
  unfold kRepr at hp
  split at hp
  · rename_i d
    cases e : reprD L d with
    | none => rw [e] at hp; exact hp.elim
    | some t =>
      rw [e] at hp
      obtain ⟨v, rfl, r⟩ := ra.single
      unfold reprD at e
      split at e
      · cases e
        obtain ⟨b, kvs, e1, h, _, _, q⟩ := r
        have q' : kvs = [] := q
        subst q'
        exact .inr ⟨b, by rw [e1], h, hp H M To.refl hs _ rfl⟩
      · cases ed : deepL L d with
        | none => rw [ed] at e; cases e
        | some p =>
          rw [ed] at e
          simp only [Option.bind_some] at e
          split at e
          · rename_i hc
            cases e
            simp only [Bool.and_eq_true, Bool.not_eq_true', decide_eq_true_eq] at hc
            exact .inl ⟨v, p, rfl, deepL_ok hs r ed, hc.1.1.1, hc.1.1.2, hc.1.2, fits_ok hc.2, hp H M To.refl hs _ rfl⟩
          · cases e
  · exact hp.elim
end DL

set_option Elab.async false
set_option linter.all false
set_option maxRecDepth 100000
set_option maxHeartbeats 2000000
namespace DL
open PySem PySem.Spec PyProof.Rows L2
/-! ### defs that want to know that no guard stands (repr of lists and tuples) -/
structure FnG (P : Program) (w : World) (K : PySem.W.Frag) (mg : Str → Option Value) (base : Heap) (k : Nat) (f : Addr) (fd : FuncData) (ps : List Str) (sp : Sp) : Prop where
  len : ∀ vs H Q E, sp vs H Q E → vs.length = ps.length
  run : ∀ (A : Around) (outer : List Env) (s : Shared) (H : Hp) (us : List Value) (vs : List V) (Q : VK) (E : XK), A.guards = some [] → Room k A → Env0 P w K mg base A outer s H → BindsTo s fd ⟨us, []⟩ (ps.zip us) → Vals vs us → sp vs H Q E →
    codeAny (model P w) A (.call (.ref f) ⟨us, []⟩) (CR (L2.CX P w) outer P w H s Q E) s
section
variable {P : Program} {w : World} {K : PySem.W.Frag} {ct : Nat → Option Addr} {mg : Str → Option Value} {base : Heap} {x qual : Str} {st : Stmt} {f : Addr} {fd : FuncData} {N ps : List Str} {k n : Nat} {body : DS}
theorem okG_of {sp : Sp} (F : Fun K x qual st f fd) (Sc : FnScope N ps (defScope st)) (len : ∀ vs H Q E, sp vs H Q E → vs.length = ps.length)
    (hbody : ∀ (cdv : Value) (A : Around) (outer : List Env) (s : Shared) (H : Hp) (vs : List V) (Q : VK) (E : XK), Room k (A.deeper (envOfC qual (defScope st) s.heap.objs.size f cdv)) → A.guards = some [] → sp vs H Q E →
      ∃ t, PSs (cxOf (L2.CX P w) P w K mg base N qual (defScope st) f cdv A outer s H E) (defBody st) t ∧ t { nx := fun _ H' => Q .non H', rt := Q } (L2.start N vs) H) : FnG P w K mg base (k + 1) f fd ps sp := by
  obtain ⟨oc, od, kV, doc, pm, an, cdv, ctv, osl, rfl, lk, hcd⟩ := F.ex
  refine ⟨len, fun A outer s H us vs Q E hg hr e0 hb hv h => ?_⟩
  exact LamX.run_ofS lk hcd Sc hr e0 hb hv (len _ _ _ _ h) fun hr' => hbody cdv A outer s H vs Q E hr' hg h
theorem fun_okG [Tbs] (F : Fun K x qual st f fd) (Sc : FnScope N ps (defScope st)) (hn : ps.length = n)
    (hbody : ∀ (cdv : Value) (A : Around) (outer : List Env) (s : Shared) (H : Hp) (E : XK), Room k (A.deeper (envOfC qual (defScope st) s.heap.objs.size f cdv)) → A.guards = some [] →
      PSs (cxOf (L2.CX P w) P w K mg base N qual (defScope st) f cdv A outer s H E) (defBody st) (tS ⟨K, ct⟩ (fun _ => E) body)) : FnG P w K mg base (k + 1) f fd ps (spD ⟨K, ct⟩ n (fnD N.length body)) :=
  okG_of F Sc (spD_len hn) fun cdv A outer s H vs Q E hr hg h => ⟨_, hbody cdv A outer s H E hr hg, fn_reading h⟩
theorem FnG.of {sp : Sp} (F : FnOk P w K mg base (L2.CX P w) k f fd ps sp) : FnG P w K mg base k f fd ps sp := ⟨F.len, fun A outer s H us vs Q E _ hr e0 hb hv h => F.run A outer s H ⟨us, []⟩ us vs Q E hr e0 hb hv h⟩
end
section
variable {X : Cx} {k : Nat} {f : Addr} {fd : FuncData} {ps : List Str} {sp : Sp} {E : L2.St → XK} {x : Str} {p pos : Pos} {e : Expr} {es : List Expr} {t : TA}
/-- x(e, ..), x such a def -/
theorem pe_callG (hgd : X.A.guards = some []) (F : FnG X.prog X.w X.K X.mg X.base k f fd ps sp) (hr : Room k X.A) (hg : Gl X x) (hm : X.mg x = some (.ref f)) (hk : PySem.W.keepIn X.K (.ref f) = true) (hb : L2.Binds X.K fd ps []) (hx : ∀ σ, PassesAt (L2.CX X.prog X.w) X σ (E σ))
    (ha : PA X (e :: es) t) (hdb : (x == ("__debug__" : Str)) = false := by decide) (he : starEach (e :: es) X.env = (false, eval e X.env) :: starEach es X.env := by rfl) (hpl : (backTo pos (starEach es X.env)).any (·.1) = false := by rfl) :
    PE X (.Call (.Name x p) (e :: es) [] pos) (tCallS sp E t) := by
  constructor
  intro pins s σ H Q I h
  apply wpAny_Call_Name_kw
  apply ld_glob I hg hm _ hdb
  apply PySem.W.callWith_K (h₀ := X.base) I.ok.mod.kin hk _ he hpl
  refine thn (ha.run pos pins s σ H _ I h) fun us s1 z => ?_
  obtain ⟨vs, H1, I1, r, q⟩ := z
  have hl : (us ++ []).length = ps.length := by rw [List.append_nil, ← r.length]; exact F.len _ _ _ _ q
  have b := hb s1 us I1.kIn hl
  rw [List.append_nil] at b
  refine ⟨I1.kIn, wpAny_call (codeAny_mono (F.run X.A X.stack s1 H1 us vs Q (E σ) hgd hr I1.env0 b r q) fun res s2 hq => ?_)⟩
  match res, hq with
  | .error ex, hq => exact hx σ pins H1 s1 ex s2 I1 hq
  | .ok (.ret u), hq => exact I1.after hq
  | .ok .next, hq => exact hq.elim
  | .ok .brk, hq => exact hq.elim
  | .ok .cont, hq => exact hq.elim
end
end DL

set_option Elab.async false
set_option linter.all false
set_option maxRecDepth 100000
set_option maxHeartbeats 2000000
namespace DL
open PySem PySem.Spec PyProof.Rows L2
/-! ### the end of a law whose defs want to know that no guard stands, with tables of code objects -/
section
variable {P : Program} {w : World} {K : PySem.W.Frag} {mg mb : Str → Option Value} {k : Nat} {fa a : Addr} {cs : List (Addr × Addr)} {fd : FuncData} {x : Str} {sp : Sp} {s : Shared} {vs : List Value} {ns : List Int}
/-- the script's list where the written part does not tell it, and the tables: nothing else is tracked -/
noncomputable def trkG (K : PySem.W.Frag) (a : Addr) (cs : List (Addr × Addr)) (vs : List Value) (ns : List Int) : Hp := fun b =>
  if b = a ∧ K.lookup a = none then some (.frz { cls := .type "list", data := .seq vs.toArray } (.lst (ns.map V.int))) else if b ∈ cs.map (·.2) then some (.tbl #[]) else none
theorem trkG_cases {b : Addr} {u : HO} (h : trkG K a cs vs ns b = some u) : (b = a ∧ K.lookup a = none ∧ u = .frz { cls := .type "list", data := .seq vs.toArray } (.lst (ns.map V.int))) ∨ (b ∈ cs.map (·.2) ∧ u = .tbl #[]) := by
  unfold trkG at h
  by_cases c : b = a ∧ K.lookup a = none
  · rw [if_pos c] at h
    exact .inl ⟨c.1, c.2, (Option.some.inj h).symm⟩
  · rw [if_neg c] at h
    by_cases c2 : b ∈ cs.map (·.2)
    · rw [if_pos c2] at h
      exact .inr ⟨c2, (Option.some.inj h).symm⟩
    · rw [if_neg c2] at h
      cases h
theorem law_callG (KX : K.In s.heap) (hns : s.heap.Ns mainGlobals mg) (hb : s.heap.Ns builtinsNs mb) (hbb : ∀ x : Str, x ≠ "__name__" → mb x = bootBuiltins x) (hlim : s.heap.NoLimit) (hg : s.gens = #[])
    (hT : ∀ p ∈ cs, s.heap.get? p.2 = some { cls := .none, data := .fields #[] }) (nT : ∀ p ∈ cs, K.lookup p.2 = none) (C : ∀ p ∈ cs, PySem.W.CodeHd s.heap p.1 p.2)
    (hbm : ∃ (bm : Addr) (ob : Obj), mg "__builtins__" = some (.ref bm) ∧ bm ≠ builtinsNs ∧ s.heap.get? bm = some ob ∧ ob.cls = .type "module" ∧ ob.dict = some builtinsNs ∧ ob.data = .plain)
    (ha : s.heap.get? a = some { cls := .type "list", data := .seq vs.toArray }) (hi : IntsAre vs ns) (hl : ns.length ≤ sizeLine) (hr : Room k callerA)
    (F : ∀ base : Heap, K.In base → base.Ns mainGlobals mg → (∀ p ∈ cs, LamX.TabB base mg p.1 p.2) → FnG P w K mg base k fa fd [x] sp) (hbind : ∀ (s : Shared) (u : Value), BindsTo s fd ⟨[u], []⟩ [(x, u)])
    (hsp : ∀ H : Hp, (∀ p ∈ cs, H p.2 = some (.tbl #[])) → SqL K H a (ns.map V.int) → sp [.ref a] H (fun v _ => v = .bl true) fun _ _ _ => False) :
    codeAny (model P w) callerA (.call (.ref fa) ⟨[.ref a], []⟩) (fun r s' => r = .ok (.ret (.bool true)) ∧ OldK s.heap s'.heap ∧ s'.os = s.os ∧ AllBare s'.gens) s := by
  have rv := L2.vals_ints hi
  have tabOf : ∀ b : Addr, b ∈ cs.map (·.2) → ∃ p ∈ cs, p.2 = b ∧ s.heap.get? b = some { cls := .none, data := .fields #[] } := fun b hm => by
    obtain ⟨p, hp, rfl⟩ := List.mem_map.mp hm
    exact ⟨p, hp, rfl, hT p hp⟩
  have aNo : a ∉ cs.map (·.2) := fun z => by
    obtain ⟨_, _, _, q⟩ := tabOf a z
    cases ha.symm.trans q
  have inT : ∀ p ∈ cs, p.2 ∈ cs.map (·.2) := fun p hp => List.mem_map.mpr ⟨p, hp, rfl⟩
  let H : Hp := trkG K a cs vs ns
  have hH : ∀ p ∈ cs, H p.2 = some (.tbl #[]) := fun p hp => by
    have c : ¬ (p.2 = a ∧ K.lookup a = none) := fun c => aNo (c.1 ▸ inT p hp)
    exact (if_neg c).trans (if_pos (inT p hp))
  have hS : SqL K H a (ns.map V.int) := by
    cases q : K.lookup a with
    | none => exact .inl (.inr ⟨_, if_pos ⟨rfl, q⟩⟩)
    | some o =>
      cases (KX a o q).symm.trans ha
      exact .inr ⟨_, vs.toArray, _, q, rfl, rfl, rfl, by rw [List.size_toArray, hi.length]; exact hl, by simpa using rv⟩
  have hok : HOk P w H s.heap := fun b u z => by
    rcases trkG_cases z with ⟨rfl, _, rfl⟩ | ⟨hm, rfl⟩
    · exact ⟨ha, by rw [List.length_map]; exact hl, vs, _, rv, ha⟩
    · exact (tabOf b hm).choose_spec.2.2
  -- what is no list and no table is not tracked
  have free : ∀ {b : Addr} {o : Obj}, s.heap.get? b = some o → (∀ us n, o.data ≠ .seq us n) → o.data ≠ .fields #[] → H b = none := fun {b o} e h1 h2 => by
    cases q : H b with
    | none => rfl
    | some u =>
      rcases trkG_cases q with ⟨rfl, _, _⟩ | ⟨hm, _⟩
      · cases e.symm.trans ha
        exact absurd rfl (h1 _ _)
      · obtain ⟨_, _, _, z⟩ := tabOf b hm
        cases e.symm.trans z
        exact absurd rfl h2
  have keep : ∀ {b : Addr} {o : Obj}, s.heap.get? b = some o → (∀ us n, o.data ≠ .seq us n) → o.data ≠ .fields #[] → (hidT s.heap H).get? b = some o := fun e h1 h2 => hidT_get e (free e h1 h2)
  have nsK : ∀ {b : Addr} {m : Str → Option Value}, s.heap.Ns b m → (hidT s.heap H).Ns b m := fun ⟨o, es, ep, e, d, r⟩ =>
    ⟨o, es, ep, keep e (fun us n z => by rw [d] at z; cases z) (fun z => by rw [d] at z; cases z), d, r⟩
  have KH : K.In (hidT s.heap H) := fun b o e => hidT_get (KX b o e) (by
    cases q : H b with
    | none => rfl
    | some u =>
      rcases trkG_cases q with ⟨rfl, n, _⟩ | ⟨hm, _⟩
      · rw [n] at e; cases e
      · obtain ⟨p, hp, rfl, _⟩ := tabOf b hm
        rw [nT p hp] at e; cases e)
  obtain ⟨mc, lim1, lim2⟩ := hlim
  have hM : L2.Mod K mg (hidT s.heap H) := ⟨KH, nsK hns, ⟨mb, nsK hb, hbb⟩, mc, nsK lim1, lim2⟩
  have gT : ∀ {m : Str → Option Value} {P' : Addr} , s.heap.Ns mainGlobals m → s.heap.get? P' = some { cls := .none, data := .fields #[] } → mainGlobals ≠ P' := fun {m P'} hn hp z => by
    obtain ⟨o, es, ep, e, hd, _⟩ := hn
    rw [z, hp] at e
    cases e
    cases hd
  have TB : ∀ p ∈ cs, LamX.TabB (hidT s.heap H) mg p.1 p.2 := fun p hp => by
    refine ⟨?_, ?_, gT hns (hT p hp)⟩
    · obtain ⟨o, us, file, tf, flags, tg, inF, text, tt, e1, r1, r2, r3, r⟩ := C p hp
      refine ⟨o, us, file, tf, flags, tg, inF, text, tt, keep e1 (fun us' n z => by rw [r2] at z; cases z) (fun z => ?_), r1, r2, r3, r⟩
      rw [r2] at z
      cases z
      simp at r3
    · obtain ⟨bm, ob, b1, b2, b3, b4, b5, b6⟩ := hbm
      refine ⟨bm, ob, b1, b2, fun q => ?_, fun q => ?_, keep b3 (fun us n z => by rw [b6] at z; cases z) (fun z => by rw [b6] at z; cases z), b4, b5, b6⟩
      · obtain ⟨o, es, ep, e, hd, _⟩ := hns
        rw [q, e] at b3
        cases b3
        rw [hd] at b6
        cases b6
      · rw [q, hT p hp] at b3
        cases b3
        cases b6
  have e0 : Env0 P w K mg (hidT s.heap H) callerA [] s H := ⟨rfl, hM, fun b o e => of_hidT e, Nat.le_of_eq (hidT_size _ _), trivial, (fun b z => nomatch z), hok, .of_eq hg⟩
  refine codeAny_mono ((F _ KH (nsK hns) TB).run callerA [] s H [.ref a] [.ref a] _ _ rfl hr e0 (hbind s (.ref a)) (.cons rfl .nil) (hsp H hH hS)) fun r s' h => ?_
  match r, h with
  | .error e, h =>
    obtain ⟨_, _, _, _, _, _, _, _, _, _, _, _, z⟩ := h
    exact z.elim
  | .ok .next, h => exact h.elim
  | .ok .brk, h => exact h.elim
  | .ok .cont, h => exact h.elim
  | .ok (.ret u), h =>
    obtain ⟨v, H', os, bare, un, hok', r', q⟩ := h
    have q' : v = .bl true := q
    subst q'
    obtain rfl : u = Value.bool true := r'
    have same : ∀ b o, b ∉ cs.map (·.2) → s.heap.get? b = some o → s'.heap.get? b = some o := fun b o nb e => by
      cases z : H b with
      | none => exact un.keep b o e z (fun z => nomatch z) (fun z => nomatch z)
      | some u =>
        rcases trkG_cases z with ⟨_, _, rfl⟩ | ⟨hm, _⟩
        · have e1 := (hok b _ z).1
          have e2 := (hok' b _ (un.frzs b _ _ z)).1
          cases e.symm.trans e1
          exact e2
        · exact absurd hm nb
    have grown : ∀ p ∈ cs, ∃ more : Array Value, s'.heap.get? p.2 = some { cls := .none, data := .fields more } := fun p hp => by
      obtain ⟨more, z⟩ := un.tbls p.2 #[] (hH p hp)
      exact ⟨_, hok' p.2 _ z⟩
    refine ⟨rfl, ⟨fun b o e => ?_, fun b o e => ?_⟩, os, bare⟩
    · by_cases hm : b ∈ cs.map (·.2)
      · obtain ⟨p, hp, rfl, z⟩ := tabOf b hm
        obtain ⟨more, hmo⟩ := grown p hp
        cases e.symm.trans z
        exact .inr (.inl ⟨((C p hp).tab (hT p hp)).isCodeTable, rfl, #[], more, rfl, by rw [Array.empty_append]; exact hmo⟩)
      · exact .inl (same b o hm e)
    · by_cases hm : b ∈ cs.map (·.2)
      · obtain ⟨p, hp, rfl, _⟩ := tabOf b hm
        obtain ⟨more, hmo⟩ := grown p hp
        exact ⟨_, hmo⟩
      · exact ⟨o, same b o hm e⟩
end
/-- what is known of the law's promise at the head's heap h -/
def LawG (l : PySem.W.OpenLaw) (w : World) (K : PySem.W.Frag) (k n : Nat) (x : Str) (mg : Str → Option Value) (fa : Addr) (h : Heap) : Prop :=
  ∃ (fd : FuncData) (cs : List (Addr × Addr)) (sp : Sp), (∀ p ∈ cs, h.get? p.2 = some { cls := .none, data := .fields #[] }) ∧ (∀ p ∈ cs, K.lookup p.2 = none) ∧ (∀ p ∈ cs, PySem.W.CodeHd h p.1 p.2) ∧ (∀ (s : Shared) (u : Value), BindsTo s fd ⟨[u], []⟩ [(x, u)]) ∧
    (∀ (H : Hp) (a : Addr) (ns : List Int), ns.length ≤ n → (∀ p ∈ cs, H p.2 = some (.tbl #[])) → SqL K H a (ns.map V.int) → sp [.ref a] H (fun v _ => v = .bl true) fun _ _ _ => False) ∧
    ∀ base : Heap, K.In base → base.Ns mainGlobals mg → (∀ p ∈ cs, LamX.TabB base mg p.1 p.2) → FnG l.prog w K mg base k fa fd [x] sp
theorem walk_ofG {l : PySem.W.OpenLaw} {n k : Nat} {q : Program} {loose : List Str} {XP : (Str → Option Value) → Heap → Prop} {YP : World → Heap → Prop} {d : DefRec} {K : Params → PySem.W.Frag} {x : Str}
    (hn : l.most = some n) (hn2 : n ≤ sizeLine) (hdf : d.params.defaults = []) (hr : Room k callerA) (hY : ∀ (w : World) (h : Heap), YP w h → (K w.params).In h)
    (F : ∀ (w : World) (mg : Str → Option Value) (fa : Addr) (h : Heap), YP w h → (K w.params).In h → h.Ns mainGlobals mg → mg d.name = some (.ref fa) → LawG l w (K w.params) k n x mg fa h) :
    PySem.W.WalkO q loose XP YP l.row.toRowW d [] (fun f vs => PySem.call f vs) := by
  refine Att.attach_callB hn hdf fun w s₀ s₁ mg mb fa o pm cd doc a vs ns G Y _ _ _ hmg hobj hints hlen _ hg => ?_
  obtain ⟨fd, cs, sp, hT, nT, C, hb, hsp, hF⟩ := F w mg fa _ Y (hY w _ Y) G.T.g hmg
  exact law_callG (hY w _ Y) G.T.g G.T.b G.T.builtins G.T.nolimit hg hT nT C G.T.bmain hobj hints (Nat.le_trans hlen hn2) hr hF hb fun H hH hS => hsp H a ns hlen hH hS
end DL

set_option Elab.async false
set_option linter.all false
set_option maxRecDepth 100000
set_option maxHeartbeats 2000000
namespace DL
open PySem PySem.Spec PyProof.Rows L2
/-! ### try: body, several except clauses, some of them 'as n' -/
abbrev Clause := Value × Option Nat × (Addr → Value → Option Addr → TS)
/-- the ends of a suite whose name is gone behind it -/
def endsGone (i : Nat) (D : Ends) : Ends := { nx := fun σ H => D.nx (σ.set i none) H, rt := D.rt, bk := fun σ H => D.bk (σ.set i none) H, ct := fun σ H => D.ct (σ.set i none) H }
/-- what a clause wishes where it is the one -/
def wSuite (D : Ends) (c : Clause) : WX := fun cls d σ H => ∀ a, H a = none → match c.2.1 with
  | none => c.2.2 a cls d D σ H
  | some i => c.2.2 a cls d (endsGone i D) (σ.set i (some (.ref a))) H
def wAny (K : PySem.W.Frag) (Wout : WX) (D : Ends) : List Clause → WX
  | [] => Wout
  | c :: r => fun cls d σ H => ∃ b, PySem.W.exmOne K cls c.1 = some b ∧ (b = true → wSuite D c cls d σ H) ∧ (b = false → wAny K Wout D r cls d σ H)
inductive HdsX (X : Cx) : List ExceptHandler → List Clause → Prop
  | nil : HdsX X [] []
  | only {x : Str} {c : Value} {ts : Addr → Value → Option Addr → TS} {b₀ : Stmt} {suite : List Stmt} {np pos' : Pos} {hds : List ExceptHandler} {l : List Clause} (hc : Names X x c)
      (hsu : ∀ (a : Addr) (oe : Obj) (cls : Value) (d : Option Addr) (pn : List (Addr × Obj)), Zc cls d oe → (∃ vs, oe.data = .fields vs) → PSs (X.suite a ((a, oe) :: pn)) (b₀ :: suite) (ts a cls d)) (r : HdsX X hds l) :
      HdsX X (.ExceptHandler (some (.Name x np)) none (b₀ :: suite) pos' :: hds) ((c, none, ts) :: l)
  | named {x n : Str} {c : Value} {i : Nat} {ts : Addr → Value → Option Addr → TS} {b₀ : Stmt} {suite : List Stmt} {np pos' : Pos} {hds : List ExceptHandler} {l : List Clause} (hi : X.N[i]? = some n) (hln : X.env.kindOf n = some .local) (hc : Names X x c)
      (hsu : ∀ (a : Addr) (oe : Obj) (cls : Value) (d : Option Addr) (pn : List (Addr × Obj)), Zc cls d oe → (∃ vs, oe.data = .fields vs) → PSs (X.suite a ((a, oe) :: pn)) (b₀ :: suite) (ts a cls d)) (r : HdsX X hds l) :
      HdsX X (.ExceptHandler (some (.Name x np)) (some n) (b₀ :: suite) pos' :: hds) ((c, some i, ts) :: l)
section
variable {X : Cx} {pins : List (Addr × Obj)} {σ : L2.St} {H : Hp} {s sI : Shared} {B h3 : Heap} {a : Addr} {cls : Value} {d : Option Addr} {D : Ends} {Wout : WX}
/-- an exception that stands at a, in flight over the frames: sI is the state without it, h3 the heap -/
structure Landed (X : Cx) (pins : List (Addr × Obj)) (σ : L2.St) (H : Hp) (s sI : Shared) (B h3 : Heap) (a : Addr) (cls : Value) (d : Option Addr) : Prop where
  inv : Inv X pins σ H sI
  nb : ∀ b o, sI.heap.get? b = some o → b ∉ frs X.stack → B.get? b = some o
  up : sI.heap.UpToSlots h3
  fl : HandSPX.FlyingZ B (X.env :: X.outer) a (Zc cls d) h3
  na : H a = none
  os : s.os = sI.os
  ag : AllBare s.gens
  nL : a ≠ X.env.locals
  nF : a ∉ X.fs
theorem Landed.here (h : Landed X pins σ H s sI B h3 a cls d) : Inv X pins σ H { s with heap := h3 } := h.inv.landed h.nb h.fl.1 h.up h.os h.ag
theorem Landed.suite (h : Landed X pins σ H s sI B h3 a cls d) : ∃ oe vs, h3.get? a = some oe ∧ Zc cls d oe ∧ oe.data = .fields vs ∧ Inv (X.suite a ((a, oe) :: (X.pn ++ pins))) [] σ H { s with heap := h3 } := by
  obtain ⟨oe, vs, he, hz, hd⟩ := h.fl.there
  exact ⟨oe, vs, he, hz, hd, h.here.suite he hd h.na h.nL h.nF⟩
theorem Landed.next {h4 : Heap} (h : Landed X pins σ H s sI B h3 a cls d) (fl : HandSPX.FlyingZ B (X.env :: X.outer) a (Zc cls d) h4) (up : h3.UpToSlots h4) : Landed X pins σ H s sI B h4 a cls d :=
  ⟨h.inv, h.nb, h.up.trans up, fl, h.na, h.os, h.ag, h.nL, h.nF⟩
/-- the class that a clause names is looked up, and the exception's class held against it -/
theorem Landed.test (h : Landed X pins σ H s sI B h3 a cls d) {x : Str} {c : Value} {np : Pos} {b : Bool} (hc : Names X x c) (hb : PySem.W.exmOne X.K cls c = some b) {Q : Value → Shared → Prop} {E : Value → Shared → Prop} (q : Q c { s with heap := h3 }) :
    wpAny (model X.prog X.w) (X.A.mark (some (.ref a))) (eval (.Name x np) X.env) Q E { s with heap := h3 } := by
  obtain ⟨oe, vs, _, _, _, S⟩ := h.suite
  obtain ⟨hg, hdb, hm⟩ := hc
  rcases hm with hm | ⟨hm, hv, hn⟩
  · exact ld_glob (X := X.suite a ((a, oe) :: (X.pn ++ pins))) S hg hm q hdb
  · exact ld_blt (X := X.suite a ((a, oe) :: (X.pn ++ pins))) S hg hm hv q hn hdb
theorem Landed.is (h : Landed X pins σ H s sI B h3 a cls d) {c : Value} {b : Bool} (hb : PySem.W.exmOne X.K cls c = some b) : PySem.W.Looks (model X.prog X.w) h3 (excMatches (.ref a) c) b := by
  obtain ⟨oe, vs, he, hz, _, _⟩ := h.suite
  exact PySem.W.exm_one (M := model X.prog X.w) h.here.kIn (fun A Q E s k q => wpAny_typeOf_ref (k _ _ he) (by rw [hz.1]; exact q)) hb
/-- how a suite's end goes on -/
theorem suite_end (f : Flow) {s6 : Shared} {oe : Obj} (ok : X.Ok) (h : SP (X.suite a ((a, oe) :: (X.pn ++ pins))) [] D f s6) : SP X pins D f s6 := by
  match f, h with
  | .next, ⟨σ6, H6, S6, q⟩ => exact ⟨_, _, S6.unsuite ok, q⟩
  | .brk, ⟨σ6, H6, S6, q⟩ => exact ⟨_, _, S6.unsuite ok, q⟩
  | .cont, ⟨σ6, H6, S6, q⟩ => exact ⟨_, _, S6.unsuite ok, q⟩
  | .ret u, ⟨v, σ6, H6, S6, r, q⟩ => exact ⟨_, _, _, S6.unsuite ok, r, q⟩
theorem suite_endAs {i : Nat} {n : Str} {pos' : Pos} (f : Flow) {s6 : Shared} {oe : Obj} (ok : X.Ok) (hN : X.N.Nodup) (hi : X.N[i]? = some n) (hln : X.env.kindOf n = some .local) (h : SP (X.suite a ((a, oe) :: (X.pn ++ pins))) [] (endsGone i D) f s6) :
    wpAny (model X.prog X.w) X.A (do bindName X.env n .none; unbindBehindTheSuite X.env n pos') (fun _ s7 => SP X pins D f s7) X.xe s6 := by
  match f, h with
  | .next, ⟨σ6, H6, S6, q⟩ => exact gone_ok (S6.unsuite ok) hN hi hln fun s7 J => ⟨_, _, J, q⟩
  | .brk, ⟨σ6, H6, S6, q⟩ => exact gone_ok (S6.unsuite ok) hN hi hln fun s7 J => ⟨_, _, J, q⟩
  | .cont, ⟨σ6, H6, S6, q⟩ => exact gone_ok (S6.unsuite ok) hN hi hln fun s7 J => ⟨_, _, J, q⟩
  | .ret u, ⟨v, σ6, H6, S6, r, q⟩ => exact gone_ok (S6.unsuite ok) hN hi hln fun s7 J => ⟨_, _, _, J, r, q⟩
theorem go_ok (hs : X.stack = X.env :: X.outer) (hf : X.env.frame = some X.env.locals) (hN : X.N.Nodup) (tk : Takes X Wout) (La : Landed X pins σ H s sI B h3 a cls d) : ∀ {hds : List ExceptHandler} {l : List Clause}, HdsX X hds l → wAny X.K Wout D l cls d σ H →
    wpAny (model X.prog X.w) X.A (handleBy (.ref a) X.env hds) (SP X pins D) X.xe { s with heap := h3 } := by
  intro hds l hk
  induction hk with
  | nil =>
    intro w
    apply wpAny_handleBy_nil
    obtain ⟨k1, k2, k3, oe, vs, T, oT, ts', he, hz, hd, h1, hr⟩ := id La.fl
    unfold PySem.passOn
    apply wpAny_bind
    apply wpAny_field he hd h1
    rw [if_neg (show ¬ ((Value.ref T == Value.none) = true) from by simp)]
    have fin : wpAny (model X.prog X.w) X.A (setFlight (.ref a) X.env.frame) (fun _ s4 => wpAny (model X.prog X.w) X.A (throw (.ref a) : Sem Flow) (SP X pins D) X.xe s4) X.xe { s with heap := h3 } := by
      rw [hf]
      exact HandSPX.setFlight_upZ La.fl fun h4 hh4 up4 => wpAny_throw (tk _ _ ⟨a, B, sI, pins, σ, H, cls, d, rfl, La.inv, La.nb, La.up.trans up4, .inr (.inr (by rw [hs]; exact hh4)), La.na, La.os, La.ag, w⟩)
    first
      | exact wpAny_bind (wpAny_pure (wpAny_bind fin))
      | exact wpAny_bind fin
  | only hc hsu r ih =>
    intro w
    obtain ⟨b, hb, yes, no⟩ := w
    apply wpAny_handleBy_cons (codeAny_handlers_test _) (by intro q; cases q)
    · apply La.test hc hb
      refine (La.is hb).here ?_
      cases b with
      | false => exact ih (no rfl)
      | true =>
        apply codeAny_handlers_suite
        apply HandSPX.lands_againZ La.fl
        intro h4 fl4 up4
        obtain ⟨oe, vs, he, hz, hd, S⟩ := (La.next fl4 up4).suite
        exact wpAny_mono ((hsu a oe cls d (X.pn ++ pins) hz ⟨_, hd⟩).run [] _ _ H _ S (yes rfl a La.na)) (fun f s6 q => suite_end f La.inv.ok q) fun _ _ z => z.elim
  | named hi hln hc hsu r ih =>
    intro w
    obtain ⟨b, hb, yes, no⟩ := w
    apply wpAny_handleBy_cons (codeAny_handlers_test _) (by intro q; cases q)
    · apply La.test hc hb
      refine (La.is hb).here ?_
      cases b with
      | false => exact ih (no rfl)
      | true =>
        apply codeAny_handlers_suite_as
        apply HandSPX.lands_againZ La.fl
        intro h4 fl4 up4
        obtain ⟨oe, vs, he, hz, hd, S⟩ := (La.next fl4 up4).suite
        refine store_ok (X := X.suite a ((a, oe) :: (X.pn ++ pins))) (v := .ref a) S hN hi (.inl hln) rfl (fun s5 S5 => ?_) (.inr hln)
        exact wpAny_mono ((hsu a oe cls d (X.pn ++ pins) hz ⟨_, hd⟩).run [] s5 _ H _ S5 (yes rfl a La.na)) (fun f s6 q => suite_endAs f La.inv.ok hN hi hln q) fun _ _ z => z.elim
end
section
variable {X : Cx} {body : List Stmt} {h₀ : ExceptHandler} {hds : List ExceptHandler} {l : List Clause} {pos : Pos} {tb : WX → TS} {Wout : WX}
theorem ps_try_any (hs : X.stack = X.env :: X.outer) (hf : X.env.frame = some X.env.locals) (hN : X.N.Nodup) (tk : Takes X Wout)
    (hb : ∀ (W : WX) (pn : List (Addr × Obj)) (xe : Value → Shared → Prop), Takes (X.tr pn xe) W → PassesOwn (model X.prog X.w) X.A X.env xe → PSs (X.tr pn xe) body (tb W))
    (hh : HdsX X (h₀ :: hds) l) : PS X (.Try body (h₀ :: hds) [] [] pos) (fun D σ H => tb (wAny X.K Wout D l) D σ H) := by
  constructor
  intro pins s σ H D I h
  have ok := I.ok
  apply wpAny_Try_except
  refine wpAny_mono ((hb (wAny X.K Wout D l) (X.pn ++ pins) (fun e s₁ => wpAny (model X.prog X.w) X.A (noteFrame e X.env) (fun _ s₂ => wpAny (model X.prog X.w) X.A (setFlight e none) (fun _ s₃ =>
    wpAny (model X.prog X.w) X.A (handleBy e X.env (h₀ :: hds)) (SP X pins D) X.xe s₃) X.xe s₂) X.xe s₁) ?_ PassesOwn.looking).run [] s σ H D (I.toTry _) h) ?_ fun e s1 he => he
  · rintro u s' ⟨a, B, sI, pins', σ', H', cls, d, rfl, J', nb, up, sky, na, os, ag, w⟩
    have J : Inv X pins σ' H' sI := J'.ofTry ok
    have hfr : X.A.frames = some (X.env :: X.outer) := by rw [ok.frames, hs]
    have sky' : Sky B (X.env :: X.outer) a (Zc cls d) X.env.locals s'.heap := by rw [← hs]; exact sky
    refine Sky.land Zc.steady hfr hf sky' fun h3 fl3 up3 => ?_
    obtain ⟨oe, vs, he, hz, hd⟩ := fl3.there
    have out : a ∉ frs (X.env :: X.outer) := fun hm => by
      obtain ⟨_, o', e', hnf⟩ := fl3.2.2.1.mem hm
      cases he.symm.trans e'
      exact hnf _ hd
    refine go_ok hs hf hN tk ⟨J, nb, up.trans up3, fl3, na, os, ag, fun z => ?_, fun z => ?_⟩ hh w
    · exact out (List.mem_filterMap.mpr ⟨X.env, List.mem_cons_self, by rw [hf, z]⟩)
    · obtain ⟨e, he', q⟩ := List.mem_filterMap.mp z
      exact out (List.mem_filterMap.mpr ⟨e, List.mem_cons_of_mem _ he', q⟩)
  · intro f s1 hsp
    match f, hsp with
    | .next, ⟨σ', H', J, q⟩ => exact wpAny_execs_nil ⟨σ', H', J.ofTry ok, q⟩
    | .brk, ⟨σ', H', J, q⟩ => exact ⟨σ', H', J.ofTry ok, q⟩
    | .cont, ⟨σ', H', J, q⟩ => exact ⟨σ', H', J.ofTry ok, q⟩
    | .ret u, ⟨v, σ', H', J, r, q⟩ => exact ⟨v, σ', H', J.ofTry ok, r, q⟩
end
end DL

set_option Elab.async false
set_option linter.all false
set_option maxRecDepth 100000
set_option maxHeartbeats 2000000
namespace DL
open PySem PySem.Spec PyProof.Rows L2
variable [Tbs] {S : Sg} {X : Cx} {W : L2.St → WH}
/-! ### what stands in an except suite: return of data that leans on the exception's field -/
abbrev UF := Exn → LH → R D
abbrev UA := Exn → LH → R (List D)
/-- nothing may be let out -/
def wNo : WH := fun _ _ _ => False
def tU (S : Sg) (i : Option Nat) (a : Addr) (cls : Value) (d : Option Addr) (f : UF) : TE := fun σ H Q => ∃ e L M, XR S.K S.ct M e cls d H ∧ (∀ j, i = some j → σ[j]? = some (some (.ref a))) ∧ Sim S.K M H L ∧ PostG S wNo M H (PV S Q) (f e L)
def tUA (S : Sg) (i : Option Nat) (a : Addr) (cls : Value) (d : Option Addr) (f : UA) : TA := fun σ H Q => ∃ e L M, XR S.K S.ct M e cls d H ∧ (∀ j, i = some j → σ[j]? = some (some (.ref a))) ∧ Sim S.K M H L ∧ PostG S wNo M H (PVA S Q) (f e L)
theorem XR.mono {M M' : Mu} {H H' : Hp} {e : Exn} {cls : Value} {dd : Option Addr} (x : To M H M' H') (h : XR S.K S.ct M e cls dd H) : XR S.K S.ct M' e cls dd H' := by
  obtain ⟨C, h1, h2, h3⟩ := h
  refine ⟨C, h1, h2, ?_⟩
  revert h3
  cases e.val with
  | none => exact fun h => h
  | some p =>
    rintro ⟨a, v, q1, q2, q3, q4⟩
    exact ⟨a, v, q1, x.keep a _ q3 q2 (fun ps z => nomatch z), x.nm ⟨_, q2, fun _ z => nomatch z⟩ q3, q4.mono x⟩
def uC (d : D) : UF := fun _ L => .ok d L
def uFld (c : Nat) : UF := fun e L => if e.cls = c then (match e.val with
  | some d => .ok d L
  | none => .no) else .no
def uNil : UA := fun _ L => .ok [] L
def uCons (f : UF) (g : UA) : UA := fun e L => (f e L).bind fun a L1 => (g e L1).bind fun b L2 => .ok (a :: b) L2
def uL (k : List D → LH → R D) (g : UA) : UF := fun e L => (g e L).bind k
def u2 (k : D → D → LH → R D) (f g : UF) : UF := fun e L => (f e L).bind fun a L1 => (g e L1).bind fun b L2 => k a b L2
section
variable {i : Option Nat} {a : Addr} {cls : Value} {d : Option Addr} {Y : Cx}
theorem u_c {c : D} {v : V} {e : Expr} (h : PE Y e (tC v)) (r : ∀ M H, Rep S.K M H c v) : PE Y e (tU S i a cls d (uC c)) := pe_imp h fun σ H Q ⟨_, L, M, _, _, hs, hp⟩ => hp H M To.refl hs v (r M H)
theorem u_str {x : Str} {j : Nat} {pos : Pos} : PE Y (.Constant (.str x) j pos) (tU S i a cls d (uC (.str x))) := u_c pe_str fun _ _ => rfl
theorem u_nil : PA Y [] (tUA S i a cls d uNil) := pa_imp pa_nil fun σ H Q ⟨_, L, M, _, _, hs, hp⟩ => hp H M To.refl hs [] rfl
theorem u_cons {e : Expr} {es : List Expr} {f : UF} {g : UA} (hf : PE Y e (tU S i a cls d f)) (hg : PA Y es (tUA S i a cls d g)) (h : ∀ {te t}, PE Y e te → PA Y es t → PA Y (e :: es) (tCons te t)) : PA Y (e :: es) (tUA S i a cls d (uCons f g)) := pa_imp (h hf hg) fun σ H Q => by
  rintro ⟨ex, L, M, hx, hi, hs, hp⟩
  refine ⟨ex, L, M, hx, hi, hs, PostG.seq hp fun c L1 M1 H1 x1 s1 q v ra => ⟨ex, L1, M1, hx.mono x1, hi, s1, PostG.seq q fun b L2 M2 H2 x2 s2 q2 y rb => ?_⟩⟩
  exact q2 H2 M2 To.refl s2 _ ⟨v, y, rfl, ra.mono x2, rb⟩
theorem u_tup {es : List Expr} {x1} {pos : Pos} {g : UA} (ha : PA Y es (tUA S i a cls d g)) : PE Y (.Tuple es x1 pos) (tU S i a cls d (uL kTup g)) := pe_imp (pe_tupF ha) fun σ H Q => by
  rintro ⟨ex, L, M, hx, hi, hs, hp⟩
  refine ⟨ex, L, M, hx, hi, hs, PostG.seq hp fun ds L1 M1 H1 x1 s1 q vs r => ?_⟩
  unfold kTup at q
  split at q
  · rename_i hf
    exact ⟨by rw [r.len]; exact fits_ok hf, fun p o hn ho => post_new q s1 hn _ (rep_tup_new s1 hn ho r)⟩
  · exact q.elim
theorem u_lst {es : List Expr} {pos : Pos} {g : UA} (ha : PA Y es (tUA S i a cls d g)) : PE Y (.List es pos) (tU S i a cls d (uL kLst g)) := pe_imp (pe_lst ha) fun σ H Q => by
  rintro ⟨ex, L, M, hx, hi, hs, hp⟩
  refine ⟨ex, L, M, hx, hi, hs, PostG.seq hp fun ds L1 M1 H1 x1 s1 q vs r => ?_⟩
  unfold kLst at q
  split at q
  · rename_i hf
    exact ⟨by rw [r.len]; exact fits_ok hf, fun p hn => post_new q s1 hn _ (rep_lst_new s1 hn r)⟩
  · exact q.elim
/-- a built-in function of such -/
theorem u_call {e : Expr} {es : List Expr} {g : UA} {k : List D → LH → R D} {r : List V → Hp → VK → Prop} (hk : DoesL S r k) (h : ∀ t, PA Y es t → PE Y e (tCB r t)) (ha : PA Y es (tUA S i a cls d g)) : PE Y e (tU S i a cls d (uL k g)) := pe_imp (h _ ha) fun σ H Q => by
  rintro ⟨ex, L, M, hx, hi, hs, hp⟩
  exact ⟨ex, L, M, hx, hi, hs, PostG.seq hp fun ds L1 M1 H1 x1 s1 q vs r => hk M1 H1 L1 ds vs Q _ s1 r q⟩
theorem u_op {b c : Expr} {op : Operator} {f g : UF} {k : D → D → LH → R D} {r : R2} {pos : Pos} (ho : OpR Y (binaryOp op) r) (hk : Does2 S r k) (hb : PE Y b (tU S i a cls d f)) (hc : PE Y c (tU S i a cls d g)) : PE Y (.BinOp b op c pos) (tU S i a cls d (u2 k f g)) := pe_imp (pe_op ho hb hc) fun σ H Q => by
  rintro ⟨ex, L, M, hx, hi, hs, hp⟩
  refine ⟨ex, L, M, hx, hi, hs, PostG.seq hp fun u L1 M1 H1 x1 s1 q v ra => ⟨ex, L1, M1, hx.mono x1, hi, s1, PostG.seq q fun b L2 M2 H2 x2 s2 q2 y rb => ?_⟩⟩
  exact hk M2 H2 L2 u b v y Q _ s2 (ra.mono x2) rb q2
/-- the exception's field -/
theorem u_fld_of {C : Addr} {c n : Nat} {f : Str} {e : Expr} {te : TE} {tf : TE → TE} (hf : efN c = f) (hct : S.ct c = some C) (h : PE Y e (tf te)) (hn : i = some n)
    (hv : ∀ σ H Q, σ[n]? = some (some (.ref a)) → Q (.ref a) H → te σ H Q)
    (ht : ∀ σ H Q, te σ H (fun x H1 => x = .ref a ∧ cls = .ref C ∧ ∃ (dd : Addr) (v : V), d = some dd ∧ H1 dd = some (.xd [(f, v)]) ∧ Q v H1) → tf te σ H Q) : PE Y e (tU S i a cls d (uFld c)) := pe_imp h fun σ H Q => by
  rintro ⟨ex, L, M, hx, hi, hs, hp⟩
  obtain ⟨C', h1, h2, h3⟩ := hx
  unfold uFld at hp
  by_cases hc : ex.cls = c
  · rw [if_pos hc] at hp
    rw [hc, hct] at h1
    cases h1
    cases ev : ex.val with
    | none => simp only [ev] at hp; exact hp.elim
    | some dv =>
      simp only [ev] at hp h3
      obtain ⟨b, v, q1, q2, q3, q4⟩ := h3
      rw [hc, hf] at q2
      exact ht σ H Q (hv σ H _ (hi n hn) ⟨rfl, h2, b, v, q1, q2, hp H M To.refl hs v q4⟩)
  · rw [if_neg hc] at hp; exact hp.elim
end
theorem var_now {n : Nat} {a : Addr} : ∀ (σ : L2.St) (H : Hp) (Q : VK), σ[n]? = some (some (.ref a)) → Q (.ref a) H → tVar n σ H Q := fun σ H Q e q => ⟨_, e, q⟩
section
variable {i : Option Nat} {n : Nat} {a : Addr} {cls : Value} {d : Option Addr} {oe : Obj} {pn : List (Addr × Obj)} {C fI : Addr} {e : Expr} {pos : Pos}
theorem u_fldR (T : ErrR.ErrTxt X.K X.mg C fI) (hct : S.ct 100 = some C) (hn : i = some n) (hz : Zc cls d oe) (hf : ∃ vs, oe.data = .fields vs) (he : PE (X.suite a ((a, oe) :: pn)) e (tVar n)) (hb : attributeBase e "reason" X.env (eval e X.env) = eval e X.env := by rfl) :
    PE (X.suite a ((a, oe) :: pn)) (.Attribute e "reason" pos) (tU S i a cls d (uFld 100)) := u_fld_of (te := tVar n) (tf := ErrR.tFld C a cls d) rfl hct (ErrR.pe_fld T hz hf he hb) hn var_now fun σ H Q h => h
theorem u_fldN (T : ErrN.ErrTxt X.K X.mg C fI) (hct : S.ct 101 = some C) (hn : i = some n) (hz : Zc cls d oe) (hf : ∃ vs, oe.data = .fields vs) (he : PE (X.suite a ((a, oe) :: pn)) e (tVar n)) (hb : attributeBase e "given" X.env (eval e X.env) = eval e X.env := by rfl) :
    PE (X.suite a ((a, oe) :: pn)) (.Attribute e "given" pos) (tU S i a cls d (uFld 101)) := u_fld_of (te := tVar n) (tf := ErrN.tFld C a cls d) rfl hct (ErrN.pe_fld T hz hf he hb) hn var_now fun σ H Q h => h
theorem u_fldM (T : ErrM.ErrTxt X.K X.mg C fI) (hct : S.ct 102 = some C) (hn : i = some n) (hz : Zc cls d oe) (hf : ∃ vs, oe.data = .fields vs) (he : PE (X.suite a ((a, oe) :: pn)) e (tVar n)) (hb : attributeBase e "most" X.env (eval e X.env) = eval e X.env := by rfl) :
    PE (X.suite a ((a, oe) :: pn)) (.Attribute e "most" pos) (tU S i a cls d (uFld 102)) := u_fld_of (te := tVar n) (tf := ErrM.tFld C a cls d) rfl hct (ErrM.pe_fld T hz hf he hb) hn var_now fun σ H Q h => h
end
end DL

set_option Elab.async false
set_option linter.all false
set_option maxRecDepth 100000
set_option maxHeartbeats 2000000
namespace DL
open PySem PySem.Spec PyProof.Rows L2
variable [Tbs] {S : Sg} {X : Cx} {W : L2.St → WH}
/-! ### except clauses: the first that names the exception's class -/
structure Cl where
  cls : Nat
  f : UF
def catchR (isA : Nat → Nat → Bool) : List Cl → Exn → LH → R D
  | [], _, _ => .no
  | c :: r, e, L => if isA e.cls c.cls = true then (match c.f e L with
    | .ok d L1 => .ok d L1
    | _ => .no) else catchR isA r e L
structure ClOk (S : Sg) (isA : Nat → Nat → Bool) (n : Nat) (c : Cl) (l : Clause) : Prop where
  is : ∀ m C, S.ct m = some C → PySem.W.exmOne S.K (.ref C) l.1 = some (isA m c.cls)
  ts : l.2.2 = fun a cls d => tRet (tU S l.2.1 a cls d c.f)
  ix : ∀ i, l.2.1 = some i → i < n
inductive ClsOk (S : Sg) (isA : Nat → Nat → Bool) (n : Nat) : List Cl → List Clause → Prop
  | nil : ClsOk S isA n [] []
  | cons {c : Cl} {l : Clause} {cs : List Cl} {ls : List Clause} : ClOk S isA n c l → ClsOk S isA n cs ls → ClsOk S isA n (c :: cs) (l :: ls)
theorem catch_ok {isA : Nat → Nat → Bool} {n : Nat} {Wout : WX} {D : Ends} {M : Mu} {H : Hp} {L : LH} {e : Exn} {cls : Value} {dd : Option Addr} {σ : L2.St} (hs : Sim S.K M H L) (hx : XR S.K S.ct M e cls dd H) (hn : σ.length = n) :
    ∀ {cs : List Cl} {ls : List Clause}, ClsOk S isA n cs ls → PostG S wNo M H (PV S D.rt) (catchR isA cs e L) → wAny S.K Wout D ls cls dd σ H := by
  intro cs ls ok
  induction ok with
  | nil => exact fun hp => hp.elim
  | @cons c l cs ls h1 h2 ih =>
    intro hp
    obtain ⟨C, e1, e2, _⟩ := id hx
    refine ⟨isA e.cls c.cls, by rw [e2]; exact h1.is e.cls C e1, fun hb a ha => ?_, fun hb => ?_⟩
    · unfold catchR at hp
      rw [if_pos hb] at hp
      have hp' : PostG S wNo M H (PV S D.rt) (c.f e L) := by
        revert hp
        cases c.f e L with
        | ok d L1 => exact fun h => h
        | exc ex L1 => exact fun h => h.elim
        | no => exact fun h => h
      obtain ⟨lc, li, lt⟩ := l
      have ht := h1.ts
      have hi := h1.ix
      simp only at ht hi
      subst ht
      cases li with
      | none => exact ⟨e, L, M, hx, fun j z => (nomatch z), hs, hp'⟩
      | some i =>
        refine ⟨e, L, M, hx, fun j z => ?_, hs, hp'⟩
        cases z
        rw [List.getElem?_set_self (by rw [hn]; exact hi i rfl)]
    · unfold catchR at hp
      rw [if_neg (by rw [hb]; exact Bool.false_ne_true)] at hp
      exact ih hp
theorem takes_len {Y : Cx} {w : WX} (t : Takes Y w) : Takes Y (fun cls d σ H => σ.length = Y.N.length → w cls d σ H) := fun u s' ⟨a, B, sI, pins, σ, H, cls, d, e, I, nb, up, sky, na, os, ag, h⟩ =>
  t u s' ⟨a, B, sI, pins, σ, H, cls, d, e, I, nb, up, sky, na, os, ag, h I.len⟩
/-! ### defs that call what they got in a try -/
/-- what is asked of the lambda's reading: kq: of its value -/
def TTry (K : PySem.W.Frag) (n : Nat) (ls : List Clause) (kq : VK → VK) : (XK → Hp → VK → Prop) → Hp → VK → Prop := fun tl H Q =>
  tl (fun cls d H' => ∀ σ' : L2.St, σ'.length = n → ∀ nx : L2.St → Hp → Prop, wAny K (fun _ _ _ _ => False) { nx := nx, rt := Q } ls cls d σ' H') H (kq Q)
section
variable {Ng : List Str} {x a q : Str} {sg : Scope} {g : Addr} {cdg : Value} {h₀ : ExceptHandler} {hds : List ExceptHandler} {ls : List Clause} {pos : Pos}
/-- the value told: (told, x()) -/
def kqTold (told : Str) : VK → VK := fun Q v H1 => [V.str told, v].length ≤ sizeLine ∧ ∀ p (o : Obj), H1 p = none → o.dict = none → Q (.ref p) (upd H1 p (.frz o (.tup [.str told, v])))
theorem gives_told {told : Str} {j : Nat} {cx : Nat} {p1 p2 p3 p4 p5 : Pos} (hN : Ng.Nodup) (h0 : ∀ f : Addr, (L2.start Ng [V.ref f])[0]? = some (some (V.ref f)))
    (hh : ∀ (s : Shared) (H : Hp), HdsX (cxOf C8.CX0 X.prog X.w X.K X.mg X.base Ng x sg g cdg X.A X.stack s H C8.E0).nox (h₀ :: hds) ls) :
    LamX.GivesTo X Ng x sg g cdg [.Try [.Return (some (.Tuple [.Constant (.str told) j p3, .Call (.Name a p1) [] [] p2] cx p4)) p5] (h₀ :: hds) [] [] pos] a q (TTry X.K Ng.length ls (kqTold told)) := by
  intro f c' s H Q tl act hc h
  refine ⟨_, pss_one (ps_try_any (X := (cxOf C8.CX0 X.prog X.w X.K X.mg X.base Ng x sg g cdg X.A X.stack s H C8.E0).nox) (Wout := fun _ _ _ _ => False)
      (tb := fun W D σ H => ∃ Ech : XK, (∀ cls d σ' H', Ech cls d H' → σ'.length = Ng.length → W cls d σ' H') ∧ σ[0]? = some (some (.ref f)) ∧ H c' = some (LamX.CodeO c' q) ∧ tl Ech H (kqTold told D.rt))
      rfl rfl hN LamX.takes0 (fun W pn xe tk _ => ?_) (hh s H)), ?_⟩
  · constructor
    intro pins s' σ H' D I h'
    obtain ⟨Ech, hW, h1, h2, h3⟩ := h'
    have hp := act _ pn xe Ech p1 p2 (takes_len tk) hW
    have hq := pss_one (ps_ret (pos := p5) (pe_tupF (pos := p4) (x1 := cx) (pa_cons (pe_str (x := told) (j := j) (pos := p3)) (pa_cons hp pa_nil))))
    exact hq.run pins s' σ H' D I ⟨h1, h2, h3⟩
  · exact ⟨fun cls d H' => ∀ σ' : L2.St, σ'.length = Ng.length → ∀ nx : L2.St → Hp → Prop, wAny X.K (fun _ _ _ _ => False) { nx := nx, rt := Q } ls cls d σ' H', fun cls d σ' H' z e => z σ' e _, h0 f, hc, h⟩
/-- x() alone, then return of words -/
def kqFine (r : Hp → VK → Prop) : VK → VK := fun Q _ H1 => r H1 Q
theorem gives_fine {p1 p2 p5 p6 : Pos} {ret : Expr} {r : Hp → VK → Prop} (hN : Ng.Nodup) (h0 : ∀ f : Addr, (L2.start Ng [V.ref f])[0]? = some (some (V.ref f)))
    (hh : ∀ (s : Shared) (H : Hp), HdsX (cxOf C8.CX0 X.prog X.w X.K X.mg X.base Ng x sg g cdg X.A X.stack s H C8.E0).nox (h₀ :: hds) ls)
    (hr : ∀ (s : Shared) (H : Hp), PE (cxOf C8.CX0 X.prog X.w X.K X.mg X.base Ng x sg g cdg X.A X.stack s H C8.E0).nox ret fun _ H Q => r H Q)
    (hsw : ∀ (s : Shared) (H : Hp), swapsWith (.Call (.Name a p1) [] [] p2) none p5.line (cxOf C8.CX0 X.prog X.w X.K X.mg X.base Ng x sg g cdg X.A X.stack s H C8.E0).env = pure false := by intros; rfl) :
    LamX.GivesTo X Ng x sg g cdg [.Try [.Expr (.Call (.Name a p1) [] [] p2) p5] (h₀ :: hds) [] [] pos, .Return (some ret) p6] a q (TTry X.K Ng.length ls (kqFine r)) := by
  intro f c' s H Q tl act hc h
  refine ⟨_, pss_cons (ps_try_any (X := (cxOf C8.CX0 X.prog X.w X.K X.mg X.base Ng x sg g cdg X.A X.stack s H C8.E0).nox) (Wout := fun _ _ _ _ => False)
      (tb := fun W D σ H => ∃ Ech : XK, (∀ cls d σ' H', Ech cls d H' → σ'.length = Ng.length → W cls d σ' H') ∧ σ[0]? = some (some (.ref f)) ∧ H c' = some (LamX.CodeO c' q) ∧ tl Ech H fun _ H1 => D.nx σ H1)
      rfl rfl hN LamX.takes0 (fun W pn xe tk _ => ?_) (hh s H)) (pss_one (ps_ret (hr s H))), ?_⟩
  · constructor
    intro pins s' σ H' D I h'
    obtain ⟨Ech, hW, h1, h2, h3⟩ := h'
    have hp := act _ pn xe Ech p1 p2 (takes_len tk) hW
    exact (pss_one (ps_expr (pos := p5) hp (hsw s H))).run pins s' σ H' D I ⟨h1, h2, h3⟩
  · exact ⟨fun cls d H' => ∀ σ' : L2.St, σ'.length = Ng.length → ∀ nx : L2.St → Hp → Prop, wAny X.K (fun _ _ _ _ => False) { nx := nx, rt := Q } ls cls d σ' H', fun cls d σ' H' z e => z σ' e _, h0 f, hc, h⟩
end
/-! ### x(lambda: body) -/
/-- what the def makes of the lambda's worth -/
def kMet (isA : Nat → Nat → Bool) (cs : List Cl) (k : D → LH → R D) : R D → R D
  | .ok d L => k d L
  | .exc e L => catchR isA cs e L
  | .no => .no
def kTold (told : Str) : D → LH → R D := fun d L => .ok (.tup [.str told, d]) L
def kFine (ws : List Str) : D → LH → R D := fun _ L => .ok (.tup (ws.map D.str)) L
def dMet (k : R D → R D) (fb : DE) : DE := fun env L => k (fb env L)
theorem ext_of {M : Mu} {H H1 : Hp} (e : LamX.ExtN H H1) (t : LamX.Tabs Tbs.T H1) : To M H M H1 :=
  ⟨fun b o _ h n => e b o h n, fun b ⟨o, h, n⟩ => ⟨o, e b o h n, n⟩, fun p hp _ => t p hp, To.refl.m, To.refl.x, fun b ob u h => e b _ h (fun _ z => nomatch z)⟩
theorem Sim.extN {K : PySem.W.Frag} {M : Mu} {H H1 : Hp} {L : LH} (s : Sim K M H L) (e : LamX.ExtN H H1) (t : LamX.Tabs Tbs.T H1) : Sim K M H1 L := by
  have x : To M H M H1 := ext_of e t
  refine ⟨s.len, s.nod, fun n a o e1 e2 => ?_, fun a ha => x.live a (s.xs a ha), t⟩
  obtain ⟨u, q, r⟩ := s.at_ n a o e1 e2
  exact ⟨u, e a _ q r.nt.1, r.mono x⟩
theorem catch_ne {isA : Nat → Nat → Bool} : ∀ (cs : List Cl) (e : Exn) (L : LH) (e' : Exn) (L' : LH), catchR isA cs e L ≠ .exc e' L'
  | [], _, _, _, _ => fun z => nomatch z
  | c :: r, e, L, e', L' => by
    unfold catchR
    split
    · cases c.f e L <;> exact fun z => nomatch z
    · exact catch_ne r e L e' L'
/-- the reading of such a call, from what it is worth -/
theorem met_reading {isA : Nat → Nat → Bool} {cs : List Cl} {ls : List Clause} {n : Nat} {k : D → LH → R D} {kq : VK → VK} {fb : DE} (hcs : ClsOk S isA n cs ls)
    (hk : ∀ (M : Mu) (H : Hp) (L : LH) (d : D) (v : V) (Q : VK) (w : WH), Sim S.K M H L → Rep S.K M H d v → PostG S w M H (PV S Q) (k d L) → kq Q v H)
    (σ : L2.St) (H : Hp) (Q : VK) (h : tD S W (dMet (kMet isA cs k) fb) σ H Q) :
    LamX.tLam Tbs.T (TTry S.K n ls kq) (fun E => tD S (fun _ => E) fb) σ H Q := by
  obtain ⟨env, L, M, he, hs, hp⟩ := h
  refine ⟨hs.tb, fun H1 eN t1 => ?_⟩
  have x1 : To M H M H1 := ext_of eN t1
  refine ⟨env, L, M, he.mono x1, hs.extN eN t1, ?_⟩
  have hp1 := PostG.ext x1 hp
  unfold dMet at hp1
  cases e : fb env L with
  | no => rw [e] at hp1; exact hp1.elim
  | ok d L1 =>
    rw [e] at hp1
    exact fun H2 M2 x2 s2 v rv => hk M2 H2 L1 d v Q _ s2 rv (PostG.ext x2 hp1)
  | exc ex L1 =>
    rw [e] at hp1
    intro cls dd H2 M2 x2 s2 xr σ' hn nx
    refine catch_ok s2 xr hn hcs ?_
    have hp2 : PostG S (W σ) M2 H2 (PV S Q) (catchR isA cs ex L1) := PostG.ext x2 hp1
    revert hp2
    cases hr : catchR isA cs ex L1 with
    | ok d L2 => exact fun h => h
    | exc e2 L2 => exact absurd hr (catch_ne _ _ _ _ _)
    | no => exact fun h => h
theorem told_ok {told : Str} (M : Mu) (H : Hp) (L : LH) (d : D) (v : V) (Q : VK) (w : WH) (hs : Sim S.K M H L) (r : Rep S.K M H d v) (hp : PostG S w M H (PV S Q) (kTold told d L)) : kqTold told Q v H :=
  ⟨by rw [sizeLine_eq]; exact (by decide : 2 ≤ 16777216), fun p o hn ho => hp _ _ (To.new hn) (hs.new hn) _ (rep_tup_new hs hn ho ⟨_, [v], rfl, rfl, v, [], rfl, r, rfl⟩)⟩
/-- the words at the end of a def that met nothing -/
def rWords (ws : List Str) : Hp → VK → Prop := fun H Q => ws.length ≤ sizeLine ∧ ∀ p (o : Obj), H p = none → o.dict = none → Q (.ref p) (upd H p (.frz o (.tup (ws.map V.str))))
theorem fine_ok {ws : List Str} (hl : ws.length ≤ 16777216) (M : Mu) (H : Hp) (L : LH) (d : D) (v : V) (Q : VK) (w : WH) (hs : Sim S.K M H L) (r : Rep S.K M H d v) (hp : PostG S w M H (PV S Q) (kFine ws d L)) : kqFine (rWords ws) Q v H := by
  have ra : ∀ ws : List Str, RepAll S.K M H (ws.map D.str) (ws.map V.str) := by
    intro ws
    induction ws with
    | nil => rfl
    | cons a l ih => exact ⟨_, _, rfl, rfl, ih⟩
  exact ⟨by rw [sizeLine_eq]; exact hl, fun p o hn ho => hp _ _ (To.new hn) (hs.new hn) _ (rep_tup_new hs hn ho (ra ws))⟩
end DL

set_option Elab.async false
set_option linter.all false
set_option maxRecDepth 100000
set_option maxHeartbeats 2000000
namespace DL
open PySem PySem.Spec PyProof.Rows L2
/-! ### a def that makes lambdas: its code object is known -/
structure FunC (K : PySem.W.Frag) (x qual : Str) (st : Stmt) (f : Addr) (fd : FuncData) (cdv : Value) : Prop where
  ex : ∃ (oc : Value) (od : Option Addr) (kV doc pm : Value) (an : Option Addr) (ctv : Value) (osl : Array (Option Value)),
    fd = PySem.W.fnOf x qual (defArgs st) (defBody st) (defScope st) .none kV doc pm an cdv ctv ∧ K.lookup f = some ⟨oc, od, .func fd, osl⟩ ∧ PySem.W.codeIn K cdv qual = true
  kp : PySem.W.keepIn K (.ref f) = true
section
variable {P : Program} {w : World} {K : PySem.W.Frag} {ct : Nat → Option Addr} {mg : Str → Option Value} {base : Heap} {x qual : Str} {st : Stmt} {f : Addr} {fd : FuncData} {cdv : Value} {N ps : List Str} {k n : Nat} {body : DS}
theorem FunC.fn (F : FunC K x qual st f fd cdv) : Fun K x qual st f fd := by
  obtain ⟨oc, od, kV, doc, pm, an, ctv, osl, h1, h2, h3⟩ := F.ex
  exact ⟨⟨oc, od, kV, doc, pm, an, cdv, ctv, osl, h1, h2, h3⟩, F.kp⟩
theorem fun_okGc [Tbs] (F : FunC K x qual st f fd cdv) (Sc : FnScope N ps (defScope st)) (hn : ps.length = n)
    (hbody : ∀ (A : Around) (outer : List Env) (s : Shared) (H : Hp) (E : XK), Room k (A.deeper (envOfC qual (defScope st) s.heap.objs.size f cdv)) → A.guards = some [] →
      PSs (cxOf (L2.CX P w) P w K mg base N qual (defScope st) f cdv A outer s H E) (defBody st) (tS ⟨K, ct⟩ (fun _ => E) body)) : FnG P w K mg base (k + 1) f fd ps (spD ⟨K, ct⟩ n (fnD N.length body)) := by
  obtain ⟨oc, od, kV, doc, pm, an, ctv, osl, rfl, lk, hcd⟩ := F.ex
  refine ⟨spD_len hn, fun A outer s H us vs Q E hg hr e0 hb hv h => ?_⟩
  exact LamX.run_ofS lk hcd Sc hr e0 hb hv (spD_len hn _ _ _ _ h) fun hr' => ⟨_, hbody A outer s H E hr' hg, fn_reading h⟩
end
/-- x(lambda: body), x a def that calls what it got in a try -/
theorem de_lam [Tbs] {S : Sg} {X : Cx} {W : L2.St → WH} {isA : Nat → Nat → Bool} {cs : List Cl} {ls : List Clause} {k : D → LH → R D} {kq : VK → VK} {fb : DE} {x a q : Str} {st : Stmt} {g c P : Addr} {j : Nat} {fd : FuncData} {Ng : List Str} {params : Arguments} {body : Expr} {scope : Scope} {p lpos pos : Pos}
    (hS : X.K = S.K) (hcs : ClsOk S isA Ng.length cs ls)
    (hk : ∀ (M : Mu) (H : Hp) (L : LH) (d : D) (v : V) (Q : VK) (w : WH), Sim S.K M H L → Rep S.K M H d v → PostG S w M H (PV S Q) (k d L) → kq Q v H)
    (F : Fun X.K x x st g fd) (gm : X.mg x = some (.ref g)) (hg : Gl X x) (hb : L2.Binds X.K fd [a] []) (Sg : FnScope Ng [a] (defScope st)) (hNg : Ng[0]? = some a) (hva : Vis (defScope st) a)
    (hG : ∀ cdv, LamX.GivesTo X Ng x (defScope st) g cdv (defBody st) a (X.env.qual ++ "<lambda>") (TTry X.K Ng.length ls kq))
    (TB : LamX.TabB X.base X.mg c P) (hcode : X.env.code = .ref c) (hq : X.env.qual ++ "<lambda>" = q) (hmT : (P, q) ∈ Tbs.T) (hu : ∀ p ∈ Tbs.T, p.1 = P → p.2 = q) (hr : Room (j + 2) X.A) (L : LamX.LamS X.env.scope scope) (hdef : defaultsOf params X.env = ([], []))
    (hbind : ∀ (q : Str) (cl : List (Str × Addr)) (pm cv ctv : Value), bindArgs (PySem.W.kla_fn "<lambda>" q params body scope cl pm cv ctv) ⟨[], []⟩ = pure [])
    (hbody : ∀ (A : Around) (outer : List Env) (s : Shared) (H : Hp) (E : XK) (f c' : Addr), Room j (A.deeper (LamX.lamEnv X scope s.heap.objs.size f c')) → PE (LamX.lamCx X A outer s H E scope f c') body (tD S (fun _ => E) fb))
    (hdb : (x == ("__debug__" : Str)) = false := by decide) (hd : (a == ("__debug__" : Str)) = false := by decide) (hcd : (a == ("__classdict__" : Str)) = false := by decide) :
    PE X (.Call (.Name x p) [.Lambda params body scope lpos] [] pos) (tD S W (dMet (kMet isA cs k) fb)) := by
  obtain ⟨oc, od, kV, doc, pm, an, cdv, ctv, osl, rfl, lk, hcg⟩ := F.ex
  subst hq
  refine pe_imp (LamX.pe_lamcall (T := Tbs.T) (TT := TTry X.K Ng.length ls kq) (t := fun E => tD S (fun _ => E) fb) hg gm F.kp lk hcg hb Sg hNg hva (hG cdv) TB hcode hmT hu hr L hdef hbind hbody hdb hd hcd) fun σ H Q h => ?_
  rw [hS]
  exact met_reading hcs hk σ H Q h
end DL

set_option Elab.async false
set_option linter.all false
set_option maxRecDepth 100000
set_option maxHeartbeats 2000000
namespace DL
open PySem PySem.Spec PyProof.Rows L2
/-! ### name = {k: v for ..} on one line, the name a local -/
theorem sw_trueD {kx vx : Expr} {gs : List Comprehension} {scope : Scope} {pos py : Pos} {y : Str} {l : Nat} {env : Env} (hk : env.scope.kind = .function) (hy : env.scope.names.lookup y = some .local) (hl : (py.line == pos.line) = true)
    (ha : (scope.names.any fun (n, k) => n == y && (k == .local || k == .cell)) = false) : swapsWith (.DictComp kx vx gs scope pos) (some (.Name y py)) l env = pure true := by
  have k1 : env.kindOf y = some .local := hy
  have k2 : env.blockKind = .function := by
    unfold Env.blockKind
    rw [hk]
    rfl
  unfold swapsWith
  simp only [k2, k1, ha, Expr.pos, hl]
  rfl
section
variable {X : Cx} {i : Nat} {y : Str} {py : Pos} {kx vx tg iter : Expr} {ifs : List Expr} {scope : Scope} {own : List (Str × Nat)} {pos spos : Pos} {wi : TI} {g : TG} {tt : TT} {tk tv : TE}
theorem ps_setDc (hc : X.calm = true) (hN : X.N.Nodup) (hy : X.N[i]? = some y) (hyl : X.env.scope.names.lookup y = some .local)
    (hsw : swapsWith (.DictComp kx vx [⟨tg, iter, ifs, 0⟩] scope pos) (some (.Name y py)) spos.line X.env = pure true) (hi : PI X tg iter wi) (ok : BlkOk X.N X.env.scope scope own)
    (hg : ∀ (s : Shared) (H : Hp) (C : Addr) (cl : List (Str × Addr)) (fp : List Addr), PG (X.blk s H scope (compEnvC scope cl C X.env) fp) tg g)
    (ht : ∀ (s : Shared) (H : Hp) (C : Addr) (cl : List (Str × Addr)) (fp : List Addr), PTs (X.blk s H scope (compEnvC scope cl C X.env) fp) ifs tt)
    (hk : ∀ (s : Shared) (H : Hp) (C : Addr) (cl : List (Str × Addr)) (fp : List Addr), PE (X.blk s H scope (compEnvC scope cl C X.env) fp) kx tk)
    (he : ∀ (s : Shared) (H : Hp) (C : Addr) (cl : List (Str × Addr)) (fp : List Addr), PE (X.blk s H scope (compEnvC scope cl C X.env) fp) vx tv) (hs : ∀ x, foldedSetIterable iter X.env x = pure x := by intro _; rfl) :
    PS X (.Assign [.Name y py] (.DictComp kx vx [⟨tg, iter, ifs, 0⟩] scope pos) spos) (tAsg (tDc wi g tt tk tv (own.map (·.2))) (gName i)) := by
  constructor
  intro pins s σ H D I h
  rw [exec_Assign_Name_used _ _ _ _ hsw]
  apply wpAny_bind
  apply wpAny_standAt
  apply wpAny_bind
  have h' : tDc wi g tt tk tv (own.map (·.2)) σ H (fun x H1 => gName i x σ H1 D.nx) := h
  have core := dc_core (pos := pos) (pos' := firstIterPos [⟨tg, iter, ifs, 0⟩] pos) (use := some (assign (.Name y py) X.env)) (Qf := fun _ s' => SP X pins D .next s') hc hN I hi ok hg ht hk he hs h' fun L C s' m H' I' q hn f => by
    show wpAny _ _ (assign (.Name y py) X.env (.ref L)) _ _ _
    apply wpAny_assign_Name
    refine store_ok2 (v := V.ref L) I' hN hy (.inl hyl) rfl (fun s2 I2 z => ?_) (.inr hyl)
    obtain ⟨a, sb, ha⟩ := z
    obtain ⟨f0, f1, f2, f3, f4, f5⟩ := f
    have apart : C ≠ a := by
      rcases ha with z | z
      · rw [z]
        exact f1
      · exact fun e => f4 y a z e.symm
    exact ⟨m, hn.sameBut sb apart, fun h3 sb3 => ⟨_, H', I2.turned (t' := s2.toks) (fun b o hb e => (sb3.2 b hb).trans e) f0 f1 f3 f4 f5, q⟩⟩
  exact wpAny_bind (thn core fun _ s' hq => wpAny_pure (wpAny_pure hq))
end
variable [Tbs] {S : Sg} {X : Cx} {W : L2.St → WH}
theorem s_setDc {st : Stmt} {i : Nat} {f : DI} {k : DG} {vs : List Nat} {t : DT} {ke e : DE} {g : TG} (h : PS X st (tAsg (tDc (tI S W f) g (tT S WF t) (tD S WF ke) (tD S WF e) vs) (gName i))) (hg : DoesGV S vs g k) : PS X st (tS S W (sSet i (dDc f k vs t ke e))) := ps_imp h fun E σ H => by
  rintro ⟨env, L, M, he, hs, hp⟩
  refine dc_imp hg σ H _ ⟨env, L, M, he, hs, PostS.expr he hp fun d L1 M1 H1 x1 s1 q v r => ?_⟩
  exact q _ H1 M1 To.refl s1 ((he.mono x1).set r)
end DL

set_option Elab.async false
set_option linter.all false
set_option maxRecDepth 100000
set_option maxHeartbeats 2000000
namespace DL
open PySem PySem.Spec PyProof.Rows L2
/-! ### any(xs) of a list of ints -/
theorem vals_at {is : List Int} {us : List Value} (r : Vals (is.map V.int) us) (i : Nat) (v : Value) (h : us[i]? = some v) : ∃ z t, is[i]? = some z ∧ v = Value.int z t := by
  induction is generalizing us i with
  | nil => cases r; simp at h
  | cons z is ih =>
    cases r with
    | cons r rs =>
      obtain ⟨t, e⟩ := r
      cases i with
      | zero =>
        have e2 := Option.some.inj h
        exact ⟨z, t, rfl, e2.symm.trans e⟩
      | succ i => exact ih rs i h
theorem truth_ints {prog : Program} {w : World} {A : Around} {is : List Int} {us : List Value} (r : Vals (is.map V.int) us) : TruthOf prog w A (fun i v => us.toArray[i]? = some v) (fun i => (is.map fun z => z != 0).getD i false) := fun i v s Q E hv hq => by
  obtain ⟨z, t, e, rfl⟩ := vals_at r i v (by simpa using hv)
  have hg : (is.map fun z => z != 0).getD i false = (z != 0) := by
    rw [List.getD_eq_getElem?_getD, List.getElem?_map, e]
    rfl
  have hq' : Q ((is.map fun z => z != 0).getD i false) s := hq
  rw [hg] at hq'
  exact PySem.P.truthy_int hq'
def rAnyI (K : PySem.W.Frag) : List V → Hp → VK → Prop := fun vs H Q => ∃ (a : Addr) (is : List Int), vs = [V.ref a] ∧ SqL K H a (is.map V.int) ∧ Q (.bl (is.any fun z => z != 0)) H
theorem cr_anyI {X : Cx} (hc : X.calm = true) : CallR X (.builtin "any") (rAnyI X.K) := by
  intro pins s σ H vs us Q I r h
  obtain ⟨a, is, rfl, hs, q⟩ := h
  obtain ⟨its, rv, hl, _⟩ := I.list hs
  rw [Vals.ref1 r]
  apply call_any_walk
  apply iter_any hl.isList
  intro s₂ e2 st hne
  subst e2
  refine ⟨_, _, _, _, _, _, _, rfl, Walks.list (A := X.A.in1) (I.ok.hd hc) _ a hne its.toArray, st, truth_ints rv, fun h' tk hk => ⟨.bl _, H, I.kept fun b o eo => hk b o (fun hm => ?_) (Heap.get?_push_of_some _ eo), ?_, q⟩⟩
  · rcases List.mem_cons.mp hm with e1 | hm
    · have := Heap.lt_size eo
      rw [e1] at this
      exact Nat.lt_irrefl _ this
    · cases hm
  · have e := any_range (is.map fun z => z != 0)
    rw [List.any_map] at e
    have hl2 : its.length = is.length := by have := rv.length; simpa using this.symm
    show Value.bool _ = Value.bool _
    have e3 : (is.any fun z => z != 0) = is.any (id ∘ fun z => z != 0) := rfl
    rw [e3, ← e, List.size_toArray, hl2, List.length_map]
def fAnyI (xs : List D) : Option D := (intsD xs).map fun is => .bl (is.any fun z => z != 0)
def fAny2 (xs : List D) : Option D := match blsD xs with
  | some bs => some (.bl (bs.any id))
  | none => fAnyI xs
def rAny2 (K : PySem.W.Frag) : List V → Hp → VK → Prop := fun vs H Q => rAny K vs H Q ∨ rAnyI K vs H Q
theorem cr_any2 {X : Cx} (hc : X.calm = true) : CallR X (.builtin "any") (rAny2 X.K) := fun pins s σ H vs us Q I r h => h.elim (cr_any hc pins s σ H vs us Q I r) (cr_anyI hc pins s σ H vs us Q I r)
variable [Tbs] {S : Sg}
theorem does_any2 : DoesL S (rAny2 S.K) (kList fAny2) := by
  intro M H L a x Q w hs ra hp
  obtain ⟨p, vs, xs, d, rfl, h, q, ef, fin⟩ := kList_ok hs ra hp
  unfold fAny2 at ef
  cases eb : blsD xs with
  | some bs =>
    rw [eb] at ef
    cases ef
    have e := blsD_ok eb
    subst e
    have ev := q.bls
    subst ev
    exact .inl ⟨p, bs, rfl, h, fin _ rfl⟩
  | none =>
    rw [eb] at ef
    simp only [fAnyI] at ef
    cases ei : intsD xs with
    | none => rw [ei] at ef; cases ef
    | some is =>
      rw [ei] at ef
      cases ef
      have e := intsD_ok ei
      subst e
      have ev := q.ints
      subst ev
      exact .inr ⟨p, is, rfl, h, fin _ rfl⟩
end DL

set_option Elab.async false
set_option linter.all false
set_option maxRecDepth 100000
set_option maxHeartbeats 1000000
namespace DL
open PySem PySem.Spec L2
variable [Tbs]
variable {S : Sg} {X : Cx} {W : L2.St → WH}
/-! ### name = {.. for k in d if ..}, d a dict that is a value: locked meanwhile -/
def dDcK (i : Nat) (k : DG) (vs : List Nat) (t : DT) (ke e : DE) : DE := fun env L => noX (dDc (iDicK i) k vs t ke e env L)
theorem walkD_imp {i : Nat} {k : DG} {vs : List Nat} {t : DT} {ke e : DE} {g : TG} (hg : DoesGV S vs g k) {σ : L2.St} {H : Hp} {Q : VK} {env : DEnv} {L : LH} {M : Mu} {a : Addr} {o : Obj} {ks : List (Key × D)} {kvs : List (Key × V)}
    (he : EnvR S.K M H env σ) (hs : Sim S.K M H L) (hi : env[i]? = some (some (.dic ks))) (hσ : σ[i]? = some (some (.ref a))) (ha : H a = some (.frz o (.dK kvs))) (n : a ∉ M.m) (r : RepKV S.K M H ks kvs)
    (hp : PostG S (W σ) M H (PV S Q) (dDc (iDicK i) k vs t ke e env L)) : tDc (iKeys (tVar i)) g (tT S WF t) (tD S WF ke) (tD S WF e) vs σ H Q := by
  have hl := dc_imp (W := W) (f := iDicK i) (t := t) (ke := ke) (e := e) hg σ H Q ⟨env, L, M, he, hs, hp⟩
  obtain ⟨env', L', M', he', hs', hp'⟩ := hl
  unfold iDicK at hp'
  split at hp'
  · rename_i ks' e'
    obtain ⟨v, e1, b, kvs', rfl, hb, nb, _, r'⟩ := he'.2 i _ e'
    rw [hσ] at e1
    have hba : a = b := by injection e1 with e1; injection e1 with e1; injection e1
    subst hba
    have hk : kvs' = kvs := by
      rcases hb with hb | ⟨o', hb⟩
      · rw [ha] at hb; cases hb
      · rw [ha] at hb; cases hb; rfl
    subst hk
    have q := hp' H M' To.refl hs' _ _ _ (iter_keysD ha nb r')
    exact ⟨_, hσ, a, o, rfl, .inl ⟨kvs', ha, q⟩⟩
  · exact hp'.elim
theorem s_setDcK {st : Stmt} {i j : Nat} {k : DG} {vs : List Nat} {t : DT} {ke e : DE} {g : TG} (h : PS X st (tAsg (tDc (iKeys (tVar i)) g (tT S WF t) (tD S WF ke) (tD S WF e) vs) (gName j))) (hg : DoesGV S vs g k) : PS X st (tS S W (sSet j (dDcK i k vs t ke e))) := by
  have h2 := ps_lock h
  constructor
  intro pins s σ H E I hq
  obtain ⟨env, L, M, he, hs, hp⟩ := hq
  have hp0 : PostG S (W σ) M H (PV S fun v H' => E.nx (σ.set j (some v)) H') (noX (dDc (iDicK i) k vs t ke e env L)) := PostS.expr he hp fun d L1 M1 H1 x1 s1 q v r => q _ H1 M1 To.refl s1 ((he.mono x1).set r)
  cases hi : env[i]? with
  | none =>
    have : dDc (iDicK i) k vs t ke e env L = .no := by unfold dDc iDicK; rw [hi]; rfl
    rw [this] at hp0; exact hp0.elim
  | some od =>
    cases od with
    | none =>
      have : dDc (iDicK i) k vs t ke e env L = .no := by unfold dDc iDicK; rw [hi]; rfl
      rw [this] at hp0; exact hp0.elim
    | some d =>
      cases d with
      | dic ks =>
        obtain ⟨v, hσ, a, kvs, rfl, hr, n, n2, r⟩ := he.2 i _ hi
        rcases hr with ha | ⟨o, ha⟩
        · refine h2.run pins s σ H E I ⟨a, .dK kvs, ha, trivial, fun od => ?_⟩
          have c := cell_lock (M := M) (.inl ⟨_, rfl⟩) ha n od
          exact walkD_imp (W := W) hg (he.cell c) (hs.cell c) hi hσ upd_same n (RepKV.cell c ks kvs r) (postG_free (.inl ⟨_, rfl⟩) ha n hp0)
        · exact h.run pins s σ H E I (walkD_imp (W := W) hg he hs hi hσ ha n r (postG_noX hp0))
      | _ =>
        have : dDc (iDicK i) k vs t ke e env L = .no := by unfold dDc iDicK; rw [hi]; rfl
        rw [this] at hp0; exact hp0.elim
end DL

set_option Elab.async false
set_option linter.all false
set_option maxRecDepth 100000
set_option maxHeartbeats 1000000
namespace DL
open PySem PySem.Spec L2 PyProof.Rows
variable [Tbs]
/-! x is True, x is False, for any x -/
def rIsV : R2 := fun x y H Q => ∃ b, y = .bl b ∧ Q (.bl (decide (x = .bl b))) H
theorem op_isV {X : Cx} : OpR X (compareOp .Is) rIsV := by
  intro pins s σ H x y v u Q I rx ry h
  obtain ⟨b, rfl, q⟩ := h
  cases (show u = Value.bool b from ry)
  cases x with
  | bl a =>
    cases (show v = Value.bool a from rx)
    by_cases e : a = b
    · subst e
      exact wpAny_is_self rfl ⟨.bl true, H, I, rfl, by simpa using q⟩
    · exact wpAny_is_other rfl (fun z => e (Value.bool.inj z)) ⟨.bl false, H, I, rfl, by simpa [e] using q⟩
  | non => cases (show v = Value.none from rx); exact wpAny_is_other rfl (fun z => nomatch z) ⟨.bl false, H, I, rfl, by simpa using q⟩
  | ref a => cases (show v = Value.ref a from rx); exact wpAny_is_other rfl (fun z => nomatch z) ⟨.bl false, H, I, rfl, by simpa using q⟩
  | ty a => cases (show v = Value.type a from rx); exact wpAny_is_other rfl (fun z => nomatch z) ⟨.bl false, H, I, rfl, by simpa using q⟩
  | int i => obtain ⟨t, rfl⟩ := rx; exact wpAny_is_other rfl (fun z => nomatch z) ⟨.bl false, H, I, rfl, by simpa using q⟩
  | str i => obtain ⟨t, rfl⟩ := rx; exact wpAny_is_other rfl (fun z => nomatch z) ⟨.bl false, H, I, rfl, by simpa using q⟩
  | byt i => obtain ⟨t, rfl⟩ := rx; exact wpAny_is_other rfl (fun z => nomatch z) ⟨.bl false, H, I, rfl, by simpa using q⟩
  | flt i => obtain ⟨t, rfl⟩ := rx; exact wpAny_is_other rfl (fun z => nomatch z) ⟨.bl false, H, I, rfl, by simpa using q⟩
def kIsB : D → D → LH → R D := fun a b L => match b with
  | .bl c => (match a with
    | .bl x => .ok (.bl (x == c)) L
    | .obj _ => .no
    | _ => .ok (.bl false) L)
  | _ => .no
theorem rep_bl {S : Sg} {M : Mu} {H : Hp} {a : D} {x : V} (ra : Rep S.K M H a x) (h : ∀ b, a ≠ .bl b) (ho : ∀ w, a ≠ .obj w) (c : Bool) : x ≠ .bl c := by
  cases a with
  | non => have r : x = .non := ra; rw [r]; exact fun z => nomatch z
  | bl b => exact absurd rfl (h b)
  | int b => have r : x = .int b := ra; rw [r]; exact fun z => nomatch z
  | str b => have r : x = .str b := ra; rw [r]; exact fun z => nomatch z
  | tup ds => obtain ⟨a, vs, e, _⟩ := ra; rw [e]; exact fun z => nomatch z
  | lst ds => obtain ⟨a, vs, e, _⟩ := ra; rw [e]; exact fun z => nomatch z
  | frl ds => obtain ⟨a, vs, e, _⟩ := ra; rw [e]; exact fun z => nomatch z
  | dic ds => obtain ⟨a, vs, e, _⟩ := ra; rw [e]; exact fun z => nomatch z
  | tdc ds => obtain ⟨a, vs, e, _⟩ := ra; rw [e]; exact fun z => nomatch z
  | ref n => obtain ⟨a, e, _⟩ := ra; rw [e]; exact fun z => nomatch z
  | obj w => exact absurd rfl (ho w)
  | glo n => obtain ⟨a, _, e⟩ := ra; rw [e]; exact fun z => nomatch z
theorem does_isB {S : Sg} : Does2 S rIsV kIsB := by
  intro M H L a b x y Q w hs ra rb hp
  unfold kIsB at hp
  split at hp
  · rename_i c
    refine ⟨c, rb, ?_⟩
    split at hp
    · rename_i z
      have r : x = .bl z := ra
      subst r
      have : decide (V.bl z = V.bl c) = (z == c) := by cases z <;> cases c <;> rfl
      rw [this]
      exact hp H M To.refl hs _ rfl
    · exact hp.elim
    · rename_i h1 h2
      rw [decide_eq_false (rep_bl ra h1 h2 c)]
      exact hp H M To.refl hs _ rfl
  · exact hp.elim
end DL

set_option Elab.async false
set_option linter.all false
set_option maxRecDepth 100000
set_option maxHeartbeats 1000000
namespace DL
open PySem PySem.Spec L2
variable [Tbs]
/-! ### how the functions reckon -/
section
variable {α β : Type} {env : DEnv} {L L1 : LH}
@[simp] theorem bind_ok (a : α) (k : α → LH → R β) : (R.ok a L).bind k = k a L := rfl
@[simp] theorem toS_ok (a : α) (k : α → LH → SR) : (R.ok a L).toS env k = k a L := rfl
@[simp] theorem ev_c (d : D) : dC d env L = .ok d L := rfl
@[simp] theorem ev_var (i : Nat) (d : D) (h : env[i]? = some (some d)) : dVar i env L = .ok d L := by unfold dVar; rw [h]
@[simp] theorem ev_v0 (d : D) (r : DEnv) : dVar 0 (some d :: r) L = .ok d L := rfl
@[simp] theorem ev_vs (i : Nat) (o : Option D) (r : DEnv) : dVar (i + 1) (o :: r) L = dVar i r L := rfl
@[simp] theorem ev_d2 (k : D → D → LH → R D) (f g : DE) : d2 k f g env L = (f env L).bind fun a L1 => (g env L1).bind fun b L2 => k a b L2 := rfl
@[simp] theorem ev_d1 (k : D → LH → R D) (f : DE) : d1 k f env L = (f env L).bind k := rfl
@[simp] theorem ev_dL (k : List D → LH → R D) (g : DA) : dL k g env L = (g env L).bind k := rfl
@[simp] theorem ev_nil : daNil env L = .ok [] L := rfl
@[simp] theorem ev_cons (f : DE) (g : DA) : daCons f g env L = (f env L).bind fun a L1 => (g env L1).bind fun b L2 => .ok (a :: b) L2 := rfl
@[simp] theorem ev_call (n : Nat) (F : List D → LH → R D) (g : DA) : dCall n F g env L = (g env L).bind fun ds L1 => if ds.length = n then F ds L1 else .no := rfl
@[simp] theorem ev_ret (f : DE) : sRet f env L = (f env L).toS env fun d L1 => .rt d L1 := rfl
@[simp] theorem ev_set (i : Nat) (f : DE) : sSet i f env L = (f env L).toS env fun d L1 => .nx (env.set i (some d)) L1 := rfl
@[simp] theorem ev_expr (f : DE) : sExpr f env L = (f env L).toS env fun _ L1 => .nx env L1 := rfl
@[simp] theorem ev_if (t : DT) (f g : DS) : sIf t f g env L = (t env L).toS env fun b L1 => if b = true then f env L1 else g env L1 := rfl
@[simp] theorem ev_next : sNext env L = .nx env L := rfl
@[simp] theorem ev_for (f : DI) (k : DG) (b : DS) : sFor f k b env L = (f env L).toS env fun items L1 => forD k b items env L1 := rfl
@[simp] theorem ev_while (n : Nat) (t : DT) (b : DS) : sWhile n t b env L = whileD t b n env L := rfl
@[simp] theorem ev_seqN (f g : DS) {env1 : DEnv} (h : f env L = .nx env1 L1) : sSeq f g env L = g env1 L1 := by unfold sSeq; rw [h]
theorem seq_nx (f g : DS) {env1 : DEnv} (h : f env L = .nx env1 L1) : sSeq f g env L = g env1 L1 := by unfold sSeq; rw [h]
theorem seq_rt (f g : DS) {d : D} (h : f env L = .rt d L1) : sSeq f g env L = .rt d L1 := by unfold sSeq; rw [h]
@[simp] theorem ev_and (f g : DT) : dAnd f g env L = (f env L).bind fun b L1 => if b = true then g env L1 else .ok false L1 := rfl
@[simp] theorem ev_or (f g : DT) : dOr f g env L = (f env L).bind fun b L1 => if b = true then .ok true L1 else g env L1 := rfl
@[simp] theorem ev_not (f : DT) : dNot f env L = (f env L).bind fun b L1 => .ok (!b) L1 := rfl
@[simp] theorem ev_dB (f : DE) : dB f env L = (f env L).bind fun d L1 => match d with
  | .bl b => .ok b L1
  | _ => .no := rfl
@[simp] theorem ev_dIf (t : DT) (f g : DE) : dIf t f g env L = (t env L).bind fun b L1 => if b = true then f env L1 else g env L1 := rfl
@[simp] theorem ev_truth (f : DE) : dTruth f env L = (f env L).bind fun d L1 => match truD L1 d with
  | some b => .ok b L1
  | none => .no := rfl
@[simp] theorem ev_yes : dYes env L = .ok true L := rfl
@[simp] theorem k_lt (i j : Int) : kLt (.int i) (.int j) L = .ok (.bl (decide (i < j))) L := rfl
@[simp] theorem k_le (i j : Int) : kLe (.int i) (.int j) L = .ok (.bl (decide (i ≤ j))) L := rfl
@[simp] theorem k_gt (i j : Int) : kGt (.int i) (.int j) L = .ok (.bl (decide (j < i))) L := rfl
@[simp] theorem k_ge (i j : Int) : kGe (.int i) (.int j) L = .ok (.bl (decide (j ≤ i))) L := rfl
@[simp] theorem k_plusI (i j : Int) : kPlus (.int i) (.int j) L = .ok (.int (i + j)) L := rfl
@[simp] theorem k_sub (i j : Int) : kSub (.int i) (.int j) L = .ok (.int (i - j)) L := rfl
@[simp] theorem k_times (i j : Int) (h : mulOk i j = true) : kTimes (.int i) (.int j) L = .ok (.int (i * j)) L := by unfold kTimes; simp [h]
@[simp] theorem k_mod (i j : Int) (h : 0 < j) : kMod (.int i) (.int j) L = .ok (.int (i % j)) L := by unfold kMod k2I; simp [h, orNo]
theorem eq_int (i j : Int) : kEq (.int i) (.int j) L = R.ok (D.bl (i == j)) L := by
  unfold kEq eqD
  show (match (if SeqAt.shaped (.int i) && SeqAt.shaped (.int j) then some (PyData.eqv (.int i) (.int j)) else none) with | some r => R.ok (D.bl r) L | none => .no) = _
  have h : ∀ k : Int, SeqAt.shaped (.int k) = true := fun k => by rfl
  rw [h, h]
  rfl
end
end DL

set_option Elab.async false
set_option linter.all false
set_option maxRecDepth 100000
set_option maxHeartbeats 4000000
namespace Law
open PySem PySem.Spec L2 DL
open PyProof.Rows (envOfC)
variable [Tbs]
def top (i : Nat) : Stmt := PySem.Challenge.pw_tablerings_k04_whole_polynomials_reckone.main.body.getD i (.Pass ⟨0, 0, 0, 0⟩)
def mth (i j : Nat) : Stmt := match top i with
  | .ClassDef _ _ _ body _ _ _ _ _ _ _ => body.getD j (.Pass ⟨0, 0, 0, 0⟩)
  | s => s
/-- a def of the text as it stands -/
structure DefAt (K : PySem.W.Frag) (mg : Str → Option Value) (base : Heap) (ct : Nat → Option Addr) (x : Str) (k n : Nat) (ps : List Str) (F : List D → LH → R D) where
  f : Addr
  fd : FuncData
  gm : mg x = some (.ref f)
  kp : PySem.W.keepIn K (.ref f) = true
  b : Binds K fd ps []
  G : FnOk Tbs.P Tbs.w K mg base (L2.CX Tbs.P Tbs.w) k f fd ps (spD ⟨K, ct⟩ n F)
structure DefAtF (K : PySem.W.Frag) (mg : Str → Option Value) (base : Heap) (ct : Nat → Option Addr) (x : Str) (k n : Nat) (ps : List Str) (F : List D → LH → R (List D)) where
  f : Addr
  fd : FuncData
  gm : mg x = some (.ref f)
  kp : PySem.W.keepIn K (.ref f) = true
  b : Binds K fd ps []
  G : FnOk Tbs.P Tbs.w K mg base (L2.CX Tbs.P Tbs.w) k f fd ps (spF ⟨K, ct⟩ n F)
structure MetAt (K : PySem.W.Frag) (mg : Str → Option Value) (base : Heap) (ct : Nat → Option Addr) (C : Addr) (x : Str) (k n : Nat) (ps : List Str) (F : List D → LH → R D) where
  f : Addr
  fd : FuncData
  hm : Meth K C x f
  b : Binds K fd ps []
  G : FnOk Tbs.P Tbs.w K mg base (L2.CX Tbs.P Tbs.w) k f fd ps (spD ⟨K, ct⟩ n F)
structure NewAt (K : PySem.W.Frag) (mg : Str → Option Value) (base : Heap) (ct : Nat → Option Addr) (C : Addr) (k n : Nat) (ps : List Str) (F : List D → LH → R D) where
  f : Addr
  fd : FuncData
  mkn : Mk K C f
  b : Binds K fd ps []
  G : FnOk Tbs.P Tbs.w K mg base (L2.CX Tbs.P Tbs.w) k f fd ps (spD ⟨K, ct⟩ n F)
structure DefAtG (K : PySem.W.Frag) (mg : Str → Option Value) (base : Heap) (ct : Nat → Option Addr) (x : Str) (k n : Nat) (ps : List Str) (F : List D → LH → R D) where
  f : Addr
  fd : FuncData
  gm : mg x = some (.ref f)
  kp : PySem.W.keepIn K (.ref f) = true
  b : Binds K fd ps []
  G : FnG Tbs.P Tbs.w K mg base k f fd ps (spD ⟨K, ct⟩ n F)
structure LamAt (K : PySem.W.Frag) (mg : Str → Option Value) (x : Str) (st : Stmt) (par : Str) where
  f : Addr
  fd : FuncData
  gm : mg x = some (.ref f)
  b : Binds K fd [par] []
  F : Fun K x x st f fd
structure MkAt (K : PySem.W.Frag) (mg : Str → Option Value) (base : Heap) (x : Str) (st : Stmt) (f : Addr) (fd : FuncData) (q : Str) (c P : Addr) : Prop where
  F : FunC K x x st f fd (.ref c)
  tb : LamX.TabB base mg c P
  mem : (P, q) ∈ Tbs.T
  uni : ∀ p ∈ Tbs.T, p.1 = P → p.2 = q
def isA_ (m n : Nat) : Bool := Nat.beq m n
structure Txt (K : PySem.W.Frag) (mg : Str → Option Value) (ct : Nat → Option Addr) : Prop where
  e_Refused : ∃ C fI, ErrR.ErrTxt K mg C fI ∧ ct 100 = some C
  x_is : ∀ m n C D, ct m = some C → ct n = some D → PySem.W.exmOne K (.ref C) (.ref D) = some (isA_ m n)
  b_abs : mg "abs" = none
  b_bool : mg "bool" = none
  b_enumerate : mg "enumerate" = none
  b_int : mg "int" = none
  b_isinstance : mg "isinstance" = none
  b_len : mg "len" = none
  b_list : mg "list" = none
  b_max : mg "max" = none
  b_min : mg "min" = none
  b_range : mg "range" = none
  b_reversed : mg "reversed" = none
  b_tuple : mg "tuple" = none
  b_zip : mg "zip" = none
  c_MAX_DEGREE : ∃ t, mg "MAX_DEGREE" = some (.int 12 t)
  c_PRIMES : ∃ a, mg "PRIMES" = some (.ref a) ∧ KTup K a [2, 3, 5, 7]
section
variable {K : PySem.W.Frag} {mg : Str → Option Value} {base : Heap} {ct : Nat → Option Addr}
/-! zero_row -/
abbrev s_zero_row : Stmt := top 1
def m_zero_row : List D → LH → R D := fnD 1 (sRet (d2 kTimes (dL kTup (daCons (dC (.int 0)) daNil)) (dVar 0)))
theorem sc_zero_row : FnScope ["width"] ["width"] (defScope s_zero_row) := ⟨rfl, rfl, rfl, by decide +kernel, rfl, by decide +kernel, by decide +kernel⟩
theorem ok_zero_row {f : Addr} {fd : FuncData} (F : Fun K "zero_row" "zero_row" s_zero_row f fd) (T : Txt K mg ct) : FnOk Tbs.P Tbs.w K mg base (L2.CX Tbs.P Tbs.w) 1 f fd ["width"] (spD ⟨K, ct⟩ 1 m_zero_row) :=
  fun_okD F sc_zero_row rfl fun cdv A outer s H E hr => by
    have nd := sc_zero_row.nd
    have tk : Takes (cxOf (L2.CX Tbs.P Tbs.w) Tbs.P Tbs.w K mg base ["width"] "zero_row" (defScope s_zero_row) f cdv A outer s H E) (wishOf fun _ => E) := takes_of rfl rfl rfl rfl
    exact (ss_one (s_ret (de_op op_times does_times (de_tup (da_cons de_int da_nil (fun hg hf => pa_cons hf hg))) (de_var (pv 0)))))
/-! row_sum -/
abbrev s_row_sum : Stmt := top 2
def m_row_sum : List D → LH → R D := fnD 5 (sRet (dL kTupleOf (daCons (dLc (iZip2 (daCons (dVar 1) (daCons (dVar 2) daNil))) (gSet2 3 4) [3, 4] dYes (d2 kMod (d2 kPlus (dVar 3) (dVar 4)) (dVar 0))) daNil)))
theorem sc_row_sum : FnScope ["prime", "one", "other", "a", "b"] ["prime", "one", "other"] (defScope s_row_sum) := ⟨rfl, rfl, rfl, by decide +kernel, rfl, by decide +kernel, by decide +kernel⟩
theorem ok_row_sum {f : Addr} {fd : FuncData} (F : Fun K "row_sum" "row_sum" s_row_sum f fd) (T : Txt K mg ct) : FnOk Tbs.P Tbs.w K mg base (L2.CX Tbs.P Tbs.w) 1 f fd ["prime", "one", "other"] (spD ⟨K, ct⟩ 3 m_row_sum) :=
  fun_okD F sc_row_sum rfl fun cdv A outer s H E hr => by
    have nd := sc_row_sum.nd
    have tk : Takes (cxOf (L2.CX Tbs.P Tbs.w) Tbs.P Tbs.w K mg base ["prime", "one", "other", "a", "b"] "row_sum" (defScope s_row_sum) f cdv A outer s H E) (wishOf fun _ => E) := takes_of rfl rfl rfl rfl
    exact (ss_one (s_ret (de_callB (fun t ht => pe_callTy call_tupF (by rfl) T.b_tuple PyProof.Rows.boot_tuple ht) does_tupleOf (da_cons (de_lc (pe_lc (by rfl) nd (di_zip (by rfl) (fun t ht => pi_zipB (by rfl) T.b_zip ht) (da_cons (de_var (pv 1)) (da_cons (de_var (pv 2)) da_nil (fun hg hf => pa_cons hf hg)) (fun hg hf => pa_cons hf hg))) (blkOk_by (own := [("a", 3), ("b", 4)]) (by first | decide +kernel | kernel_rfl)) (fun _ _ _ _ _ => (pg_tup (by rfl) (pgs_cons (pg_name (i := 3) nd (by rfl) (by first | exact Or.inl rfl | exact Or.inr rfl)) (pgs_cons (pg_name (i := 4) nd (by rfl) (by first | exact Or.inl rfl | exact Or.inr rfl)) pgs_nil)))) (fun _ _ _ _ _ => dts_nil) (fun _ _ _ _ _ => (de_op op_mod does_mod (de_op op_plus does_plus (de_var (pv 3)) (de_var (pv 4))) (de_var (pv 0))))) (doesv_gTup2 (by rfl) (by decide) (by decide))) da_nil (fun hg hf => pa_cons hf hg)))))
/-! row_less -/
abbrev s_row_less : Stmt := top 3
def m_row_less : List D → LH → R D := fnD 5 (sRet (dL kTupleOf (daCons (dLc (iZip2 (daCons (dVar 1) (daCons (dVar 2) daNil))) (gSet2 3 4) [3, 4] dYes (d2 kMod (d2 kSub (dVar 3) (dVar 4)) (dVar 0))) daNil)))
theorem sc_row_less : FnScope ["prime", "one", "other", "a", "b"] ["prime", "one", "other"] (defScope s_row_less) := ⟨rfl, rfl, rfl, by decide +kernel, rfl, by decide +kernel, by decide +kernel⟩
theorem ok_row_less {f : Addr} {fd : FuncData} (F : Fun K "row_less" "row_less" s_row_less f fd) (T : Txt K mg ct) : FnOk Tbs.P Tbs.w K mg base (L2.CX Tbs.P Tbs.w) 1 f fd ["prime", "one", "other"] (spD ⟨K, ct⟩ 3 m_row_less) :=
  fun_okD F sc_row_less rfl fun cdv A outer s H E hr => by
    have nd := sc_row_less.nd
    have tk : Takes (cxOf (L2.CX Tbs.P Tbs.w) Tbs.P Tbs.w K mg base ["prime", "one", "other", "a", "b"] "row_less" (defScope s_row_less) f cdv A outer s H E) (wishOf fun _ => E) := takes_of rfl rfl rfl rfl
    exact (ss_one (s_ret (de_callB (fun t ht => pe_callTy call_tupF (by rfl) T.b_tuple PyProof.Rows.boot_tuple ht) does_tupleOf (da_cons (de_lc (pe_lc (by rfl) nd (di_zip (by rfl) (fun t ht => pi_zipB (by rfl) T.b_zip ht) (da_cons (de_var (pv 1)) (da_cons (de_var (pv 2)) da_nil (fun hg hf => pa_cons hf hg)) (fun hg hf => pa_cons hf hg))) (blkOk_by (own := [("a", 3), ("b", 4)]) (by first | decide +kernel | kernel_rfl)) (fun _ _ _ _ _ => (pg_tup (by rfl) (pgs_cons (pg_name (i := 3) nd (by rfl) (by first | exact Or.inl rfl | exact Or.inr rfl)) (pgs_cons (pg_name (i := 4) nd (by rfl) (by first | exact Or.inl rfl | exact Or.inr rfl)) pgs_nil)))) (fun _ _ _ _ _ => dts_nil) (fun _ _ _ _ _ => (de_op op_mod does_mod (de_op op_sub does_sub (de_var (pv 3)) (de_var (pv 4))) (de_var (pv 0))))) (doesv_gTup2 (by rfl) (by decide) (by decide))) da_nil (fun hg hf => pa_cons hf hg)))))
/-! row_times -/
abbrev s_row_times : Stmt := top 4
def m_row_times : List D → LH → R D := fnD 4 (sRet (dL kTupleOf (daCons (dLc (iVal (dVar 2)) (gSet 3) [3] dYes (d2 kMod (d2 kTimes (dVar 1) (dVar 3)) (dVar 0))) daNil)))
theorem sc_row_times : FnScope ["prime", "number", "row", "a"] ["prime", "number", "row"] (defScope s_row_times) := ⟨rfl, rfl, rfl, by decide +kernel, rfl, by decide +kernel, by decide +kernel⟩
theorem ok_row_times {f : Addr} {fd : FuncData} (F : Fun K "row_times" "row_times" s_row_times f fd) (T : Txt K mg ct) : FnOk Tbs.P Tbs.w K mg base (L2.CX Tbs.P Tbs.w) 1 f fd ["prime", "number", "row"] (spD ⟨K, ct⟩ 3 m_row_times) :=
  fun_okD F sc_row_times rfl fun cdv A outer s H E hr => by
    have nd := sc_row_times.nd
    have tk : Takes (cxOf (L2.CX Tbs.P Tbs.w) Tbs.P Tbs.w K mg base ["prime", "number", "row", "a"] "row_times" (defScope s_row_times) f cdv A outer s H E) (wishOf fun _ => E) := takes_of rfl rfl rfl rfl
    exact (ss_one (s_ret (de_callB (fun t ht => pe_callTy call_tupF (by rfl) T.b_tuple PyProof.Rows.boot_tuple ht) does_tupleOf (da_cons (de_lc (pe_lc (by rfl) nd (di_seq (by rfl) (de_var (pv 2))) (blkOk_by (own := [("a", 3)]) (by first | decide +kernel | kernel_rfl)) (fun _ _ _ _ _ => (pg_name (i := 3) nd (by rfl) (by first | exact Or.inl rfl | exact Or.inr rfl))) (fun _ _ _ _ _ => dts_nil) (fun _ _ _ _ _ => (de_op op_mod does_mod (de_op op_times does_times (de_var (pv 1)) (de_var (pv 3))) (de_var (pv 0))))) (doesv_gName (by decide))) da_nil (fun hg hf => pa_cons hf hg)))))
/-! combined -/
abbrev s_combined : Stmt := top 5
def m_combined : List D → LH → R D := fnD 9 (sSeq (sSet 4 (d2 kTimes (dL kLst (daCons (dC (.int 0)) daNil)) (dVar 1))) (sSeq (sFor (iZip2 (daCons (dVar 2) (daCons (dVar 3) daNil))) (gSet2 5 6) (sIf (dTruth (dVar 5)) (sSet 4 (dLc (iZip2 (daCons (dVar 4) (daCons (dVar 6) daNil))) (gSet2 7 8) [7, 8] dYes (d2 kPlus (dVar 7) (d2 kTimes (dVar 5) (dVar 8))))) sNext)) (sRet (dL kTupleOf (daCons (dLc (iVal (dVar 4)) (gSet 7) [7] dYes (d2 kMod (dVar 7) (dVar 0))) daNil)))))
theorem sc_combined : FnScope ["prime", "width", "numbers", "rows", "total", "number", "row", "a", "b"] ["prime", "width", "numbers", "rows"] (defScope s_combined) := ⟨rfl, rfl, rfl, by decide +kernel, rfl, by decide +kernel, by decide +kernel⟩
theorem ok_combined {f : Addr} {fd : FuncData} (F : Fun K "combined" "combined" s_combined f fd) (T : Txt K mg ct) : FnOk Tbs.P Tbs.w K mg base (L2.CX Tbs.P Tbs.w) 1 f fd ["prime", "width", "numbers", "rows"] (spD ⟨K, ct⟩ 4 m_combined) :=
  fun_okD F sc_combined rfl fun cdv A outer s H E hr => by
    have nd := sc_combined.nd
    have tk : Takes (cxOf (L2.CX Tbs.P Tbs.w) Tbs.P Tbs.w K mg base ["prime", "width", "numbers", "rows", "total", "number", "row", "a", "b"] "combined" (defScope s_combined) f cdv A outer s H E) (wishOf fun _ => E) := takes_of rfl rfl rfl rfl
    exact (ss_cons (s_set (fun te ht => ps_set (i := 4) nd (by rfl) (by first | exact Or.inl rfl | exact Or.inr rfl) ht) (de_op op_times does_times (de_lst (da_cons de_int da_nil (fun hg hf => pa_cons hf hg))) (de_var (pv 1)))) (ss_cons (s_for (fun wi tb hi hb => ps_for (passes_of (by rfl)) (by rfl) hi (pg_tup (by rfl) (pgs_cons (pg_name (i := 5) nd (by rfl) (by first | exact Or.inl rfl | exact Or.inr rfl)) (pgs_cons (pg_name (i := 6) nd (by rfl) (by first | exact Or.inl rfl | exact Or.inr rfl)) pgs_nil))) hb) (di_zip (by rfl) (fun t ht => pi_zipB (by rfl) T.b_zip ht) (da_cons (de_var (pv 2)) (da_cons (de_var (pv 3)) da_nil (fun hg hf => pa_cons hf hg)) (fun hg hf => pa_cons hf hg))) (does_gTup2 (by rfl)) (ss_one (s_if (dt_truth (by rfl) (de_var (pv 5))) (ss_one (s_setLc (ps_setLc (i := 4) (by rfl) nd (by rfl) (by rfl) (sw_true (by rfl) (by rfl) (by rfl) (by decide +kernel)) (di_zip (by rfl) (fun t ht => pi_zipB (by rfl) T.b_zip ht) (da_cons (de_var (pv 4)) (da_cons (de_var (pv 6)) da_nil (fun hg hf => pa_cons hf hg)) (fun hg hf => pa_cons hf hg))) (blkOk_by (own := [("a", 7), ("b", 8)]) (by first | decide +kernel | kernel_rfl)) (fun _ _ _ _ _ => (pg_tup (by rfl) (pgs_cons (pg_name (i := 7) nd (by rfl) (by first | exact Or.inl rfl | exact Or.inr rfl)) (pgs_cons (pg_name (i := 8) nd (by rfl) (by first | exact Or.inl rfl | exact Or.inr rfl)) pgs_nil)))) (fun _ _ _ _ _ => dts_nil) (fun _ _ _ _ _ => (de_op op_plus does_plus (de_var (pv 7)) (de_op op_times does_times (de_var (pv 5)) (de_var (pv 8)))))) (doesv_gTup2 (by rfl) (by decide) (by decide)))) ss_nil))) (ss_one (s_ret (de_callB (fun t ht => pe_callTy call_tupF (by rfl) T.b_tuple PyProof.Rows.boot_tuple ht) does_tupleOf (da_cons (de_lc (pe_lc (by rfl) nd (di_seq (by rfl) (de_var (pv 4))) (blkOk_by (own := [("a", 7)]) (by first | decide +kernel | kernel_rfl)) (fun _ _ _ _ _ => (pg_name (i := 7) nd (by rfl) (by first | exact Or.inl rfl | exact Or.inr rfl))) (fun _ _ _ _ _ => dts_nil) (fun _ _ _ _ _ => (de_op op_mod does_mod (de_var (pv 7)) (de_var (pv 0))))) (doesv_gName (by decide))) da_nil (fun hg hf => pa_cons hf hg)))))))
/-! is_integer -/
abbrev s_is_integer : Stmt := top 13
def m_is_integer : List D → LH → R D := fnD 1 (sRet (deAnd (dL kIsi (daCons (dVar 0) (daCons (dC (.obj (.ty "int"))) daNil))) (deNot (dL kIsi (daCons (dVar 0) (daCons (dC (.obj (.ty "bool"))) daNil))))))
theorem sc_is_integer : FnScope ["value"] ["value"] (defScope s_is_integer) := ⟨rfl, rfl, rfl, by decide +kernel, rfl, by decide +kernel, by decide +kernel⟩
theorem ok_is_integer {f : Addr} {fd : FuncData} (F : Fun K "is_integer" "is_integer" s_is_integer f fd) (T : Txt K mg ct) : FnOk Tbs.P Tbs.w K mg base (L2.CX Tbs.P Tbs.w) 1 f fd ["value"] (spD ⟨K, ct⟩ 1 m_is_integer) :=
  fun_okD F sc_is_integer rfl fun cdv A outer s H E hr => by
    have nd := sc_is_integer.nd
    have tk : Takes (cxOf (L2.CX Tbs.P Tbs.w) Tbs.P Tbs.w K mg base ["value"] "is_integer" (defScope s_is_integer) f cdv A outer s H E) (wishOf fun _ => E) := takes_of rfl rfl rfl rfl
    exact (ss_one (s_ret (de_and (by rfl) (de_callB (fun t ht => pe_callB call_isi (by rfl) T.b_isinstance PyProof.Rows.boot_isinstance ht) does_isi (da_cons (de_var (pv 0)) (da_cons (de_ty (pe_bltn (by rfl) T.b_int PyProof.Rows.boot_int rfl)) da_nil (fun hg hf => pa_cons hf hg)) (fun hg hf => pa_cons hf hg))) (pe_one (de_not (by rfl) (de_callB (fun t ht => pe_callB call_isi (by rfl) T.b_isinstance PyProof.Rows.boot_isinstance ht) does_isi (da_cons (de_var (pv 0)) (da_cons (de_ty (pe_bltn (by rfl) T.b_bool PyProof.Rows.boot_bool rfl)) da_nil (fun hg hf => pa_cons hf hg)) (fun hg hf => pa_cons hf hg))))))))
/-! is_row -/
abbrev s_is_row : Stmt := top 14
def m_is_row : List D → LH → R D := fnD 4 (sSeq (sIf (dOr (dNot (dTruth (dL kIsi (daCons (dVar 2) (daCons (dC (.obj (.ty "tuple"))) daNil))))) (dB (d2 kNe (dL kLen (daCons (dVar 2) daNil)) (dVar 1)))) (sRet (dC (.bl false))) sNext) (sSeq (sFor (iVal (dVar 2)) (gSet 3) (sIf (dOr (dNot (dTruth (dL kIsi (daCons (dVar 3) (daCons (dC (.obj (.ty "int"))) daNil))))) (dOr (dB (d2 kIsB (dVar 3) (dC (.bl true)))) (dOr (dB (d2 kIsB (dVar 3) (dC (.bl false)))) (dNot (dB (dChain kLe kLt (dC (.int 0)) (dVar 3) (dVar 0))))))) (sRet (dC (.bl false))) sNext)) (sRet (dC (.bl true)))))
theorem sc_is_row : FnScope ["prime", "width", "value", "number"] ["prime", "width", "value"] (defScope s_is_row) := ⟨rfl, rfl, rfl, by decide +kernel, rfl, by decide +kernel, by decide +kernel⟩
theorem ok_is_row {f : Addr} {fd : FuncData} (F : Fun K "is_row" "is_row" s_is_row f fd) (T : Txt K mg ct) : FnOk Tbs.P Tbs.w K mg base (L2.CX Tbs.P Tbs.w) 1 f fd ["prime", "width", "value"] (spD ⟨K, ct⟩ 3 m_is_row) :=
  fun_okD F sc_is_row rfl fun cdv A outer s H E hr => by
    have nd := sc_is_row.nd
    have tk : Takes (cxOf (L2.CX Tbs.P Tbs.w) Tbs.P Tbs.w K mg base ["prime", "width", "value", "number"] "is_row" (defScope s_is_row) f cdv A outer s H E) (wishOf fun _ => E) := takes_of rfl rfl rfl rfl
    exact (ss_cons (s_if (L2.PW.pt (dt_or (dt_not (dt_truth (by rfl) (de_callB (fun t ht => pe_callB call_isi (by rfl) T.b_isinstance PyProof.Rows.boot_isinstance ht) does_isi (da_cons (de_var (pv 2)) (da_cons (de_ty (pe_bltn (by rfl) T.b_tuple PyProof.Rows.boot_tuple rfl)) da_nil (fun hg hf => pa_cons hf hg)) (fun hg hf => pa_cons hf hg))))) (pw_or1 (dt_cmp (op_neD (hu64 hr)) does_ne (de_callB (fun t ht => pe_callB call_len (by rfl) T.b_len PySem.boot_len ht) does_len (da_cons (de_var (pv 2)) da_nil (fun hg hf => pa_cons hf hg))) (de_var (pv 1)) (nomark _))))) (ss_one (s_ret de_bl)) ss_nil) (ss_cons (s_for (fun wi tb hi hb => ps_for (passes_of (by rfl)) (by rfl) hi (pg_name (i := 3) nd (by rfl) (by first | exact Or.inl rfl | exact Or.inr rfl)) hb) (di_seq (by rfl) (de_var (pv 2))) does_gName (ss_one (s_if (L2.PW.pt (dt_or (dt_not (dt_truth (by rfl) (de_callB (fun t ht => pe_callB call_isi (by rfl) T.b_isinstance PyProof.Rows.boot_isinstance ht) does_isi (da_cons (de_var (pv 3)) (da_cons (de_ty (pe_bltn (by rfl) T.b_int PyProof.Rows.boot_int rfl)) da_nil (fun hg hf => pa_cons hf hg)) (fun hg hf => pa_cons hf hg))))) (dt_or (dt_cmp op_isV does_isB (de_var (pv 3)) de_bl (nomark _)) (dt_or (dt_cmp op_isV does_isB (de_var (pv 3)) de_bl (nomark _)) (pw_or1 (dt_not (dt_chain op_le op_lt does_le does_lt de_int (de_var (pv 3)) (de_var (pv 0))))))))) (ss_one (s_ret de_bl)) ss_nil))) (ss_one (s_ret de_bl))))
/-! check_prime -/
abbrev s_check_prime : Stmt := top 15
def m_check_prime : List D → LH → R D := fnD 1 (sIf (dOr (dNot (dTruth (dCall 1 m_is_integer (daCons (dVar 0) daNil)))) (dB (d2 (kIn true) (dVar 0) (dC (.tup (([2, 3, 5, 7] : List Int).map D.int)))))) sNever sNext)
theorem sc_check_prime : FnScope ["prime"] ["prime"] (defScope s_check_prime) := ⟨rfl, rfl, rfl, by decide +kernel, rfl, by decide +kernel, by decide +kernel⟩
theorem ok_check_prime {f : Addr} {fd : FuncData} (F : Fun K "check_prime" "check_prime" s_check_prime f fd) (T : Txt K mg ct) (c_is_integer : DefAt K mg base ct "is_integer" 1 1 ["value"] m_is_integer) : FnOk Tbs.P Tbs.w K mg base (L2.CX Tbs.P Tbs.w) 2 f fd ["prime"] (spD ⟨K, ct⟩ 1 m_check_prime) :=
  fun_okD F sc_check_prime rfl fun cdv A outer s H E hr => by
    have nd := sc_check_prime.nd
    have tk : Takes (cxOf (L2.CX Tbs.P Tbs.w) Tbs.P Tbs.w K mg base ["prime"] "check_prime" (defScope s_check_prime) f cdv A outer s H E) (wishOf fun _ => E) := takes_of rfl rfl rfl rfl
    exact (ss_one (s_if (L2.PW.pt (dt_or (dt_not (dt_truth (by rfl) (de_call (fun t ht => pe_callS c_is_integer.G (hr.mono (by decide)) (by rfl) c_is_integer.gm c_is_integer.kp c_is_integer.b (fun σ => passAt tk σ) ht) (da_cons (de_var (pv 0)) da_nil (fun hg hf => pa_cons hf hg))))) (pw_or1 (dt_cmp op_notIn_seq does_in (de_var (pv 0)) (de_gTup (is := [2, 3, 5, 7]) (by rfl) (by rfl) T.c_PRIMES.choose_spec.1 T.c_PRIMES.choose_spec.2) (by rfl))))) (ss_one (s_never ps_never)) ss_nil))
/-! undone_number -/
abbrev s_undone_number : Stmt := top 17
def m_undone_number : List D → LH → R D := fnD 3 (sRet (d2 kIx (dLc (iRange2 (daCons (dC (.int 1)) (daCons (dVar 0) daNil))) (gSet 2) [2] (dB (d2 kEq (d2 kMod (d2 kTimes (dVar 1) (dVar 2)) (dVar 0)) (dC (.int 1)))) (dVar 2)) (dC (.int 0))))
theorem sc_undone_number : FnScope ["prime", "number", "other"] ["prime", "number"] (defScope s_undone_number) := ⟨rfl, rfl, rfl, by decide +kernel, rfl, by decide +kernel, by decide +kernel⟩
theorem ok_undone_number {f : Addr} {fd : FuncData} (F : Fun K "undone_number" "undone_number" s_undone_number f fd) (T : Txt K mg ct) : FnOk Tbs.P Tbs.w K mg base (L2.CX Tbs.P Tbs.w) 1 f fd ["prime", "number"] (spD ⟨K, ct⟩ 2 m_undone_number) :=
  fun_okD F sc_undone_number rfl fun cdv A outer s H E hr => by
    have nd := sc_undone_number.nd
    have tk : Takes (cxOf (L2.CX Tbs.P Tbs.w) Tbs.P Tbs.w K mg base ["prime", "number", "other"] "undone_number" (defScope s_undone_number) f cdv A outer s H E) (wishOf fun _ => E) := takes_of rfl rfl rfl rfl
    exact (ss_one (s_ret (de_ix (by rfl) (de_lc (pe_lc (by rfl) nd (di_range2 (fun t ht => pi_range2 (by rfl) T.b_range ht) (da_cons de_int (da_cons (de_var (pv 0)) da_nil (fun hg hf => pa_cons hf hg)) (fun hg hf => pa_cons hf hg))) (blkOk_by (own := [("other", 2)]) (by first | decide +kernel | kernel_rfl)) (fun _ _ _ _ _ => (pg_name (i := 2) nd (by rfl) (by first | exact Or.inl rfl | exact Or.inr rfl))) (fun _ _ _ _ _ => (dts_one (dt_cmp (op_eqD (hu64 hr)) does_eq (de_op op_mod does_mod (de_op op_times does_times (de_var (pv 1)) (de_var (pv 2))) (de_var (pv 0))) de_int (nomark _)))) (fun _ _ _ _ _ => (de_var (pv 2)))) (doesv_gName (by decide))) de_int (fun _ _ => rfl))))
/-! is_some_poly -/
abbrev s_is_some_poly : Stmt := top 19
def m_is_some_poly : List D → LH → R D := fnD 3 (sSeq (sIf (dOr (dNot (dTruth (dL kIsi (daCons (dVar 1) (daCons (dC (.obj (.ty "tuple"))) daNil))))) (dB (d2 kGt (dL kLen (daCons (dVar 1) daNil)) (d2 kPlus (dVar 2) (dC (.int 1)))))) (sRet (dC (.bl false))) sNext) (sRet (deAnd (dCall 3 m_is_row (daCons (dVar 0) (daCons (dL kLen (daCons (dVar 1) daNil)) (daCons (dVar 1) daNil)))) (deOr (d2 kEq (dVar 1) (dL kTup daNil)) (d2 kNe (d2 kIx (dVar 1) (d1 kNeg (dC (.int 1)))) (dC (.int 0)))))))
theorem sc_is_some_poly : FnScope ["prime", "value", "most"] ["prime", "value", "most"] (defScope s_is_some_poly) := ⟨rfl, rfl, rfl, by decide +kernel, rfl, by decide +kernel, by decide +kernel⟩
theorem ok_is_some_poly {f : Addr} {fd : FuncData} (F : Fun K "is_some_poly" "is_some_poly" s_is_some_poly f fd) (T : Txt K mg ct) (c_is_row : DefAt K mg base ct "is_row" 1 3 ["prime", "width", "value"] m_is_row) : FnOk Tbs.P Tbs.w K mg base (L2.CX Tbs.P Tbs.w) 2 f fd ["prime", "value", "most"] (spD ⟨K, ct⟩ 3 m_is_some_poly) :=
  fun_okD F sc_is_some_poly rfl fun cdv A outer s H E hr => by
    have nd := sc_is_some_poly.nd
    have tk : Takes (cxOf (L2.CX Tbs.P Tbs.w) Tbs.P Tbs.w K mg base ["prime", "value", "most"] "is_some_poly" (defScope s_is_some_poly) f cdv A outer s H E) (wishOf fun _ => E) := takes_of rfl rfl rfl rfl
    exact (ss_cons (s_if (L2.PW.pt (dt_or (dt_not (dt_truth (by rfl) (de_callB (fun t ht => pe_callB call_isi (by rfl) T.b_isinstance PyProof.Rows.boot_isinstance ht) does_isi (da_cons (de_var (pv 1)) (da_cons (de_ty (pe_bltn (by rfl) T.b_tuple PyProof.Rows.boot_tuple rfl)) da_nil (fun hg hf => pa_cons hf hg)) (fun hg hf => pa_cons hf hg))))) (pw_or1 (dt_cmp op_gt does_gt (de_callB (fun t ht => pe_callB call_len (by rfl) T.b_len PySem.boot_len ht) does_len (da_cons (de_var (pv 1)) da_nil (fun hg hf => pa_cons hf hg))) (de_op op_plus does_plus (de_var (pv 2)) de_int) (nomark _))))) (ss_one (s_ret de_bl)) ss_nil) (ss_one (s_ret (de_and (by rfl) (de_call (fun t ht => pe_callS c_is_row.G (hr.mono (by decide)) (by rfl) c_is_row.gm c_is_row.kp c_is_row.b (fun σ => passAt tk σ) ht) (da_cons (de_var (pv 0)) (da_cons (de_callB (fun t ht => pe_callB call_len (by rfl) T.b_len PySem.boot_len ht) does_len (da_cons (de_var (pv 1)) da_nil (fun hg hf => pa_cons hf hg))) (da_cons (de_var (pv 1)) da_nil (fun hg hf => pa_cons hf hg)) (fun hg hf => pa_cons hf hg)) (fun hg hf => pa_cons hf hg))) (pe_one (de_or (by rfl) (de_cmp (op_eqD (hu64 hr)) does_eq (de_var (pv 1)) (de_tup da_nil) (nomark _)) (pe_one (de_cmp (op_neD (hu64 hr)) does_ne (de_ix (by rfl) (de_var (pv 1)) (de_neg de_int) (fun _ _ => rfl)) de_int (nomark _)))))))))
/-! trimmed -/
abbrev s_trimmed : Stmt := top 20
def m_trimmed : List D → LH → R D := fnD 2 (sSeq (sSet 1 (dL kLen (daCons (dVar 0) daNil))) (sSeq (sWhile 100000 (dAnd (dTruth (dVar 1)) (dB (d2 kEq (d2 kIx (dVar 0) (d2 kSub (dVar 1) (dC (.int 1)))) (dC (.int 0))))) (sSet 1 (d2 kSub (dVar 1) (dC (.int 1))))) (sRet (dL kTupleOf (daCons (dSlice (dVar 0) doNone (doSome (dVar 1))) daNil)))))
theorem sc_trimmed : FnScope ["row", "length"] ["row"] (defScope s_trimmed) := ⟨rfl, rfl, rfl, by decide +kernel, rfl, by decide +kernel, by decide +kernel⟩
theorem ok_trimmed {f : Addr} {fd : FuncData} (F : Fun K "trimmed" "trimmed" s_trimmed f fd) (T : Txt K mg ct) : FnOk Tbs.P Tbs.w K mg base (L2.CX Tbs.P Tbs.w) 1 f fd ["row"] (spD ⟨K, ct⟩ 1 m_trimmed) :=
  fun_okD F sc_trimmed rfl fun cdv A outer s H E hr => by
    have nd := sc_trimmed.nd
    have tk : Takes (cxOf (L2.CX Tbs.P Tbs.w) Tbs.P Tbs.w K mg base ["row", "length"] "trimmed" (defScope s_trimmed) f cdv A outer s H E) (wishOf fun _ => E) := takes_of rfl rfl rfl rfl
    exact (ss_cons (s_set (fun te ht => ps_set (i := 1) nd (by rfl) (by first | exact Or.inl rfl | exact Or.inr rfl) ht) (de_callB (fun t ht => pe_callB call_len (by rfl) T.b_len PySem.boot_len ht) does_len (da_cons (de_var (pv 0)) da_nil (fun hg hf => pa_cons hf hg)))) (ss_cons (s_while 100000 (fun tc tb hc hb => ps_while (passes_of (by rfl)) hc hb) (L2.PW.pt (dt_and (dt_truth (by rfl) (de_var (pv 1))) (pw_and1 (dt_cmp (op_eqD (hu64 hr)) does_eq (de_ix (by rfl) (de_var (pv 0)) (de_op op_sub does_sub (de_var (pv 1)) de_int) (fun _ _ => rfl)) de_int (nomark _))))) (ss_one (s_set (fun te ht => ps_set (i := 1) nd (by rfl) (by first | exact Or.inl rfl | exact Or.inr rfl) ht) (de_op op_sub does_sub (de_var (pv 1)) de_int)))) (ss_one (s_ret (de_callB (fun t ht => pe_callTy call_tupF (by rfl) T.b_tuple PyProof.Rows.boot_tuple ht) does_tupleOf (da_cons (de_slice (by rfl) (de_var (pv 0)) do_none (do_some (de_var (pv 1)))) da_nil (fun hg hf => pa_cons hf hg)))))))
/-! widened -/
abbrev s_widened : Stmt := top 21
def m_widened : List D → LH → R D := fnD 2 (sRet (d2 kPlus (dVar 0) (dCall 1 m_zero_row (daCons (d2 kSub (dVar 1) (dL kLen (daCons (dVar 0) daNil))) daNil))))
theorem sc_widened : FnScope ["poly", "width"] ["poly", "width"] (defScope s_widened) := ⟨rfl, rfl, rfl, by decide +kernel, rfl, by decide +kernel, by decide +kernel⟩
theorem ok_widened {f : Addr} {fd : FuncData} (F : Fun K "widened" "widened" s_widened f fd) (T : Txt K mg ct) (c_zero_row : DefAt K mg base ct "zero_row" 1 1 ["width"] m_zero_row) : FnOk Tbs.P Tbs.w K mg base (L2.CX Tbs.P Tbs.w) 2 f fd ["poly", "width"] (spD ⟨K, ct⟩ 2 m_widened) :=
  fun_okD F sc_widened rfl fun cdv A outer s H E hr => by
    have nd := sc_widened.nd
    have tk : Takes (cxOf (L2.CX Tbs.P Tbs.w) Tbs.P Tbs.w K mg base ["poly", "width"] "widened" (defScope s_widened) f cdv A outer s H E) (wishOf fun _ => E) := takes_of rfl rfl rfl rfl
    exact (ss_one (s_ret (de_op op_plus does_plus (de_var (pv 0)) (de_call (fun t ht => pe_callS c_zero_row.G (hr.mono (by decide)) (by rfl) c_zero_row.gm c_zero_row.kp c_zero_row.b (fun σ => passAt tk σ) ht) (da_cons (de_op op_sub does_sub (de_var (pv 1)) (de_callB (fun t ht => pe_callB call_len (by rfl) T.b_len PySem.boot_len ht) does_len (da_cons (de_var (pv 0)) da_nil (fun hg hf => pa_cons hf hg)))) da_nil (fun hg hf => pa_cons hf hg))))))
/-! sum_of_polys -/
abbrev s_sum_of_polys : Stmt := top 22
def m_sum_of_polys : List D → LH → R D := fnD 4 (sSeq (sSet 3 (dL (kI2 fun i j => if j > i then j else i) (daCons (dL kLen (daCons (dVar 1) daNil)) (daCons (dL kLen (daCons (dVar 2) daNil)) daNil)))) (sRet (dCall 1 m_trimmed (daCons (dCall 3 m_row_sum (daCons (dVar 0) (daCons (dCall 2 m_widened (daCons (dVar 1) (daCons (dVar 3) daNil))) (daCons (dCall 2 m_widened (daCons (dVar 2) (daCons (dVar 3) daNil))) daNil)))) daNil))))
theorem sc_sum_of_polys : FnScope ["prime", "one", "other", "width"] ["prime", "one", "other"] (defScope s_sum_of_polys) := ⟨rfl, rfl, rfl, by decide +kernel, rfl, by decide +kernel, by decide +kernel⟩
theorem ok_sum_of_polys {f : Addr} {fd : FuncData} (F : Fun K "sum_of_polys" "sum_of_polys" s_sum_of_polys f fd) (T : Txt K mg ct) (c_row_sum : DefAt K mg base ct "row_sum" 1 3 ["prime", "one", "other"] m_row_sum) (c_trimmed : DefAt K mg base ct "trimmed" 1 1 ["row"] m_trimmed) (c_widened : DefAt K mg base ct "widened" 2 2 ["poly", "width"] m_widened) : FnOk Tbs.P Tbs.w K mg base (L2.CX Tbs.P Tbs.w) 3 f fd ["prime", "one", "other"] (spD ⟨K, ct⟩ 3 m_sum_of_polys) :=
  fun_okD F sc_sum_of_polys rfl fun cdv A outer s H E hr => by
    have nd := sc_sum_of_polys.nd
    have tk : Takes (cxOf (L2.CX Tbs.P Tbs.w) Tbs.P Tbs.w K mg base ["prime", "one", "other", "width"] "sum_of_polys" (defScope s_sum_of_polys) f cdv A outer s H E) (wishOf fun _ => E) := takes_of rfl rfl rfl rfl
    exact (ss_cons (s_set (fun te ht => ps_set (i := 3) nd (by rfl) (by first | exact Or.inl rfl | exact Or.inr rfl) ht) (de_callB (fun t ht => pe_callB (call_max2 (by rfl)) (by rfl) T.b_max PyProof.Rows.boot_max ht) does_max2 (da_cons (de_callB (fun t ht => pe_callB call_len (by rfl) T.b_len PySem.boot_len ht) does_len (da_cons (de_var (pv 1)) da_nil (fun hg hf => pa_cons hf hg))) (da_cons (de_callB (fun t ht => pe_callB call_len (by rfl) T.b_len PySem.boot_len ht) does_len (da_cons (de_var (pv 2)) da_nil (fun hg hf => pa_cons hf hg))) da_nil (fun hg hf => pa_cons hf hg)) (fun hg hf => pa_cons hf hg)))) (ss_one (s_ret (de_call (fun t ht => pe_callS c_trimmed.G (hr.mono (by decide)) (by rfl) c_trimmed.gm c_trimmed.kp c_trimmed.b (fun σ => passAt tk σ) ht) (da_cons (de_call (fun t ht => pe_callS c_row_sum.G (hr.mono (by decide)) (by rfl) c_row_sum.gm c_row_sum.kp c_row_sum.b (fun σ => passAt tk σ) ht) (da_cons (de_var (pv 0)) (da_cons (de_call (fun t ht => pe_callS c_widened.G (hr.mono (by decide)) (by rfl) c_widened.gm c_widened.kp c_widened.b (fun σ => passAt tk σ) ht) (da_cons (de_var (pv 1)) (da_cons (de_var (pv 3)) da_nil (fun hg hf => pa_cons hf hg)) (fun hg hf => pa_cons hf hg))) (da_cons (de_call (fun t ht => pe_callS c_widened.G (hr.mono (by decide)) (by rfl) c_widened.gm c_widened.kp c_widened.b (fun σ => passAt tk σ) ht) (da_cons (de_var (pv 2)) (da_cons (de_var (pv 3)) da_nil (fun hg hf => pa_cons hf hg)) (fun hg hf => pa_cons hf hg))) da_nil (fun hg hf => pa_cons hf hg)) (fun hg hf => pa_cons hf hg)) (fun hg hf => pa_cons hf hg))) da_nil (fun hg hf => pa_cons hf hg))))))
/-! poly_less_other -/
abbrev s_poly_less_other : Stmt := top 23
def m_poly_less_other : List D → LH → R D := fnD 4 (sSeq (sSet 3 (dL (kI2 fun i j => if j > i then j else i) (daCons (dL kLen (daCons (dVar 1) daNil)) (daCons (dL kLen (daCons (dVar 2) daNil)) daNil)))) (sRet (dCall 1 m_trimmed (daCons (dCall 3 m_row_less (daCons (dVar 0) (daCons (dCall 2 m_widened (daCons (dVar 1) (daCons (dVar 3) daNil))) (daCons (dCall 2 m_widened (daCons (dVar 2) (daCons (dVar 3) daNil))) daNil)))) daNil))))
theorem sc_poly_less_other : FnScope ["prime", "one", "other", "width"] ["prime", "one", "other"] (defScope s_poly_less_other) := ⟨rfl, rfl, rfl, by decide +kernel, rfl, by decide +kernel, by decide +kernel⟩
theorem ok_poly_less_other {f : Addr} {fd : FuncData} (F : Fun K "poly_less_other" "poly_less_other" s_poly_less_other f fd) (T : Txt K mg ct) (c_row_less : DefAt K mg base ct "row_less" 1 3 ["prime", "one", "other"] m_row_less) (c_trimmed : DefAt K mg base ct "trimmed" 1 1 ["row"] m_trimmed) (c_widened : DefAt K mg base ct "widened" 2 2 ["poly", "width"] m_widened) : FnOk Tbs.P Tbs.w K mg base (L2.CX Tbs.P Tbs.w) 3 f fd ["prime", "one", "other"] (spD ⟨K, ct⟩ 3 m_poly_less_other) :=
  fun_okD F sc_poly_less_other rfl fun cdv A outer s H E hr => by
    have nd := sc_poly_less_other.nd
    have tk : Takes (cxOf (L2.CX Tbs.P Tbs.w) Tbs.P Tbs.w K mg base ["prime", "one", "other", "width"] "poly_less_other" (defScope s_poly_less_other) f cdv A outer s H E) (wishOf fun _ => E) := takes_of rfl rfl rfl rfl
    exact (ss_cons (s_set (fun te ht => ps_set (i := 3) nd (by rfl) (by first | exact Or.inl rfl | exact Or.inr rfl) ht) (de_callB (fun t ht => pe_callB (call_max2 (by rfl)) (by rfl) T.b_max PyProof.Rows.boot_max ht) does_max2 (da_cons (de_callB (fun t ht => pe_callB call_len (by rfl) T.b_len PySem.boot_len ht) does_len (da_cons (de_var (pv 1)) da_nil (fun hg hf => pa_cons hf hg))) (da_cons (de_callB (fun t ht => pe_callB call_len (by rfl) T.b_len PySem.boot_len ht) does_len (da_cons (de_var (pv 2)) da_nil (fun hg hf => pa_cons hf hg))) da_nil (fun hg hf => pa_cons hf hg)) (fun hg hf => pa_cons hf hg)))) (ss_one (s_ret (de_call (fun t ht => pe_callS c_trimmed.G (hr.mono (by decide)) (by rfl) c_trimmed.gm c_trimmed.kp c_trimmed.b (fun σ => passAt tk σ) ht) (da_cons (de_call (fun t ht => pe_callS c_row_less.G (hr.mono (by decide)) (by rfl) c_row_less.gm c_row_less.kp c_row_less.b (fun σ => passAt tk σ) ht) (da_cons (de_var (pv 0)) (da_cons (de_call (fun t ht => pe_callS c_widened.G (hr.mono (by decide)) (by rfl) c_widened.gm c_widened.kp c_widened.b (fun σ => passAt tk σ) ht) (da_cons (de_var (pv 1)) (da_cons (de_var (pv 3)) da_nil (fun hg hf => pa_cons hf hg)) (fun hg hf => pa_cons hf hg))) (da_cons (de_call (fun t ht => pe_callS c_widened.G (hr.mono (by decide)) (by rfl) c_widened.gm c_widened.kp c_widened.b (fun σ => passAt tk σ) ht) (da_cons (de_var (pv 2)) (da_cons (de_var (pv 3)) da_nil (fun hg hf => pa_cons hf hg)) (fun hg hf => pa_cons hf hg))) da_nil (fun hg hf => pa_cons hf hg)) (fun hg hf => pa_cons hf hg)) (fun hg hf => pa_cons hf hg))) da_nil (fun hg hf => pa_cons hf hg))))))
/-! product_of_polys -/
abbrev s_product_of_polys : Stmt := top 24
def m_product_of_polys : List D → LH → R D := fnD 6 (sSeq (sSet 3 (d2 kPlus (dL kLen (daCons (dVar 1) daNil)) (dL kLen (daCons (dVar 2) daNil)))) (sSeq (sSet 4 (dLc (iRange1 (daCons (dL kLen (daCons (dVar 1) daNil)) daNil)) (gSet 5) [5] dYes (d2 kPlus (d2 kPlus (dCall 1 m_zero_row (daCons (dVar 5) daNil)) (dVar 2)) (dCall 1 m_zero_row (daCons (d2 kSub (dL kLen (daCons (dVar 1) daNil)) (dVar 5)) daNil))))) (sRet (dCall 1 m_trimmed (daCons (dCall 4 m_combined (daCons (dVar 0) (daCons (dVar 3) (daCons (dVar 1) (daCons (dVar 4) daNil))))) daNil)))))
theorem sc_product_of_polys : FnScope ["prime", "one", "other", "width", "shifted", "at"] ["prime", "one", "other"] (defScope s_product_of_polys) := ⟨rfl, rfl, rfl, by decide +kernel, rfl, by decide +kernel, by decide +kernel⟩
theorem ok_product_of_polys {f : Addr} {fd : FuncData} (F : Fun K "product_of_polys" "product_of_polys" s_product_of_polys f fd) (T : Txt K mg ct) (c_combined : DefAt K mg base ct "combined" 1 4 ["prime", "width", "numbers", "rows"] m_combined) (c_trimmed : DefAt K mg base ct "trimmed" 1 1 ["row"] m_trimmed) (c_zero_row : DefAt K mg base ct "zero_row" 1 1 ["width"] m_zero_row) : FnOk Tbs.P Tbs.w K mg base (L2.CX Tbs.P Tbs.w) 2 f fd ["prime", "one", "other"] (spD ⟨K, ct⟩ 3 m_product_of_polys) :=
  fun_okD F sc_product_of_polys rfl fun cdv A outer s H E hr => by
    have nd := sc_product_of_polys.nd
    have tk : Takes (cxOf (L2.CX Tbs.P Tbs.w) Tbs.P Tbs.w K mg base ["prime", "one", "other", "width", "shifted", "at"] "product_of_polys" (defScope s_product_of_polys) f cdv A outer s H E) (wishOf fun _ => E) := takes_of rfl rfl rfl rfl
    exact (ss_cons (s_set (fun te ht => ps_set (i := 3) nd (by rfl) (by first | exact Or.inl rfl | exact Or.inr rfl) ht) (de_op op_plus does_plus (de_callB (fun t ht => pe_callB call_len (by rfl) T.b_len PySem.boot_len ht) does_len (da_cons (de_var (pv 1)) da_nil (fun hg hf => pa_cons hf hg))) (de_callB (fun t ht => pe_callB call_len (by rfl) T.b_len PySem.boot_len ht) does_len (da_cons (de_var (pv 2)) da_nil (fun hg hf => pa_cons hf hg))))) (ss_cons (s_setLc (ps_setLc (i := 4) (by rfl) nd (by rfl) (by rfl) (sw_true (by rfl) (by rfl) (by rfl) (by decide +kernel)) (di_range1 (fun t ht => pi_range1 (by rfl) T.b_range ht) (da_cons (de_callB (fun t ht => pe_callB call_len (by rfl) T.b_len PySem.boot_len ht) does_len (da_cons (de_var (pv 1)) da_nil (fun hg hf => pa_cons hf hg))) da_nil (fun hg hf => pa_cons hf hg))) (blkOk_by (own := [("at", 5)]) (by first | decide +kernel | kernel_rfl)) (fun _ _ _ _ _ => (pg_name (i := 5) nd (by rfl) (by first | exact Or.inl rfl | exact Or.inr rfl))) (fun _ _ _ _ _ => dts_nil) (fun _ _ _ _ _ => (de_op op_plus does_plus (de_op op_plus does_plus (de_call (fun t ht => pe_callS c_zero_row.G (hr.mono (by decide)) (by rfl) c_zero_row.gm c_zero_row.kp c_zero_row.b (fun σ => passAt takes0 σ) ht) (da_cons (de_var (pv 5)) da_nil (fun hg hf => pa_cons hf hg))) (de_var (pv 2))) (de_call (fun t ht => pe_callS c_zero_row.G (hr.mono (by decide)) (by rfl) c_zero_row.gm c_zero_row.kp c_zero_row.b (fun σ => passAt takes0 σ) ht) (da_cons (de_op op_sub does_sub (de_callB (fun t ht => pe_callB call_len (by rfl) T.b_len PySem.boot_len ht) does_len (da_cons (de_var (pv 1)) da_nil (fun hg hf => pa_cons hf hg))) (de_var (pv 5))) da_nil (fun hg hf => pa_cons hf hg)))))) (doesv_gName (by decide))) (ss_one (s_ret (de_call (fun t ht => pe_callS c_trimmed.G (hr.mono (by decide)) (by rfl) c_trimmed.gm c_trimmed.kp c_trimmed.b (fun σ => passAt tk σ) ht) (da_cons (de_call (fun t ht => pe_callS c_combined.G (hr.mono (by decide)) (by rfl) c_combined.gm c_combined.kp c_combined.b (fun σ => passAt tk σ) ht) (da_cons (de_var (pv 0)) (da_cons (de_var (pv 3)) (da_cons (de_var (pv 1)) (da_cons (de_var (pv 4)) da_nil (fun hg hf => pa_cons hf hg)) (fun hg hf => pa_cons hf hg)) (fun hg hf => pa_cons hf hg)) (fun hg hf => pa_cons hf hg))) da_nil (fun hg hf => pa_cons hf hg)))))))
/-! parts_of_poly -/
abbrev s_parts_of_poly : Stmt := top 25
def m_parts_of_poly : List D → LH → R D := fnD 11 (sSeq (sNew 3 (fListOf (daCons (dVar 1) daNil))) (sSeq (sSet 4 (dCall 2 m_undone_number (daCons (dVar 0) (daCons (d2 kIx (dVar 2) (d1 kNeg (dC (.int 1)))) daNil)))) (sSeq (sSet 5 (d2 kPlus (d2 kSub (dL kLen (daCons (dVar 1) daNil)) (dL kLen (daCons (dVar 2) daNil))) (dC (.int 1)))) (sSeq (sNew 6 (fRep (dL kLst (daCons (dC (.int 0)) daNil)) (dL (kI2 fun i j => if j > i then j else i) (daCons (dVar 5) (daCons (dC (.int 0)) daNil))))) (sSeq (sFor (iRev (dVar 5)) (gSet 7) (sSeq (sSet 8 (d2 kMod (d2 kTimes (d2 kIx (dVar 3) (d2 kSub (d2 kPlus (dVar 7) (dL kLen (daCons (dVar 2) daNil))) (dC (.int 1)))) (dVar 4)) (dVar 0))) (sSeq (sSetIx (dVar 6) (dVar 7) (dVar 8)) (sFor (iEnum1 (daCons (dVar 2) daNil)) (gSet2 9 10) (sSetIx (dVar 3) (d2 kPlus (dVar 7) (dVar 9)) (d2 kMod (d2 kSub (d2 kIx (dVar 3) (d2 kPlus (dVar 7) (dVar 9))) (d2 kTimes (dVar 8) (dVar 10))) (dVar 0))))))) (sRet (dL kTup (daCons (dCall 1 m_trimmed (daCons (dVar 6) daNil)) (daCons (dCall 1 m_trimmed (daCons (dVar 3) daNil)) daNil)))))))))
theorem sc_parts_of_poly : FnScope ["prime", "one", "other", "rest", "undone", "places", "quotient", "at", "number", "place", "digit"] ["prime", "one", "other"] (defScope s_parts_of_poly) := ⟨rfl, rfl, rfl, by decide +kernel, rfl, by decide +kernel, by decide +kernel⟩
theorem ok_parts_of_poly {f : Addr} {fd : FuncData} (F : Fun K "parts_of_poly" "parts_of_poly" s_parts_of_poly f fd) (T : Txt K mg ct) (c_trimmed : DefAt K mg base ct "trimmed" 1 1 ["row"] m_trimmed) (c_undone_number : DefAt K mg base ct "undone_number" 1 2 ["prime", "number"] m_undone_number) : FnOk Tbs.P Tbs.w K mg base (L2.CX Tbs.P Tbs.w) 2 f fd ["prime", "one", "other"] (spD ⟨K, ct⟩ 3 m_parts_of_poly) :=
  fun_okD F sc_parts_of_poly rfl fun cdv A outer s H E hr => by
    have nd := sc_parts_of_poly.nd
    have tk : Takes (cxOf (L2.CX Tbs.P Tbs.w) Tbs.P Tbs.w K mg base ["prime", "one", "other", "rest", "undone", "places", "quotient", "at", "number", "place", "digit"] "parts_of_poly" (defScope s_parts_of_poly) f cdv A outer s H E) (wishOf fun _ => E) := takes_of rfl rfl rfl rfl
    exact (ss_cons (s_new (fun te ht => ps_set (i := 3) nd (by rfl) (by first | exact Or.inl rfl | exact Or.inr rfl) ht) (df_listOf (fun t ht => pe_callTy call_list_of (by rfl) T.b_list PyProof.Rows.boot_list ht) (by rfl) (da_cons (de_var (pv 1)) da_nil (fun hg hf => pa_cons hf hg)))) (ss_cons (s_set (fun te ht => ps_set (i := 4) nd (by rfl) (by first | exact Or.inl rfl | exact Or.inr rfl) ht) (de_call (fun t ht => pe_callS c_undone_number.G (hr.mono (by decide)) (by rfl) c_undone_number.gm c_undone_number.kp c_undone_number.b (fun σ => passAt tk σ) ht) (da_cons (de_var (pv 0)) (da_cons (de_ix (by rfl) (de_var (pv 2)) (de_neg de_int) (fun _ _ => rfl)) da_nil (fun hg hf => pa_cons hf hg)) (fun hg hf => pa_cons hf hg)))) (ss_cons (s_set (fun te ht => ps_set (i := 5) nd (by rfl) (by first | exact Or.inl rfl | exact Or.inr rfl) ht) (de_op op_plus does_plus (de_op op_sub does_sub (de_callB (fun t ht => pe_callB call_len (by rfl) T.b_len PySem.boot_len ht) does_len (da_cons (de_var (pv 1)) da_nil (fun hg hf => pa_cons hf hg))) (de_callB (fun t ht => pe_callB call_len (by rfl) T.b_len PySem.boot_len ht) does_len (da_cons (de_var (pv 2)) da_nil (fun hg hf => pa_cons hf hg)))) de_int)) (ss_cons (s_new (fun te ht => ps_set (i := 6) nd (by rfl) (by first | exact Or.inl rfl | exact Or.inr rfl) ht) (df_rep (de_lst (da_cons de_int da_nil (fun hg hf => pa_cons hf hg))) (de_callB (fun t ht => pe_callB (call_max2 (by rfl)) (by rfl) T.b_max PyProof.Rows.boot_max ht) does_max2 (da_cons (de_var (pv 5)) (da_cons de_int da_nil (fun hg hf => pa_cons hf hg)) (fun hg hf => pa_cons hf hg))))) (ss_cons (s_for (fun wi tb hi hb => ps_for (passes_of (by rfl)) (by rfl) hi (pg_name (i := 7) nd (by rfl) (by first | exact Or.inl rfl | exact Or.inr rfl)) hb) (pi_imp (pi_revR (by rfl) T.b_reversed (prg_1 (by rfl) T.b_range (de_var (pv 5)))) rev_imp) does_gName (ss_cons (s_set (fun te ht => ps_set (i := 8) nd (by rfl) (by first | exact Or.inl rfl | exact Or.inr rfl) ht) (de_op op_mod does_mod (de_op op_times does_times (de_ix (by rfl) (de_var (pv 3)) (de_op op_sub does_sub (de_op op_plus does_plus (de_var (pv 7)) (de_callB (fun t ht => pe_callB call_len (by rfl) T.b_len PySem.boot_len ht) does_len (da_cons (de_var (pv 2)) da_nil (fun hg hf => pa_cons hf hg)))) de_int) (fun _ _ => rfl)) (de_var (pv 4))) (de_var (pv 0)))) (ss_cons (s_setIx (fun to ti te ho hi he => ps_asg he (pg_sub ho hi set_list)) (de_var (pv 6)) (de_var (pv 7)) (de_var (pv 8))) (ss_one (s_for (fun wi tb hi hb => ps_for (passes_of (by rfl)) (by rfl) hi (pg_tup (by rfl) (pgs_cons (pg_name (i := 9) nd (by rfl) (by first | exact Or.inl rfl | exact Or.inr rfl)) (pgs_cons (pg_name (i := 10) nd (by rfl) (by first | exact Or.inl rfl | exact Or.inr rfl)) pgs_nil))) hb) (di_enum (by rfl) (fun t ht => pi_enumB (by rfl) T.b_enumerate ht) (da_cons (de_var (pv 2)) da_nil (fun hg hf => pa_cons hf hg))) (does_gTup2 (by rfl)) (ss_one (s_setIx (fun to ti te ho hi he => ps_asg he (pg_sub ho hi set_list)) (de_var (pv 3)) (de_op op_plus does_plus (de_var (pv 7)) (de_var (pv 9))) (de_op op_mod does_mod (de_op op_sub does_sub (de_ix (by rfl) (de_var (pv 3)) (de_op op_plus does_plus (de_var (pv 7)) (de_var (pv 9))) (fun _ _ => rfl)) (de_op op_times does_times (de_var (pv 8)) (de_var (pv 10)))) (de_var (pv 0)))))))))) (ss_one (s_ret (de_tup (da_cons (de_call (fun t ht => pe_callS c_trimmed.G (hr.mono (by decide)) (by rfl) c_trimmed.gm c_trimmed.kp c_trimmed.b (fun σ => passAt tk σ) ht) (da_cons (de_var (pv 6)) da_nil (fun hg hf => pa_cons hf hg))) (da_cons (de_call (fun t ht => pe_callS c_trimmed.G (hr.mono (by decide)) (by rfl) c_trimmed.gm c_trimmed.kp c_trimmed.b (fun σ => passAt tk σ) ht) (da_cons (de_var (pv 3)) da_nil (fun hg hf => pa_cons hf hg))) da_nil (fun hg hf => pa_cons hf hg)) (fun hg hf => pa_cons hf hg))))))))))
/-! rest_of_poly -/
abbrev s_rest_of_poly : Stmt := top 26
def m_rest_of_poly : List D → LH → R D := fnD 3 (sRet (d2 kIx (dCall 3 m_parts_of_poly (daCons (dVar 0) (daCons (dVar 1) (daCons (dVar 2) daNil)))) (dC (.int 1))))
theorem sc_rest_of_poly : FnScope ["prime", "one", "other"] ["prime", "one", "other"] (defScope s_rest_of_poly) := ⟨rfl, rfl, rfl, by decide +kernel, rfl, by decide +kernel, by decide +kernel⟩
theorem ok_rest_of_poly {f : Addr} {fd : FuncData} (F : Fun K "rest_of_poly" "rest_of_poly" s_rest_of_poly f fd) (T : Txt K mg ct) (c_parts_of_poly : DefAt K mg base ct "parts_of_poly" 2 3 ["prime", "one", "other"] m_parts_of_poly) : FnOk Tbs.P Tbs.w K mg base (L2.CX Tbs.P Tbs.w) 3 f fd ["prime", "one", "other"] (spD ⟨K, ct⟩ 3 m_rest_of_poly) :=
  fun_okD F sc_rest_of_poly rfl fun cdv A outer s H E hr => by
    have nd := sc_rest_of_poly.nd
    have tk : Takes (cxOf (L2.CX Tbs.P Tbs.w) Tbs.P Tbs.w K mg base ["prime", "one", "other"] "rest_of_poly" (defScope s_rest_of_poly) f cdv A outer s H E) (wishOf fun _ => E) := takes_of rfl rfl rfl rfl
    exact (ss_one (s_ret (de_ix (by rfl) (de_call (fun t ht => pe_callS c_parts_of_poly.G (hr.mono (by decide)) (by rfl) c_parts_of_poly.gm c_parts_of_poly.kp c_parts_of_poly.b (fun σ => passAt tk σ) ht) (da_cons (de_var (pv 0)) (da_cons (de_var (pv 1)) (da_cons (de_var (pv 2)) da_nil (fun hg hf => pa_cons hf hg)) (fun hg hf => pa_cons hf hg)) (fun hg hf => pa_cons hf hg))) de_int (fun _ _ => rfl))))
/-! made_monic -/
abbrev s_made_monic : Stmt := top 27
def m_made_monic : List D → LH → R D := fnD 2 (sSeq (sIf (dNot (dTruth (dVar 1))) (sRet (dVar 1)) sNext) (sRet (dCall 3 m_row_times (daCons (dVar 0) (daCons (dCall 2 m_undone_number (daCons (dVar 0) (daCons (d2 kIx (dVar 1) (d1 kNeg (dC (.int 1)))) daNil))) (daCons (dVar 1) daNil))))))
theorem sc_made_monic : FnScope ["prime", "poly"] ["prime", "poly"] (defScope s_made_monic) := ⟨rfl, rfl, rfl, by decide +kernel, rfl, by decide +kernel, by decide +kernel⟩
theorem ok_made_monic {f : Addr} {fd : FuncData} (F : Fun K "made_monic" "made_monic" s_made_monic f fd) (T : Txt K mg ct) (c_row_times : DefAt K mg base ct "row_times" 1 3 ["prime", "number", "row"] m_row_times) (c_undone_number : DefAt K mg base ct "undone_number" 1 2 ["prime", "number"] m_undone_number) : FnOk Tbs.P Tbs.w K mg base (L2.CX Tbs.P Tbs.w) 2 f fd ["prime", "poly"] (spD ⟨K, ct⟩ 2 m_made_monic) :=
  fun_okD F sc_made_monic rfl fun cdv A outer s H E hr => by
    have nd := sc_made_monic.nd
    have tk : Takes (cxOf (L2.CX Tbs.P Tbs.w) Tbs.P Tbs.w K mg base ["prime", "poly"] "made_monic" (defScope s_made_monic) f cdv A outer s H E) (wishOf fun _ => E) := takes_of rfl rfl rfl rfl
    exact (ss_cons (s_if (dt_not (dt_truth (by rfl) (de_var (pv 1)))) (ss_one (s_ret (de_var (pv 1)))) ss_nil) (ss_one (s_ret (de_call (fun t ht => pe_callS c_row_times.G (hr.mono (by decide)) (by rfl) c_row_times.gm c_row_times.kp c_row_times.b (fun σ => passAt tk σ) ht) (da_cons (de_var (pv 0)) (da_cons (de_call (fun t ht => pe_callS c_undone_number.G (hr.mono (by decide)) (by rfl) c_undone_number.gm c_undone_number.kp c_undone_number.b (fun σ => passAt tk σ) ht) (da_cons (de_var (pv 0)) (da_cons (de_ix (by rfl) (de_var (pv 1)) (de_neg de_int) (fun _ _ => rfl)) da_nil (fun hg hf => pa_cons hf hg)) (fun hg hf => pa_cons hf hg))) (da_cons (de_var (pv 1)) da_nil (fun hg hf => pa_cons hf hg)) (fun hg hf => pa_cons hf hg)) (fun hg hf => pa_cons hf hg))))))
/-! shared_poly -/
abbrev s_shared_poly : Stmt := top 28
def m_shared_poly : List D → LH → R D := fnD 3 (sSeq (sWhile 100000 (dTruth (dVar 2)) (sPar 1 2 (daCons (dVar 2) (daCons (dCall 3 m_rest_of_poly (daCons (dVar 0) (daCons (dVar 1) (daCons (dVar 2) daNil)))) daNil)))) (sRet (dCall 2 m_made_monic (daCons (dVar 0) (daCons (dVar 1) daNil)))))
theorem sc_shared_poly : FnScope ["prime", "one", "other"] ["prime", "one", "other"] (defScope s_shared_poly) := ⟨rfl, rfl, rfl, by decide +kernel, rfl, by decide +kernel, by decide +kernel⟩
theorem ok_shared_poly {f : Addr} {fd : FuncData} (F : Fun K "shared_poly" "shared_poly" s_shared_poly f fd) (T : Txt K mg ct) (c_made_monic : DefAt K mg base ct "made_monic" 2 2 ["prime", "poly"] m_made_monic) (c_rest_of_poly : DefAt K mg base ct "rest_of_poly" 3 3 ["prime", "one", "other"] m_rest_of_poly) : FnOk Tbs.P Tbs.w K mg base (L2.CX Tbs.P Tbs.w) 4 f fd ["prime", "one", "other"] (spD ⟨K, ct⟩ 3 m_shared_poly) :=
  fun_okD F sc_shared_poly rfl fun cdv A outer s H E hr => by
    have nd := sc_shared_poly.nd
    have tk : Takes (cxOf (L2.CX Tbs.P Tbs.w) Tbs.P Tbs.w K mg base ["prime", "one", "other"] "shared_poly" (defScope s_shared_poly) f cdv A outer s H E) (wishOf fun _ => E) := takes_of rfl rfl rfl rfl
    exact (ss_cons (s_while 100000 (fun tc tb hc hb => ps_while (passes_of (by rfl)) hc hb) (dt_truth (by rfl) (de_var (pv 2))) (ss_one (s_par (fun t ht => ps_par (by rfl) nd (by rfl) (by rfl) (by decide) (by rfl) (by rfl) ht (by rfl)) (da_cons (de_var (pv 2)) (da_cons (de_call (fun t ht => pe_callS c_rest_of_poly.G (hr.mono (by decide)) (by rfl) c_rest_of_poly.gm c_rest_of_poly.kp c_rest_of_poly.b (fun σ => passAt tk σ) ht) (da_cons (de_var (pv 0)) (da_cons (de_var (pv 1)) (da_cons (de_var (pv 2)) da_nil (fun hg hf => pa_cons hf hg)) (fun hg hf => pa_cons hf hg)) (fun hg hf => pa_cons hf hg))) da_nil (fun hg hf => pa_cons hf hg)) (fun hg hf => pa_cons hf hg))))) (ss_one (s_ret (de_call (fun t ht => pe_callS c_made_monic.G (hr.mono (by decide)) (by rfl) c_made_monic.gm c_made_monic.kp c_made_monic.b (fun σ => passAt tk σ) ht) (da_cons (de_var (pv 0)) (da_cons (de_var (pv 1)) da_nil (fun hg hf => pa_cons hf hg)) (fun hg hf => pa_cons hf hg))))))
/-! check_poly -/
abbrev s_check_poly : Stmt := top 31
def m_check_poly : List D → LH → R D := fnD 2 (sIf (dNot (dTruth (dCall 3 m_is_some_poly (daCons (dVar 0) (daCons (dVar 1) (daCons (dC (.int 12)) daNil)))))) sNever sNext)
theorem sc_check_poly : FnScope ["prime", "poly"] ["prime", "poly"] (defScope s_check_poly) := ⟨rfl, rfl, rfl, by decide +kernel, rfl, by decide +kernel, by decide +kernel⟩
theorem ok_check_poly {f : Addr} {fd : FuncData} (F : Fun K "check_poly" "check_poly" s_check_poly f fd) (T : Txt K mg ct) (c_is_some_poly : DefAt K mg base ct "is_some_poly" 2 3 ["prime", "value", "most"] m_is_some_poly) : FnOk Tbs.P Tbs.w K mg base (L2.CX Tbs.P Tbs.w) 3 f fd ["prime", "poly"] (spD ⟨K, ct⟩ 2 m_check_poly) :=
  fun_okD F sc_check_poly rfl fun cdv A outer s H E hr => by
    have nd := sc_check_poly.nd
    have tk : Takes (cxOf (L2.CX Tbs.P Tbs.w) Tbs.P Tbs.w K mg base ["prime", "poly"] "check_poly" (defScope s_check_poly) f cdv A outer s H E) (wishOf fun _ => E) := takes_of rfl rfl rfl rfl
    exact (ss_one (s_if (dt_not (dt_truth (by rfl) (de_call (fun t ht => pe_callS c_is_some_poly.G (hr.mono (by decide)) (by rfl) c_is_some_poly.gm c_is_some_poly.kp c_is_some_poly.b (fun σ => passAt tk σ) ht) (da_cons (de_var (pv 0)) (da_cons (de_var (pv 1)) (da_cons (de_gInt (by rfl) T.c_MAX_DEGREE.choose_spec) da_nil (fun hg hf => pa_cons hf hg)) (fun hg hf => pa_cons hf hg)) (fun hg hf => pa_cons hf hg))))) (ss_one (s_never ps_never)) ss_nil))
/-! check_polys -/
abbrev s_check_polys : Stmt := top 32
def m_check_polys : List D → LH → R D := fnD 3 (sSeq (sExpr (dCall 1 m_check_prime (daCons (dVar 0) daNil))) (sSeq (sExpr (dCall 2 m_check_poly (daCons (dVar 0) (daCons (dVar 1) daNil)))) (sExpr (dCall 2 m_check_poly (daCons (dVar 0) (daCons (dVar 2) daNil))))))
theorem sc_check_polys : FnScope ["prime", "one", "other"] ["prime", "one", "other"] (defScope s_check_polys) := ⟨rfl, rfl, rfl, by decide +kernel, rfl, by decide +kernel, by decide +kernel⟩
theorem ok_check_polys {f : Addr} {fd : FuncData} (F : Fun K "check_polys" "check_polys" s_check_polys f fd) (T : Txt K mg ct) (c_check_poly : DefAt K mg base ct "check_poly" 3 2 ["prime", "poly"] m_check_poly) (c_check_prime : DefAt K mg base ct "check_prime" 2 1 ["prime"] m_check_prime) : FnOk Tbs.P Tbs.w K mg base (L2.CX Tbs.P Tbs.w) 4 f fd ["prime", "one", "other"] (spD ⟨K, ct⟩ 3 m_check_polys) :=
  fun_okD F sc_check_polys rfl fun cdv A outer s H E hr => by
    have nd := sc_check_polys.nd
    have tk : Takes (cxOf (L2.CX Tbs.P Tbs.w) Tbs.P Tbs.w K mg base ["prime", "one", "other"] "check_polys" (defScope s_check_polys) f cdv A outer s H E) (wishOf fun _ => E) := takes_of rfl rfl rfl rfl
    exact (ss_cons (s_expr (de_call (fun t ht => pe_callS c_check_prime.G (hr.mono (by decide)) (by rfl) c_check_prime.gm c_check_prime.kp c_check_prime.b (fun σ => passAt tk σ) ht) (da_cons (de_var (pv 0)) da_nil (fun hg hf => pa_cons hf hg)))) (ss_cons (s_expr (de_call (fun t ht => pe_callS c_check_poly.G (hr.mono (by decide)) (by rfl) c_check_poly.gm c_check_poly.kp c_check_poly.b (fun σ => passAt tk σ) ht) (da_cons (de_var (pv 0)) (da_cons (de_var (pv 1)) da_nil (fun hg hf => pa_cons hf hg)) (fun hg hf => pa_cons hf hg)))) (ss_one (s_expr (de_call (fun t ht => pe_callS c_check_poly.G (hr.mono (by decide)) (by rfl) c_check_poly.gm c_check_poly.kp c_check_poly.b (fun σ => passAt tk σ) ht) (da_cons (de_var (pv 0)) (da_cons (de_var (pv 2)) da_nil (fun hg hf => pa_cons hf hg)) (fun hg hf => pa_cons hf hg)))))))
/-! is_poly -/
abbrev s_is_poly : Stmt := top 33
def m_is_poly : List D → LH → R D := fnD 2 (sSeq (sExpr (dCall 1 m_check_prime (daCons (dVar 0) daNil))) (sRet (dCall 3 m_is_some_poly (daCons (dVar 0) (daCons (dVar 1) (daCons (dC (.int 12)) daNil))))))
theorem sc_is_poly : FnScope ["prime", "value"] ["prime", "value"] (defScope s_is_poly) := ⟨rfl, rfl, rfl, by decide +kernel, rfl, by decide +kernel, by decide +kernel⟩
theorem ok_is_poly {f : Addr} {fd : FuncData} (F : Fun K "is_poly" "is_poly" s_is_poly f fd) (T : Txt K mg ct) (c_check_prime : DefAt K mg base ct "check_prime" 2 1 ["prime"] m_check_prime) (c_is_some_poly : DefAt K mg base ct "is_some_poly" 2 3 ["prime", "value", "most"] m_is_some_poly) : FnOk Tbs.P Tbs.w K mg base (L2.CX Tbs.P Tbs.w) 3 f fd ["prime", "value"] (spD ⟨K, ct⟩ 2 m_is_poly) :=
  fun_okD F sc_is_poly rfl fun cdv A outer s H E hr => by
    have nd := sc_is_poly.nd
    have tk : Takes (cxOf (L2.CX Tbs.P Tbs.w) Tbs.P Tbs.w K mg base ["prime", "value"] "is_poly" (defScope s_is_poly) f cdv A outer s H E) (wishOf fun _ => E) := takes_of rfl rfl rfl rfl
    exact (ss_cons (s_expr (de_call (fun t ht => pe_callS c_check_prime.G (hr.mono (by decide)) (by rfl) c_check_prime.gm c_check_prime.kp c_check_prime.b (fun σ => passAt tk σ) ht) (da_cons (de_var (pv 0)) da_nil (fun hg hf => pa_cons hf hg)))) (ss_one (s_ret (de_call (fun t ht => pe_callS c_is_some_poly.G (hr.mono (by decide)) (by rfl) c_is_some_poly.gm c_is_some_poly.kp c_is_some_poly.b (fun σ => passAt tk σ) ht) (da_cons (de_var (pv 0)) (da_cons (de_var (pv 1)) (da_cons (de_gInt (by rfl) T.c_MAX_DEGREE.choose_spec) da_nil (fun hg hf => pa_cons hf hg)) (fun hg hf => pa_cons hf hg)) (fun hg hf => pa_cons hf hg))))))
/-! poly_sum -/
abbrev s_poly_sum : Stmt := top 34
def m_poly_sum : List D → LH → R D := fnD 3 (sSeq (sExpr (dCall 3 m_check_polys (daCons (dVar 0) (daCons (dVar 1) (daCons (dVar 2) daNil))))) (sRet (dCall 3 m_sum_of_polys (daCons (dVar 0) (daCons (dVar 1) (daCons (dVar 2) daNil))))))
theorem sc_poly_sum : FnScope ["prime", "one", "other"] ["prime", "one", "other"] (defScope s_poly_sum) := ⟨rfl, rfl, rfl, by decide +kernel, rfl, by decide +kernel, by decide +kernel⟩
theorem ok_poly_sum {f : Addr} {fd : FuncData} (F : Fun K "poly_sum" "poly_sum" s_poly_sum f fd) (T : Txt K mg ct) (c_check_polys : DefAt K mg base ct "check_polys" 4 3 ["prime", "one", "other"] m_check_polys) (c_sum_of_polys : DefAt K mg base ct "sum_of_polys" 3 3 ["prime", "one", "other"] m_sum_of_polys) : FnOk Tbs.P Tbs.w K mg base (L2.CX Tbs.P Tbs.w) 5 f fd ["prime", "one", "other"] (spD ⟨K, ct⟩ 3 m_poly_sum) :=
  fun_okD F sc_poly_sum rfl fun cdv A outer s H E hr => by
    have nd := sc_poly_sum.nd
    have tk : Takes (cxOf (L2.CX Tbs.P Tbs.w) Tbs.P Tbs.w K mg base ["prime", "one", "other"] "poly_sum" (defScope s_poly_sum) f cdv A outer s H E) (wishOf fun _ => E) := takes_of rfl rfl rfl rfl
    exact (ss_cons (s_expr (de_call (fun t ht => pe_callS c_check_polys.G (hr.mono (by decide)) (by rfl) c_check_polys.gm c_check_polys.kp c_check_polys.b (fun σ => passAt tk σ) ht) (da_cons (de_var (pv 0)) (da_cons (de_var (pv 1)) (da_cons (de_var (pv 2)) da_nil (fun hg hf => pa_cons hf hg)) (fun hg hf => pa_cons hf hg)) (fun hg hf => pa_cons hf hg)))) (ss_one (s_ret (de_call (fun t ht => pe_callS c_sum_of_polys.G (hr.mono (by decide)) (by rfl) c_sum_of_polys.gm c_sum_of_polys.kp c_sum_of_polys.b (fun σ => passAt tk σ) ht) (da_cons (de_var (pv 0)) (da_cons (de_var (pv 1)) (da_cons (de_var (pv 2)) da_nil (fun hg hf => pa_cons hf hg)) (fun hg hf => pa_cons hf hg)) (fun hg hf => pa_cons hf hg))))))
/-! poly_less -/
abbrev s_poly_less : Stmt := top 35
def m_poly_less : List D → LH → R D := fnD 3 (sSeq (sExpr (dCall 3 m_check_polys (daCons (dVar 0) (daCons (dVar 1) (daCons (dVar 2) daNil))))) (sRet (dCall 3 m_poly_less_other (daCons (dVar 0) (daCons (dVar 1) (daCons (dVar 2) daNil))))))
theorem sc_poly_less : FnScope ["prime", "one", "other"] ["prime", "one", "other"] (defScope s_poly_less) := ⟨rfl, rfl, rfl, by decide +kernel, rfl, by decide +kernel, by decide +kernel⟩
theorem ok_poly_less {f : Addr} {fd : FuncData} (F : Fun K "poly_less" "poly_less" s_poly_less f fd) (T : Txt K mg ct) (c_check_polys : DefAt K mg base ct "check_polys" 4 3 ["prime", "one", "other"] m_check_polys) (c_poly_less_other : DefAt K mg base ct "poly_less_other" 3 3 ["prime", "one", "other"] m_poly_less_other) : FnOk Tbs.P Tbs.w K mg base (L2.CX Tbs.P Tbs.w) 5 f fd ["prime", "one", "other"] (spD ⟨K, ct⟩ 3 m_poly_less) :=
  fun_okD F sc_poly_less rfl fun cdv A outer s H E hr => by
    have nd := sc_poly_less.nd
    have tk : Takes (cxOf (L2.CX Tbs.P Tbs.w) Tbs.P Tbs.w K mg base ["prime", "one", "other"] "poly_less" (defScope s_poly_less) f cdv A outer s H E) (wishOf fun _ => E) := takes_of rfl rfl rfl rfl
    exact (ss_cons (s_expr (de_call (fun t ht => pe_callS c_check_polys.G (hr.mono (by decide)) (by rfl) c_check_polys.gm c_check_polys.kp c_check_polys.b (fun σ => passAt tk σ) ht) (da_cons (de_var (pv 0)) (da_cons (de_var (pv 1)) (da_cons (de_var (pv 2)) da_nil (fun hg hf => pa_cons hf hg)) (fun hg hf => pa_cons hf hg)) (fun hg hf => pa_cons hf hg)))) (ss_one (s_ret (de_call (fun t ht => pe_callS c_poly_less_other.G (hr.mono (by decide)) (by rfl) c_poly_less_other.gm c_poly_less_other.kp c_poly_less_other.b (fun σ => passAt tk σ) ht) (da_cons (de_var (pv 0)) (da_cons (de_var (pv 1)) (da_cons (de_var (pv 2)) da_nil (fun hg hf => pa_cons hf hg)) (fun hg hf => pa_cons hf hg)) (fun hg hf => pa_cons hf hg))))))
/-! poly_product -/
abbrev s_poly_product : Stmt := top 36
def m_poly_product : List D → LH → R D := fnD 3 (sSeq (sExpr (dCall 3 m_check_polys (daCons (dVar 0) (daCons (dVar 1) (daCons (dVar 2) daNil))))) (sRet (dCall 3 m_product_of_polys (daCons (dVar 0) (daCons (dVar 1) (daCons (dVar 2) daNil))))))
theorem sc_poly_product : FnScope ["prime", "one", "other"] ["prime", "one", "other"] (defScope s_poly_product) := ⟨rfl, rfl, rfl, by decide +kernel, rfl, by decide +kernel, by decide +kernel⟩
theorem ok_poly_product {f : Addr} {fd : FuncData} (F : Fun K "poly_product" "poly_product" s_poly_product f fd) (T : Txt K mg ct) (c_check_polys : DefAt K mg base ct "check_polys" 4 3 ["prime", "one", "other"] m_check_polys) (c_product_of_polys : DefAt K mg base ct "product_of_polys" 2 3 ["prime", "one", "other"] m_product_of_polys) : FnOk Tbs.P Tbs.w K mg base (L2.CX Tbs.P Tbs.w) 5 f fd ["prime", "one", "other"] (spD ⟨K, ct⟩ 3 m_poly_product) :=
  fun_okD F sc_poly_product rfl fun cdv A outer s H E hr => by
    have nd := sc_poly_product.nd
    have tk : Takes (cxOf (L2.CX Tbs.P Tbs.w) Tbs.P Tbs.w K mg base ["prime", "one", "other"] "poly_product" (defScope s_poly_product) f cdv A outer s H E) (wishOf fun _ => E) := takes_of rfl rfl rfl rfl
    exact (ss_cons (s_expr (de_call (fun t ht => pe_callS c_check_polys.G (hr.mono (by decide)) (by rfl) c_check_polys.gm c_check_polys.kp c_check_polys.b (fun σ => passAt tk σ) ht) (da_cons (de_var (pv 0)) (da_cons (de_var (pv 1)) (da_cons (de_var (pv 2)) da_nil (fun hg hf => pa_cons hf hg)) (fun hg hf => pa_cons hf hg)) (fun hg hf => pa_cons hf hg)))) (ss_one (s_ret (de_call (fun t ht => pe_callS c_product_of_polys.G (hr.mono (by decide)) (by rfl) c_product_of_polys.gm c_product_of_polys.kp c_product_of_polys.b (fun σ => passAt tk σ) ht) (da_cons (de_var (pv 0)) (da_cons (de_var (pv 1)) (da_cons (de_var (pv 2)) da_nil (fun hg hf => pa_cons hf hg)) (fun hg hf => pa_cons hf hg)) (fun hg hf => pa_cons hf hg))))))
/-! poly_parts -/
abbrev s_poly_parts : Stmt := top 37
def m_poly_parts : List D → LH → R D := fnD 3 (sSeq (sExpr (dCall 3 m_check_polys (daCons (dVar 0) (daCons (dVar 1) (daCons (dVar 2) daNil))))) (sSeq (sIf (dNot (dTruth (dVar 2))) (sRaise_ErrR (dL kTup (daCons (dC (.str "zero")) daNil))) sNext) (sRet (dCall 3 m_parts_of_poly (daCons (dVar 0) (daCons (dVar 1) (daCons (dVar 2) daNil)))))))
theorem sc_poly_parts : FnScope ["prime", "one", "other"] ["prime", "one", "other"] (defScope s_poly_parts) := ⟨rfl, rfl, rfl, by decide +kernel, rfl, by decide +kernel, by decide +kernel⟩
theorem ok_poly_parts {f : Addr} {fd : FuncData} (F : Fun K "poly_parts" "poly_parts" s_poly_parts f fd) (T : Txt K mg ct) (c_check_polys : DefAt K mg base ct "check_polys" 4 3 ["prime", "one", "other"] m_check_polys) (c_parts_of_poly : DefAt K mg base ct "parts_of_poly" 2 3 ["prime", "one", "other"] m_parts_of_poly) : FnOk Tbs.P Tbs.w K mg base (L2.CX Tbs.P Tbs.w) 5 f fd ["prime", "one", "other"] (spD ⟨K, ct⟩ 3 m_poly_parts) :=
  fun_okD F sc_poly_parts rfl fun cdv A outer s H E hr => by
    have nd := sc_poly_parts.nd
    have tk : Takes (cxOf (L2.CX Tbs.P Tbs.w) Tbs.P Tbs.w K mg base ["prime", "one", "other"] "poly_parts" (defScope s_poly_parts) f cdv A outer s H E) (wishOf fun _ => E) := takes_of rfl rfl rfl rfl
    exact (ss_cons (s_expr (de_call (fun t ht => pe_callS c_check_polys.G (hr.mono (by decide)) (by rfl) c_check_polys.gm c_check_polys.kp c_check_polys.b (fun σ => passAt tk σ) ht) (da_cons (de_var (pv 0)) (da_cons (de_var (pv 1)) (da_cons (de_var (pv 2)) da_nil (fun hg hf => pa_cons hf hg)) (fun hg hf => pa_cons hf hg)) (fun hg hf => pa_cons hf hg)))) (ss_cons (s_if (dt_not (dt_truth (by rfl) (de_var (pv 2)))) (ss_one (s_raise_ErrR (by rfl) T.e_Refused.choose_spec.choose_spec.1 hr tk T.e_Refused.choose_spec.choose_spec.2 (de_tup (da_cons de_str da_nil (fun hg hf => pa_cons hf hg))) (fun h => pa_cons h pa_nil))) ss_nil) (ss_one (s_ret (de_call (fun t ht => pe_callS c_parts_of_poly.G (hr.mono (by decide)) (by rfl) c_parts_of_poly.gm c_parts_of_poly.kp c_parts_of_poly.b (fun σ => passAt tk σ) ht) (da_cons (de_var (pv 0)) (da_cons (de_var (pv 1)) (da_cons (de_var (pv 2)) da_nil (fun hg hf => pa_cons hf hg)) (fun hg hf => pa_cons hf hg)) (fun hg hf => pa_cons hf hg)))))))
/-! poly_shared -/
abbrev s_poly_shared : Stmt := top 38
def m_poly_shared : List D → LH → R D := fnD 3 (sSeq (sExpr (dCall 3 m_check_polys (daCons (dVar 0) (daCons (dVar 1) (daCons (dVar 2) daNil))))) (sRet (dCall 3 m_shared_poly (daCons (dVar 0) (daCons (dVar 1) (daCons (dVar 2) daNil))))))
theorem sc_poly_shared : FnScope ["prime", "one", "other"] ["prime", "one", "other"] (defScope s_poly_shared) := ⟨rfl, rfl, rfl, by decide +kernel, rfl, by decide +kernel, by decide +kernel⟩
theorem ok_poly_shared {f : Addr} {fd : FuncData} (F : Fun K "poly_shared" "poly_shared" s_poly_shared f fd) (T : Txt K mg ct) (c_check_polys : DefAt K mg base ct "check_polys" 4 3 ["prime", "one", "other"] m_check_polys) (c_shared_poly : DefAt K mg base ct "shared_poly" 4 3 ["prime", "one", "other"] m_shared_poly) : FnOk Tbs.P Tbs.w K mg base (L2.CX Tbs.P Tbs.w) 5 f fd ["prime", "one", "other"] (spD ⟨K, ct⟩ 3 m_poly_shared) :=
  fun_okD F sc_poly_shared rfl fun cdv A outer s H E hr => by
    have nd := sc_poly_shared.nd
    have tk : Takes (cxOf (L2.CX Tbs.P Tbs.w) Tbs.P Tbs.w K mg base ["prime", "one", "other"] "poly_shared" (defScope s_poly_shared) f cdv A outer s H E) (wishOf fun _ => E) := takes_of rfl rfl rfl rfl
    exact (ss_cons (s_expr (de_call (fun t ht => pe_callS c_check_polys.G (hr.mono (by decide)) (by rfl) c_check_polys.gm c_check_polys.kp c_check_polys.b (fun σ => passAt tk σ) ht) (da_cons (de_var (pv 0)) (da_cons (de_var (pv 1)) (da_cons (de_var (pv 2)) da_nil (fun hg hf => pa_cons hf hg)) (fun hg hf => pa_cons hf hg)) (fun hg hf => pa_cons hf hg)))) (ss_one (s_ret (de_call (fun t ht => pe_callS c_shared_poly.G (hr.mono (by decide)) (by rfl) c_shared_poly.gm c_shared_poly.kp c_shared_poly.b (fun σ => passAt tk σ) ht) (da_cons (de_var (pv 0)) (da_cons (de_var (pv 1)) (da_cons (de_var (pv 2)) da_nil (fun hg hf => pa_cons hf hg)) (fun hg hf => pa_cons hf hg)) (fun hg hf => pa_cons hf hg))))))
/-! _law_pot -/
abbrev s_law_pot : Stmt := top 40
def m_law_pot : List D → LH → R (List D) := fnF 4 (sSeq (sSet 2 (dIf (dB (d2 kLt (dVar 1) (dL kLen (daCons (dVar 0) daNil)))) (dL kIntOf (daCons (d2 kIx (dVar 0) (dVar 1)) daNil)) (d2 kPlus (d2 kTimes (dC (.int 157)) (dVar 1)) (dC (.int 83))))) (sSeq (sSet 3 (d2 kMod (dL kIntOf (daCons (dL (kI1 fun i => if i < 0 then -i else i) (daCons (dVar 2) daNil)) daNil)) (d2 kPow (d2 kPow (dC (.int 10)) (dC (.int 53))) (dC (.int 6))))) (sRetF (fun env L => ((daCons (dL (kI2 fun i j => if j > i then j else i) (daCons (dC (.int 0)) (daCons (d2 kSub (dVar 3) (d2 kPow (dC (.int 10)) (dC (.int 16)))) daNil))) (daCons (d2 kPlus (d2 kPlus (d2 kPlus (d2 kTimes (d2 kMod (dL kIntOf (daCons (dVar 3) daNil)) (dC (.int 2147483489))) (dC (.int 97))) (d2 kTimes (dC (.int 619)) (dVar 1))) (d2 kTimes (dC (.int 37)) (dL kIntOf (daCons (d2 kLt (dVar 2) (dC (.int 0))) daNil)))) (dC (.int 19))) (daCons (dC (.int 0)) daNil))) env L).bind fun ds L1 => if fits ds.length then .ok ds L1 else .no))))
theorem sc_law_pot : FnScope ["_law_script", "_law_spot", "_law_cell", "_law_great"] ["_law_script", "_law_spot"] (defScope s_law_pot) := ⟨rfl, rfl, rfl, by decide +kernel, rfl, by decide +kernel, by decide +kernel⟩
theorem ok_law_pot {f : Addr} {fd : FuncData} (F : Fun K "_law_pot" "_law_pot" s_law_pot f fd) (T : Txt K mg ct) : FnOk Tbs.P Tbs.w K mg base (L2.CX Tbs.P Tbs.w) 1 f fd ["_law_script", "_law_spot"] (spF ⟨K, ct⟩ 2 m_law_pot) :=
  fun_okF F sc_law_pot rfl fun cdv A outer s H E hr => by
    have nd := sc_law_pot.nd
    have tk : Takes (cxOf (L2.CX Tbs.P Tbs.w) Tbs.P Tbs.w K mg base ["_law_script", "_law_spot", "_law_cell", "_law_great"] "_law_pot" (defScope s_law_pot) f cdv A outer s H E) (wishOf fun _ => E) := takes_of rfl rfl rfl rfl
    exact (ss_cons (s_set (fun te ht => ps_set (i := 2) nd (by rfl) (by first | exact Or.inl rfl | exact Or.inr rfl) ht) (de_ifExp (dt_cmp op_lt does_lt (de_var (pv 1)) (de_callB (fun t ht => pe_callB call_len (by rfl) T.b_len PySem.boot_len ht) does_len (da_cons (de_var (pv 0)) da_nil (fun hg hf => pa_cons hf hg))) (nomark _)) (de_callB (fun t ht => pe_callTy call_int1 (by rfl) T.b_int PyProof.Rows.boot_int ht) does_intOf (da_cons (de_ix (by rfl) (de_var (pv 0)) (de_var (pv 1)) (fun _ _ => rfl)) da_nil (fun hg hf => pa_cons hf hg))) (de_op op_plus does_plus (de_op op_times does_times de_int (de_var (pv 1))) de_int))) (ss_cons (s_set (fun te ht => ps_set (i := 3) nd (by rfl) (by first | exact Or.inl rfl | exact Or.inr rfl) ht) (de_op op_mod does_mod (de_callB (fun t ht => pe_callTy call_int1 (by rfl) T.b_int PyProof.Rows.boot_int ht) does_intOf (da_cons (de_callB (fun t ht => pe_callB call_abs (by rfl) T.b_abs PyProof.Rows.boot_abs ht) does_abs (da_cons (de_var (pv 2)) da_nil (fun hg hf => pa_cons hf hg))) da_nil (fun hg hf => pa_cons hf hg))) (de_op op_powW does_pow (de_op op_powW does_pow de_int de_int) de_int))) (ss_one (s_retF (df_lst (da_cons (de_callB (fun t ht => pe_callB (call_max2 (by rfl)) (by rfl) T.b_max PyProof.Rows.boot_max ht) does_max2 (da_cons de_int (da_cons (de_op op_sub does_sub (de_var (pv 3)) (de_op op_powW does_pow de_int de_int)) da_nil (fun hg hf => pa_cons hf hg)) (fun hg hf => pa_cons hf hg))) (da_cons (de_op op_plus does_plus (de_op op_plus does_plus (de_op op_plus does_plus (de_op op_times does_times (de_op op_mod does_mod (de_callB (fun t ht => pe_callTy call_int1 (by rfl) T.b_int PyProof.Rows.boot_int ht) does_intOf (da_cons (de_var (pv 3)) da_nil (fun hg hf => pa_cons hf hg))) de_int) de_int) (de_op op_times does_times de_int (de_var (pv 1)))) (de_op op_times does_times de_int (de_callB (fun t ht => pe_callTy call_int1 (by rfl) T.b_int PyProof.Rows.boot_int ht) does_intOf (da_cons (de_cmp op_lt does_lt (de_var (pv 2)) de_int (nomark _)) da_nil (fun hg hf => pa_cons hf hg))))) de_int) (da_cons de_int da_nil (fun hg hf => pa_cons hf hg)) (fun hg hf => pa_cons hf hg)) (fun hg hf => pa_cons hf hg)))))))
/-! _law_ladle -/
abbrev s_law_ladle : Stmt := top 41
def m_law_ladle : List D → LH → R D := fnD 5 (sSeq (sIf (dB (d2 kGt (d2 kIx (dVar 0) (dC (.int 0))) (dC (.int 0)))) (sSeq (sSet 4 (d2 kMod (dL kIntOf (daCons (d2 kIx (dVar 0) (dC (.int 0))) daNil)) (dVar 1))) (sSeq (sSetIx (dVar 0) (dC (.int 0)) (d2 kDivW (d2 kIx (dVar 0) (dC (.int 0))) (dVar 1))) (sRet (dVar 4)))) sNext) (sSeq (sSetIx (dVar 0) (dC (.int 2)) (d2 kPlus (d2 kIx (dVar 0) (dC (.int 2))) (dC (.int 1)))) (sSeq (sSet 2 (d2 kMod (dL kIntOf (daCons (d2 kPlus (d2 kIx (dVar 0) (dC (.int 1))) (d2 kTimes (dC (.int 7368787)) (d2 kIx (dVar 0) (dC (.int 2))))) daNil)) (dC (.int 2305843009213693951)))) (sSeq (sSet 3 (d2 kPlus (d2 kTimes (d2 kMod (dL kIntOf (daCons (d2 kPlus (d2 kTimes (dVar 2) (dVar 2)) (d2 kTimes (dC (.int 163)) (d2 kIx (dVar 0) (dC (.int 2))))) daNil)) (dC (.int 2305843009213693951))) (dC (.int 4256249))) (dVar 2))) (sRet (d2 kMod (dL kIntOf (daCons (d2 kDivW (dVar 3) (dC (.int 65536))) daNil)) (dVar 1)))))))
theorem sc_law_ladle : FnScope ["_law_pot_here", "_law_total", "_law_one", "_law_two", "_law_found"] ["_law_pot_here", "_law_total"] (defScope s_law_ladle) := ⟨rfl, rfl, rfl, by decide +kernel, rfl, by decide +kernel, by decide +kernel⟩
theorem ok_law_ladle {f : Addr} {fd : FuncData} (F : Fun K "_law_ladle" "_law_ladle" s_law_ladle f fd) (T : Txt K mg ct) : FnOk Tbs.P Tbs.w K mg base (L2.CX Tbs.P Tbs.w) 1 f fd ["_law_pot_here", "_law_total"] (spD ⟨K, ct⟩ 2 m_law_ladle) :=
  fun_okD F sc_law_ladle rfl fun cdv A outer s H E hr => by
    have nd := sc_law_ladle.nd
    have tk : Takes (cxOf (L2.CX Tbs.P Tbs.w) Tbs.P Tbs.w K mg base ["_law_pot_here", "_law_total", "_law_one", "_law_two", "_law_found"] "_law_ladle" (defScope s_law_ladle) f cdv A outer s H E) (wishOf fun _ => E) := takes_of rfl rfl rfl rfl
    exact (ss_cons (s_if (dt_cmp op_gt does_gt (de_ix (by rfl) (de_var (pv 0)) de_int (fun _ _ => rfl)) de_int (nomark _)) (ss_cons (s_set (fun te ht => ps_set (i := 4) nd (by rfl) (by first | exact Or.inl rfl | exact Or.inr rfl) ht) (de_op op_mod does_mod (de_callB (fun t ht => pe_callTy call_int1 (by rfl) T.b_int PyProof.Rows.boot_int ht) does_intOf (da_cons (de_ix (by rfl) (de_var (pv 0)) de_int (fun _ _ => rfl)) da_nil (fun hg hf => pa_cons hf hg))) (de_var (pv 1)))) (ss_cons (s_setIx (fun to ti te ho hi he => ps_asg he (pg_sub ho hi set_list)) (de_var (pv 0)) de_int (de_op op_fdivW does_divW (de_ix (by rfl) (de_var (pv 0)) de_int (fun _ _ => rfl)) (de_var (pv 1)))) (ss_one (s_ret (de_var (pv 4)))))) ss_nil) (ss_cons (s_setIx (fun to ti te ho hi he => ps_asg he (pg_sub ho hi set_list)) (de_var (pv 0)) de_int (de_op op_plus does_plus (de_ix (by rfl) (de_var (pv 0)) de_int (fun _ _ => rfl)) de_int)) (ss_cons (s_set (fun te ht => ps_set (i := 2) nd (by rfl) (by first | exact Or.inl rfl | exact Or.inr rfl) ht) (de_op op_mod does_mod (de_callB (fun t ht => pe_callTy call_int1 (by rfl) T.b_int PyProof.Rows.boot_int ht) does_intOf (da_cons (de_op op_plus does_plus (de_ix (by rfl) (de_var (pv 0)) de_int (fun _ _ => rfl)) (de_op op_times does_times de_int (de_ix (by rfl) (de_var (pv 0)) de_int (fun _ _ => rfl)))) da_nil (fun hg hf => pa_cons hf hg))) de_int)) (ss_cons (s_set (fun te ht => ps_set (i := 3) nd (by rfl) (by first | exact Or.inl rfl | exact Or.inr rfl) ht) (de_op op_plus does_plus (de_op op_times does_times (de_op op_mod does_mod (de_callB (fun t ht => pe_callTy call_int1 (by rfl) T.b_int PyProof.Rows.boot_int ht) does_intOf (da_cons (de_op op_plus does_plus (de_op op_times does_times (de_var (pv 2)) (de_var (pv 2))) (de_op op_times does_times de_int (de_ix (by rfl) (de_var (pv 0)) de_int (fun _ _ => rfl)))) da_nil (fun hg hf => pa_cons hf hg))) de_int) de_int) (de_var (pv 2)))) (ss_one (s_ret (de_op op_mod does_mod (de_callB (fun t ht => pe_callTy call_int1 (by rfl) T.b_int PyProof.Rows.boot_int ht) does_intOf (da_cons (de_op op_fdivW does_divW (de_var (pv 3)) de_int) da_nil (fun hg hf => pa_cons hf hg))) (de_var (pv 1)))))))))
/-! _law_pick -/
abbrev s_law_pick : Stmt := top 42
def m_law_pick : List D → LH → R D := fnD 2 (sRet (d2 kIx (dVar 1) (dCall 2 m_law_ladle (daCons (dVar 0) (daCons (dL kLen (daCons (dVar 1) daNil)) daNil)))))
theorem sc_law_pick : FnScope ["_law_pot_here", "_law_items"] ["_law_pot_here", "_law_items"] (defScope s_law_pick) := ⟨rfl, rfl, rfl, by decide +kernel, rfl, by decide +kernel, by decide +kernel⟩
theorem ok_law_pick {f : Addr} {fd : FuncData} (F : Fun K "_law_pick" "_law_pick" s_law_pick f fd) (T : Txt K mg ct) (c_law_ladle : DefAt K mg base ct "_law_ladle" 1 2 ["_law_pot_here", "_law_total"] m_law_ladle) : FnOk Tbs.P Tbs.w K mg base (L2.CX Tbs.P Tbs.w) 2 f fd ["_law_pot_here", "_law_items"] (spD ⟨K, ct⟩ 2 m_law_pick) :=
  fun_okD F sc_law_pick rfl fun cdv A outer s H E hr => by
    have nd := sc_law_pick.nd
    have tk : Takes (cxOf (L2.CX Tbs.P Tbs.w) Tbs.P Tbs.w K mg base ["_law_pot_here", "_law_items"] "_law_pick" (defScope s_law_pick) f cdv A outer s H E) (wishOf fun _ => E) := takes_of rfl rfl rfl rfl
    exact (ss_one (s_ret (de_ix (by rfl) (de_var (pv 1)) (de_call (fun t ht => pe_callS c_law_ladle.G (hr.mono (by decide)) (by rfl) c_law_ladle.gm c_law_ladle.kp c_law_ladle.b (fun σ => passAt tk σ) ht) (da_cons (de_var (pv 0)) (da_cons (de_callB (fun t ht => pe_callB call_len (by rfl) T.b_len PySem.boot_len ht) does_len (da_cons (de_var (pv 1)) da_nil (fun hg hf => pa_cons hf hg))) da_nil (fun hg hf => pa_cons hf hg)) (fun hg hf => pa_cons hf hg))) (fun _ _ => rfl))))
/-! _law_trimmed -/
abbrev s_law_trimmed : Stmt := top 43
def m_law_trimmed : List D → LH → R D := fnD 2 (sSeq (sSet 1 (dL kLen (daCons (dVar 0) daNil))) (sSeq (sWhile 100000 (dAnd (dB (d2 kGt (dVar 1) (dC (.int 0)))) (dB (d2 kEq (d2 kIx (dVar 0) (d2 kSub (dVar 1) (dC (.int 1)))) (dC (.int 0))))) (sSet 1 (d2 kSub (dVar 1) (dC (.int 1))))) (sRet (dL kTupleOf (daCons (dSlice (dVar 0) doNone (doSome (dVar 1))) daNil)))))
theorem sc_law_trimmed : FnScope ["_law_numbers", "_law_size"] ["_law_numbers"] (defScope s_law_trimmed) := ⟨rfl, rfl, rfl, by decide +kernel, rfl, by decide +kernel, by decide +kernel⟩
theorem ok_law_trimmed {f : Addr} {fd : FuncData} (F : Fun K "_law_trimmed" "_law_trimmed" s_law_trimmed f fd) (T : Txt K mg ct) : FnOk Tbs.P Tbs.w K mg base (L2.CX Tbs.P Tbs.w) 1 f fd ["_law_numbers"] (spD ⟨K, ct⟩ 1 m_law_trimmed) :=
  fun_okD F sc_law_trimmed rfl fun cdv A outer s H E hr => by
    have nd := sc_law_trimmed.nd
    have tk : Takes (cxOf (L2.CX Tbs.P Tbs.w) Tbs.P Tbs.w K mg base ["_law_numbers", "_law_size"] "_law_trimmed" (defScope s_law_trimmed) f cdv A outer s H E) (wishOf fun _ => E) := takes_of rfl rfl rfl rfl
    exact (ss_cons (s_set (fun te ht => ps_set (i := 1) nd (by rfl) (by first | exact Or.inl rfl | exact Or.inr rfl) ht) (de_callB (fun t ht => pe_callB call_len (by rfl) T.b_len PySem.boot_len ht) does_len (da_cons (de_var (pv 0)) da_nil (fun hg hf => pa_cons hf hg)))) (ss_cons (s_while 100000 (fun tc tb hc hb => ps_while (passes_of (by rfl)) hc hb) (L2.PW.pt (dt_and (dt_cmp op_gt does_gt (de_var (pv 1)) de_int (nomark _)) (pw_and1 (dt_cmp (op_eqD (hu64 hr)) does_eq (de_ix (by rfl) (de_var (pv 0)) (de_op op_sub does_sub (de_var (pv 1)) de_int) (fun _ _ => rfl)) de_int (nomark _))))) (ss_one (s_set (fun te ht => ps_set (i := 1) nd (by rfl) (by first | exact Or.inl rfl | exact Or.inr rfl) ht) (de_op op_sub does_sub (de_var (pv 1)) de_int)))) (ss_one (s_ret (de_callB (fun t ht => pe_callTy call_tupF (by rfl) T.b_tuple PyProof.Rows.boot_tuple ht) does_tupleOf (da_cons (de_slice (by rfl) (de_var (pv 0)) do_none (do_some (de_var (pv 1)))) da_nil (fun hg hf => pa_cons hf hg)))))))
/-! _law_plus -/
abbrev s_law_plus : Stmt := top 44
def m_law_plus : List D → LH → R D := fnD 9 (sSeq (sSet 4 (dL (kI2 fun i j => if j > i then j else i) (daCons (dL kLen (daCons (dVar 1) daNil)) (daCons (dL kLen (daCons (dVar 2) daNil)) daNil)))) (sSeq (sPar 5 6 (daCons (d2 kPlus (dL kListOf (daCons (dVar 1) daNil)) (d2 kTimes (dL kLst (daCons (dC (.int 0)) daNil)) (d2 kSub (dVar 4) (dL kLen (daCons (dVar 1) daNil))))) (daCons (d2 kPlus (dL kListOf (daCons (dVar 2) daNil)) (d2 kTimes (dL kLst (daCons (dC (.int 0)) daNil)) (d2 kSub (dVar 4) (dL kLen (daCons (dVar 2) daNil))))) daNil))) (sRet (dCall 1 m_law_trimmed (daCons (dLc (iZip2 (daCons (dVar 5) (daCons (dVar 6) daNil))) (gSet2 7 8) [7, 8] dYes (d2 kMod (d2 kPlus (dVar 7) (d2 kTimes (dVar 3) (dVar 8))) (dVar 0))) daNil)))))
theorem sc_law_plus : FnScope ["_law_prime", "_law_one", "_law_other", "_law_factor", "_law_size", "_law_first", "_law_second", "_law_a", "_law_b"] ["_law_prime", "_law_one", "_law_other", "_law_factor"] (defScope s_law_plus) := ⟨rfl, rfl, rfl, by decide +kernel, rfl, by decide +kernel, by decide +kernel⟩
theorem ok_law_plus {f : Addr} {fd : FuncData} (F : Fun K "_law_plus" "_law_plus" s_law_plus f fd) (T : Txt K mg ct) (c_law_trimmed : DefAt K mg base ct "_law_trimmed" 1 1 ["_law_numbers"] m_law_trimmed) : FnOk Tbs.P Tbs.w K mg base (L2.CX Tbs.P Tbs.w) 2 f fd ["_law_prime", "_law_one", "_law_other", "_law_factor"] (spD ⟨K, ct⟩ 4 m_law_plus) :=
  fun_okD F sc_law_plus rfl fun cdv A outer s H E hr => by
    have nd := sc_law_plus.nd
    have tk : Takes (cxOf (L2.CX Tbs.P Tbs.w) Tbs.P Tbs.w K mg base ["_law_prime", "_law_one", "_law_other", "_law_factor", "_law_size", "_law_first", "_law_second", "_law_a", "_law_b"] "_law_plus" (defScope s_law_plus) f cdv A outer s H E) (wishOf fun _ => E) := takes_of rfl rfl rfl rfl
    exact (ss_cons (s_set (fun te ht => ps_set (i := 4) nd (by rfl) (by first | exact Or.inl rfl | exact Or.inr rfl) ht) (de_callB (fun t ht => pe_callB (call_max2 (by rfl)) (by rfl) T.b_max PyProof.Rows.boot_max ht) does_max2 (da_cons (de_callB (fun t ht => pe_callB call_len (by rfl) T.b_len PySem.boot_len ht) does_len (da_cons (de_var (pv 1)) da_nil (fun hg hf => pa_cons hf hg))) (da_cons (de_callB (fun t ht => pe_callB call_len (by rfl) T.b_len PySem.boot_len ht) does_len (da_cons (de_var (pv 2)) da_nil (fun hg hf => pa_cons hf hg))) da_nil (fun hg hf => pa_cons hf hg)) (fun hg hf => pa_cons hf hg)))) (ss_cons (s_par (fun t ht => ps_par (by rfl) nd (by rfl) (by rfl) (by decide) (by rfl) (by rfl) ht (by rfl)) (da_cons (de_op op_plus does_plus (de_callB (fun t ht => pe_callTy call_list_of (by rfl) T.b_list PyProof.Rows.boot_list ht) does_listOf (da_cons (de_var (pv 1)) da_nil (fun hg hf => pa_cons hf hg))) (de_op op_times does_times (de_lst (da_cons de_int da_nil (fun hg hf => pa_cons hf hg))) (de_op op_sub does_sub (de_var (pv 4)) (de_callB (fun t ht => pe_callB call_len (by rfl) T.b_len PySem.boot_len ht) does_len (da_cons (de_var (pv 1)) da_nil (fun hg hf => pa_cons hf hg)))))) (da_cons (de_op op_plus does_plus (de_callB (fun t ht => pe_callTy call_list_of (by rfl) T.b_list PyProof.Rows.boot_list ht) does_listOf (da_cons (de_var (pv 2)) da_nil (fun hg hf => pa_cons hf hg))) (de_op op_times does_times (de_lst (da_cons de_int da_nil (fun hg hf => pa_cons hf hg))) (de_op op_sub does_sub (de_var (pv 4)) (de_callB (fun t ht => pe_callB call_len (by rfl) T.b_len PySem.boot_len ht) does_len (da_cons (de_var (pv 2)) da_nil (fun hg hf => pa_cons hf hg)))))) da_nil (fun hg hf => pa_cons hf hg)) (fun hg hf => pa_cons hf hg))) (ss_one (s_ret (de_call (fun t ht => pe_callS c_law_trimmed.G (hr.mono (by decide)) (by rfl) c_law_trimmed.gm c_law_trimmed.kp c_law_trimmed.b (fun σ => passAt tk σ) ht) (da_cons (de_lc (pe_lc (by rfl) nd (di_zip (by rfl) (fun t ht => pi_zipB (by rfl) T.b_zip ht) (da_cons (de_var (pv 5)) (da_cons (de_var (pv 6)) da_nil (fun hg hf => pa_cons hf hg)) (fun hg hf => pa_cons hf hg))) (blkOk_by (own := [("_law_a", 7), ("_law_b", 8)]) (by first | decide +kernel | kernel_rfl)) (fun _ _ _ _ _ => (pg_tup (by rfl) (pgs_cons (pg_name (i := 7) nd (by rfl) (by first | exact Or.inl rfl | exact Or.inr rfl)) (pgs_cons (pg_name (i := 8) nd (by rfl) (by first | exact Or.inl rfl | exact Or.inr rfl)) pgs_nil)))) (fun _ _ _ _ _ => dts_nil) (fun _ _ _ _ _ => (de_op op_mod does_mod (de_op op_plus does_plus (de_var (pv 7)) (de_op op_times does_times (de_var (pv 3)) (de_var (pv 8)))) (de_var (pv 0))))) (doesv_gTup2 (by rfl) (by decide) (by decide))) da_nil (fun hg hf => pa_cons hf hg)))))))
/-! _law_times -/
abbrev s_law_times : Stmt := top 45
def m_law_times : List D → LH → R D := fnD 8 (sSeq (sNew 3 (fRep (dL kLst (daCons (dC (.int 0)) daNil)) (d2 kPlus (dL kLen (daCons (dVar 1) daNil)) (dL kLen (daCons (dVar 2) daNil))))) (sSeq (sFor (iEnum1 (daCons (dVar 1) daNil)) (gSet2 4 5) (sFor (iEnum1 (daCons (dVar 2) daNil)) (gSet2 6 7) (sSetIx (dVar 3) (d2 kPlus (dVar 4) (dVar 6)) (d2 kMod (d2 kPlus (d2 kIx (dVar 3) (d2 kPlus (dVar 4) (dVar 6))) (d2 kTimes (dVar 5) (dVar 7))) (dVar 0))))) (sRet (dCall 1 m_law_trimmed (daCons (dVar 3) daNil)))))
theorem sc_law_times : FnScope ["_law_prime", "_law_one", "_law_other", "_law_found", "_law_at", "_law_a", "_law_to", "_law_b"] ["_law_prime", "_law_one", "_law_other"] (defScope s_law_times) := ⟨rfl, rfl, rfl, by decide +kernel, rfl, by decide +kernel, by decide +kernel⟩
theorem ok_law_times {f : Addr} {fd : FuncData} (F : Fun K "_law_times" "_law_times" s_law_times f fd) (T : Txt K mg ct) (c_law_trimmed : DefAt K mg base ct "_law_trimmed" 1 1 ["_law_numbers"] m_law_trimmed) : FnOk Tbs.P Tbs.w K mg base (L2.CX Tbs.P Tbs.w) 2 f fd ["_law_prime", "_law_one", "_law_other"] (spD ⟨K, ct⟩ 3 m_law_times) :=
  fun_okD F sc_law_times rfl fun cdv A outer s H E hr => by
    have nd := sc_law_times.nd
    have tk : Takes (cxOf (L2.CX Tbs.P Tbs.w) Tbs.P Tbs.w K mg base ["_law_prime", "_law_one", "_law_other", "_law_found", "_law_at", "_law_a", "_law_to", "_law_b"] "_law_times" (defScope s_law_times) f cdv A outer s H E) (wishOf fun _ => E) := takes_of rfl rfl rfl rfl
    exact (ss_cons (s_new (fun te ht => ps_set (i := 3) nd (by rfl) (by first | exact Or.inl rfl | exact Or.inr rfl) ht) (df_rep (de_lst (da_cons de_int da_nil (fun hg hf => pa_cons hf hg))) (de_op op_plus does_plus (de_callB (fun t ht => pe_callB call_len (by rfl) T.b_len PySem.boot_len ht) does_len (da_cons (de_var (pv 1)) da_nil (fun hg hf => pa_cons hf hg))) (de_callB (fun t ht => pe_callB call_len (by rfl) T.b_len PySem.boot_len ht) does_len (da_cons (de_var (pv 2)) da_nil (fun hg hf => pa_cons hf hg)))))) (ss_cons (s_for (fun wi tb hi hb => ps_for (passes_of (by rfl)) (by rfl) hi (pg_tup (by rfl) (pgs_cons (pg_name (i := 4) nd (by rfl) (by first | exact Or.inl rfl | exact Or.inr rfl)) (pgs_cons (pg_name (i := 5) nd (by rfl) (by first | exact Or.inl rfl | exact Or.inr rfl)) pgs_nil))) hb) (di_enum (by rfl) (fun t ht => pi_enumB (by rfl) T.b_enumerate ht) (da_cons (de_var (pv 1)) da_nil (fun hg hf => pa_cons hf hg))) (does_gTup2 (by rfl)) (ss_one (s_for (fun wi tb hi hb => ps_for (passes_of (by rfl)) (by rfl) hi (pg_tup (by rfl) (pgs_cons (pg_name (i := 6) nd (by rfl) (by first | exact Or.inl rfl | exact Or.inr rfl)) (pgs_cons (pg_name (i := 7) nd (by rfl) (by first | exact Or.inl rfl | exact Or.inr rfl)) pgs_nil))) hb) (di_enum (by rfl) (fun t ht => pi_enumB (by rfl) T.b_enumerate ht) (da_cons (de_var (pv 2)) da_nil (fun hg hf => pa_cons hf hg))) (does_gTup2 (by rfl)) (ss_one (s_setIx (fun to ti te ho hi he => ps_asg he (pg_sub ho hi set_list)) (de_var (pv 3)) (de_op op_plus does_plus (de_var (pv 4)) (de_var (pv 6))) (de_op op_mod does_mod (de_op op_plus does_plus (de_ix (by rfl) (de_var (pv 3)) (de_op op_plus does_plus (de_var (pv 4)) (de_var (pv 6))) (fun _ _ => rfl)) (de_op op_times does_times (de_var (pv 5)) (de_var (pv 7)))) (de_var (pv 0)))))))) (ss_one (s_ret (de_call (fun t ht => pe_callS c_law_trimmed.G (hr.mono (by decide)) (by rfl) c_law_trimmed.gm c_law_trimmed.kp c_law_trimmed.b (fun σ => passAt tk σ) ht) (da_cons (de_var (pv 3)) da_nil (fun hg hf => pa_cons hf hg)))))))
/-! _law_undone -/
abbrev s_law_undone : Stmt := top 46
def m_law_undone : List D → LH → R D := fnD 3 (sRet (d2 kIx (dLc (iRange2 (daCons (dC (.int 1)) (daCons (dVar 0) daNil))) (gSet 2) [2] (dB (d2 kEq (d2 kMod (d2 kTimes (dVar 2) (dVar 1)) (dVar 0)) (dC (.int 1)))) (dVar 2)) (dC (.int 0))))
theorem sc_law_undone : FnScope ["_law_prime", "_law_number", "_law_one"] ["_law_prime", "_law_number"] (defScope s_law_undone) := ⟨rfl, rfl, rfl, by decide +kernel, rfl, by decide +kernel, by decide +kernel⟩
theorem ok_law_undone {f : Addr} {fd : FuncData} (F : Fun K "_law_undone" "_law_undone" s_law_undone f fd) (T : Txt K mg ct) : FnOk Tbs.P Tbs.w K mg base (L2.CX Tbs.P Tbs.w) 1 f fd ["_law_prime", "_law_number"] (spD ⟨K, ct⟩ 2 m_law_undone) :=
  fun_okD F sc_law_undone rfl fun cdv A outer s H E hr => by
    have nd := sc_law_undone.nd
    have tk : Takes (cxOf (L2.CX Tbs.P Tbs.w) Tbs.P Tbs.w K mg base ["_law_prime", "_law_number", "_law_one"] "_law_undone" (defScope s_law_undone) f cdv A outer s H E) (wishOf fun _ => E) := takes_of rfl rfl rfl rfl
    exact (ss_one (s_ret (de_ix (by rfl) (de_lc (pe_lc (by rfl) nd (di_range2 (fun t ht => pi_range2 (by rfl) T.b_range ht) (da_cons de_int (da_cons (de_var (pv 0)) da_nil (fun hg hf => pa_cons hf hg)) (fun hg hf => pa_cons hf hg))) (blkOk_by (own := [("_law_one", 2)]) (by first | decide +kernel | kernel_rfl)) (fun _ _ _ _ _ => (pg_name (i := 2) nd (by rfl) (by first | exact Or.inl rfl | exact Or.inr rfl))) (fun _ _ _ _ _ => (dts_one (dt_cmp (op_eqD (hu64 hr)) does_eq (de_op op_mod does_mod (de_op op_times does_times (de_var (pv 2)) (de_var (pv 1))) (de_var (pv 0))) de_int (nomark _)))) (fun _ _ _ _ _ => (de_var (pv 2)))) (doesv_gName (by decide))) de_int (fun _ _ => rfl))))
/-! _law_divided -/
abbrev s_law_divided : Stmt := top 47
def m_law_divided : List D → LH → R D := fnD 8 (sSeq (sParF 4 5 (dVar 1) (fRep (dL kLst (daCons (dC (.int 0)) daNil)) (dL (kI2 fun i j => if j > i then j else i) (daCons (dC (.int 1)) (daCons (d2 kPlus (d2 kSub (dL kLen (daCons (dVar 1) daNil)) (dL kLen (daCons (dVar 2) daNil))) (dC (.int 1))) daNil))))) (sSeq (sSet 3 (dCall 2 m_law_undone (daCons (dVar 0) (daCons (d2 kIx (dVar 2) (d1 kNeg (dC (.int 1)))) daNil)))) (sSeq (sWhile 100000 (dB (d2 kGe (dL kLen (daCons (dVar 4) daNil)) (dL kLen (daCons (dVar 2) daNil)))) (sSeq (sPar 6 7 (daCons (d2 kSub (dL kLen (daCons (dVar 4) daNil)) (dL kLen (daCons (dVar 2) daNil))) (daCons (d2 kMod (d2 kTimes (d2 kIx (dVar 4) (d1 kNeg (dC (.int 1)))) (dVar 3)) (dVar 0)) daNil))) (sSeq (sSetIx (dVar 5) (dVar 6) (dVar 7)) (sSet 4 (dCall 4 m_law_plus (daCons (dVar 0) (daCons (dVar 4) (daCons (d2 kPlus (d2 kTimes (dL kTup (daCons (dC (.int 0)) daNil)) (dVar 6)) (dL kTupleOf (daCons (dVar 2) daNil))) (daCons (d2 kSub (dC (.int 0)) (dVar 7)) daNil))))))))) (sRet (dL kTup (daCons (dCall 1 m_law_trimmed (daCons (dVar 5) daNil)) (daCons (dVar 4) daNil)))))))
theorem sc_law_divided : FnScope ["_law_prime", "_law_one", "_law_other", "_law_last", "_law_left", "_law_found", "_law_at", "_law_factor"] ["_law_prime", "_law_one", "_law_other"] (defScope s_law_divided) := ⟨rfl, rfl, rfl, by decide +kernel, rfl, by decide +kernel, by decide +kernel⟩
theorem ok_law_divided {f : Addr} {fd : FuncData} (F : Fun K "_law_divided" "_law_divided" s_law_divided f fd) (T : Txt K mg ct) (c_law_plus : DefAt K mg base ct "_law_plus" 2 4 ["_law_prime", "_law_one", "_law_other", "_law_factor"] m_law_plus) (c_law_trimmed : DefAt K mg base ct "_law_trimmed" 1 1 ["_law_numbers"] m_law_trimmed) (c_law_undone : DefAt K mg base ct "_law_undone" 1 2 ["_law_prime", "_law_number"] m_law_undone) : FnOk Tbs.P Tbs.w K mg base (L2.CX Tbs.P Tbs.w) 3 f fd ["_law_prime", "_law_one", "_law_other"] (spD ⟨K, ct⟩ 3 m_law_divided) :=
  fun_okD F sc_law_divided rfl fun cdv A outer s H E hr => by
    have nd := sc_law_divided.nd
    have tk : Takes (cxOf (L2.CX Tbs.P Tbs.w) Tbs.P Tbs.w K mg base ["_law_prime", "_law_one", "_law_other", "_law_last", "_law_left", "_law_found", "_law_at", "_law_factor"] "_law_divided" (defScope s_law_divided) f cdv A outer s H E) (wishOf fun _ => E) := takes_of rfl rfl rfl rfl
    exact (ss_cons (s_parF (fun t ht => ps_par (by rfl) nd (by rfl) (by rfl) (by decide) (by rfl) (by rfl) ht (by rfl)) (fun ta tb ha hb => pa_cons ha (pa_cons hb pa_nil)) (de_var (pv 1)) (df_rep (de_lst (da_cons de_int da_nil (fun hg hf => pa_cons hf hg))) (de_callB (fun t ht => pe_callB (call_max2 (by rfl)) (by rfl) T.b_max PyProof.Rows.boot_max ht) does_max2 (da_cons de_int (da_cons (de_op op_plus does_plus (de_op op_sub does_sub (de_callB (fun t ht => pe_callB call_len (by rfl) T.b_len PySem.boot_len ht) does_len (da_cons (de_var (pv 1)) da_nil (fun hg hf => pa_cons hf hg))) (de_callB (fun t ht => pe_callB call_len (by rfl) T.b_len PySem.boot_len ht) does_len (da_cons (de_var (pv 2)) da_nil (fun hg hf => pa_cons hf hg)))) de_int) da_nil (fun hg hf => pa_cons hf hg)) (fun hg hf => pa_cons hf hg))))) (ss_cons (s_set (fun te ht => ps_set (i := 3) nd (by rfl) (by first | exact Or.inl rfl | exact Or.inr rfl) ht) (de_call (fun t ht => pe_callS c_law_undone.G (hr.mono (by decide)) (by rfl) c_law_undone.gm c_law_undone.kp c_law_undone.b (fun σ => passAt tk σ) ht) (da_cons (de_var (pv 0)) (da_cons (de_ix (by rfl) (de_var (pv 2)) (de_neg de_int) (fun _ _ => rfl)) da_nil (fun hg hf => pa_cons hf hg)) (fun hg hf => pa_cons hf hg)))) (ss_cons (s_while 100000 (fun tc tb hc hb => ps_while (passes_of (by rfl)) hc hb) (dt_cmp op_ge does_ge (de_callB (fun t ht => pe_callB call_len (by rfl) T.b_len PySem.boot_len ht) does_len (da_cons (de_var (pv 4)) da_nil (fun hg hf => pa_cons hf hg))) (de_callB (fun t ht => pe_callB call_len (by rfl) T.b_len PySem.boot_len ht) does_len (da_cons (de_var (pv 2)) da_nil (fun hg hf => pa_cons hf hg))) (nomark _)) (ss_cons (s_par (fun t ht => ps_par (by rfl) nd (by rfl) (by rfl) (by decide) (by rfl) (by rfl) ht (by rfl)) (da_cons (de_op op_sub does_sub (de_callB (fun t ht => pe_callB call_len (by rfl) T.b_len PySem.boot_len ht) does_len (da_cons (de_var (pv 4)) da_nil (fun hg hf => pa_cons hf hg))) (de_callB (fun t ht => pe_callB call_len (by rfl) T.b_len PySem.boot_len ht) does_len (da_cons (de_var (pv 2)) da_nil (fun hg hf => pa_cons hf hg)))) (da_cons (de_op op_mod does_mod (de_op op_times does_times (de_ix (by rfl) (de_var (pv 4)) (de_neg de_int) (fun _ _ => rfl)) (de_var (pv 3))) (de_var (pv 0))) da_nil (fun hg hf => pa_cons hf hg)) (fun hg hf => pa_cons hf hg))) (ss_cons (s_setIx (fun to ti te ho hi he => ps_asg he (pg_sub ho hi set_list)) (de_var (pv 5)) (de_var (pv 6)) (de_var (pv 7))) (ss_one (s_set (fun te ht => ps_set (i := 4) nd (by rfl) (by first | exact Or.inl rfl | exact Or.inr rfl) ht) (de_call (fun t ht => pe_callS c_law_plus.G (hr.mono (by decide)) (by rfl) c_law_plus.gm c_law_plus.kp c_law_plus.b (fun σ => passAt tk σ) ht) (da_cons (de_var (pv 0)) (da_cons (de_var (pv 4)) (da_cons (de_op op_plus does_plus (de_op op_times does_times (de_tup (da_cons de_int da_nil (fun hg hf => pa_cons hf hg))) (de_var (pv 6))) (de_callB (fun t ht => pe_callTy call_tupF (by rfl) T.b_tuple PyProof.Rows.boot_tuple ht) does_tupleOf (da_cons (de_var (pv 2)) da_nil (fun hg hf => pa_cons hf hg)))) (da_cons (de_op op_sub does_sub de_int (de_var (pv 7))) da_nil (fun hg hf => pa_cons hf hg)) (fun hg hf => pa_cons hf hg)) (fun hg hf => pa_cons hf hg)) (fun hg hf => pa_cons hf hg)))))))) (ss_one (s_ret (de_tup (da_cons (de_call (fun t ht => pe_callS c_law_trimmed.G (hr.mono (by decide)) (by rfl) c_law_trimmed.gm c_law_trimmed.kp c_law_trimmed.b (fun σ => passAt tk σ) ht) (da_cons (de_var (pv 5)) da_nil (fun hg hf => pa_cons hf hg))) (da_cons (de_var (pv 4)) da_nil (fun hg hf => pa_cons hf hg)) (fun hg hf => pa_cons hf hg))))))))
/-! _law_shared -/
abbrev s_law_shared : Stmt := top 48
def m_law_shared : List D → LH → R D := fnD 5 (sSeq (sWhile 100000 (dB (d2 kNe (dVar 2) (dL kTup daNil))) (sPar 1 2 (daCons (dVar 2) (daCons (d2 kIx (dCall 3 m_law_divided (daCons (dVar 0) (daCons (dVar 1) (daCons (dVar 2) daNil)))) (dC (.int 1))) daNil)))) (sSeq (sIf (dB (d2 kEq (dVar 1) (dL kTup daNil))) (sRet (dL kTup daNil)) sNext) (sSeq (sSet 3 (dCall 2 m_law_undone (daCons (dVar 0) (daCons (d2 kIx (dVar 1) (d1 kNeg (dC (.int 1)))) daNil)))) (sRet (dL kTupleOf (daCons (dLc (iVal (dVar 1)) (gSet 4) [4] dYes (d2 kMod (d2 kTimes (dVar 3) (dVar 4)) (dVar 0))) daNil))))))
theorem sc_law_shared : FnScope ["_law_prime", "_law_one", "_law_other", "_law_factor", "_law_number"] ["_law_prime", "_law_one", "_law_other"] (defScope s_law_shared) := ⟨rfl, rfl, rfl, by decide +kernel, rfl, by decide +kernel, by decide +kernel⟩
theorem ok_law_shared {f : Addr} {fd : FuncData} (F : Fun K "_law_shared" "_law_shared" s_law_shared f fd) (T : Txt K mg ct) (c_law_divided : DefAt K mg base ct "_law_divided" 3 3 ["_law_prime", "_law_one", "_law_other"] m_law_divided) (c_law_undone : DefAt K mg base ct "_law_undone" 1 2 ["_law_prime", "_law_number"] m_law_undone) : FnOk Tbs.P Tbs.w K mg base (L2.CX Tbs.P Tbs.w) 4 f fd ["_law_prime", "_law_one", "_law_other"] (spD ⟨K, ct⟩ 3 m_law_shared) :=
  fun_okD F sc_law_shared rfl fun cdv A outer s H E hr => by
    have nd := sc_law_shared.nd
    have tk : Takes (cxOf (L2.CX Tbs.P Tbs.w) Tbs.P Tbs.w K mg base ["_law_prime", "_law_one", "_law_other", "_law_factor", "_law_number"] "_law_shared" (defScope s_law_shared) f cdv A outer s H E) (wishOf fun _ => E) := takes_of rfl rfl rfl rfl
    exact (ss_cons (s_while 100000 (fun tc tb hc hb => ps_while (passes_of (by rfl)) hc hb) (dt_cmp (op_neD (hu64 hr)) does_ne (de_var (pv 2)) (de_tup da_nil) (nomark _)) (ss_one (s_par (fun t ht => ps_par (by rfl) nd (by rfl) (by rfl) (by decide) (by rfl) (by rfl) ht (by rfl)) (da_cons (de_var (pv 2)) (da_cons (de_ix (by rfl) (de_call (fun t ht => pe_callS c_law_divided.G (hr.mono (by decide)) (by rfl) c_law_divided.gm c_law_divided.kp c_law_divided.b (fun σ => passAt tk σ) ht) (da_cons (de_var (pv 0)) (da_cons (de_var (pv 1)) (da_cons (de_var (pv 2)) da_nil (fun hg hf => pa_cons hf hg)) (fun hg hf => pa_cons hf hg)) (fun hg hf => pa_cons hf hg))) de_int (fun _ _ => rfl)) da_nil (fun hg hf => pa_cons hf hg)) (fun hg hf => pa_cons hf hg))))) (ss_cons (s_if (dt_cmp (op_eqD (hu64 hr)) does_eq (de_var (pv 1)) (de_tup da_nil) (nomark _)) (ss_one (s_ret (de_tup da_nil))) ss_nil) (ss_cons (s_set (fun te ht => ps_set (i := 3) nd (by rfl) (by first | exact Or.inl rfl | exact Or.inr rfl) ht) (de_call (fun t ht => pe_callS c_law_undone.G (hr.mono (by decide)) (by rfl) c_law_undone.gm c_law_undone.kp c_law_undone.b (fun σ => passAt tk σ) ht) (da_cons (de_var (pv 0)) (da_cons (de_ix (by rfl) (de_var (pv 1)) (de_neg de_int) (fun _ _ => rfl)) da_nil (fun hg hf => pa_cons hf hg)) (fun hg hf => pa_cons hf hg)))) (ss_one (s_ret (de_callB (fun t ht => pe_callTy call_tupF (by rfl) T.b_tuple PyProof.Rows.boot_tuple ht) does_tupleOf (da_cons (de_lc (pe_lc (by rfl) nd (di_seq (by rfl) (de_var (pv 1))) (blkOk_by (own := [("_law_number", 4)]) (by first | decide +kernel | kernel_rfl)) (fun _ _ _ _ _ => (pg_name (i := 4) nd (by rfl) (by first | exact Or.inl rfl | exact Or.inr rfl))) (fun _ _ _ _ _ => dts_nil) (fun _ _ _ _ _ => (de_op op_mod does_mod (de_op op_times does_times (de_var (pv 3)) (de_var (pv 4))) (de_var (pv 0))))) (doesv_gName (by decide))) da_nil (fun hg hf => pa_cons hf hg))))))))
/-! _law_drawn_poly -/
abbrev s_law_drawn_poly : Stmt := top 49
def m_law_drawn_poly : List D → LH → R D := fnD 5 (sSeq (sSet 3 (dCall 2 m_law_ladle (daCons (dVar 0) (daCons (d2 kPlus (dVar 2) (dC (.int 2))) daNil)))) (sRet (dCall 1 m_law_trimmed (daCons (dLc (iRange1 (daCons (dVar 3) daNil)) (gSet 4) [4] dYes (dCall 2 m_law_ladle (daCons (dVar 0) (daCons (dVar 1) daNil)))) daNil))))
theorem sc_law_drawn_poly : FnScope ["_law_pot_here", "_law_prime", "_law_most", "_law_size", "_law_place"] ["_law_pot_here", "_law_prime", "_law_most"] (defScope s_law_drawn_poly) := ⟨rfl, rfl, rfl, by decide +kernel, rfl, by decide +kernel, by decide +kernel⟩
theorem ok_law_drawn_poly {f : Addr} {fd : FuncData} (F : Fun K "_law_drawn_poly" "_law_drawn_poly" s_law_drawn_poly f fd) (T : Txt K mg ct) (c_law_ladle : DefAt K mg base ct "_law_ladle" 1 2 ["_law_pot_here", "_law_total"] m_law_ladle) (c_law_trimmed : DefAt K mg base ct "_law_trimmed" 1 1 ["_law_numbers"] m_law_trimmed) : FnOk Tbs.P Tbs.w K mg base (L2.CX Tbs.P Tbs.w) 2 f fd ["_law_pot_here", "_law_prime", "_law_most"] (spD ⟨K, ct⟩ 3 m_law_drawn_poly) :=
  fun_okD F sc_law_drawn_poly rfl fun cdv A outer s H E hr => by
    have nd := sc_law_drawn_poly.nd
    have tk : Takes (cxOf (L2.CX Tbs.P Tbs.w) Tbs.P Tbs.w K mg base ["_law_pot_here", "_law_prime", "_law_most", "_law_size", "_law_place"] "_law_drawn_poly" (defScope s_law_drawn_poly) f cdv A outer s H E) (wishOf fun _ => E) := takes_of rfl rfl rfl rfl
    exact (ss_cons (s_set (fun te ht => ps_set (i := 3) nd (by rfl) (by first | exact Or.inl rfl | exact Or.inr rfl) ht) (de_call (fun t ht => pe_callS c_law_ladle.G (hr.mono (by decide)) (by rfl) c_law_ladle.gm c_law_ladle.kp c_law_ladle.b (fun σ => passAt tk σ) ht) (da_cons (de_var (pv 0)) (da_cons (de_op op_plus does_plus (de_var (pv 2)) de_int) da_nil (fun hg hf => pa_cons hf hg)) (fun hg hf => pa_cons hf hg)))) (ss_one (s_ret (de_call (fun t ht => pe_callS c_law_trimmed.G (hr.mono (by decide)) (by rfl) c_law_trimmed.gm c_law_trimmed.kp c_law_trimmed.b (fun σ => passAt tk σ) ht) (da_cons (de_lc (pe_lc (by rfl) nd (di_range1 (fun t ht => pi_range1 (by rfl) T.b_range ht) (da_cons (de_var (pv 3)) da_nil (fun hg hf => pa_cons hf hg))) (blkOk_by (own := [("_law_place", 4)]) (by first | decide +kernel | kernel_rfl)) (fun _ _ _ _ _ => (pg_name (i := 4) nd (by rfl) (by first | exact Or.inl rfl | exact Or.inr rfl))) (fun _ _ _ _ _ => dts_nil) (fun _ _ _ _ _ => (de_call (fun t ht => pe_callS c_law_ladle.G (hr.mono (by decide)) (by rfl) c_law_ladle.gm c_law_ladle.kp c_law_ladle.b (fun σ => passAt takes0 σ) ht) (da_cons (de_var (pv 0)) (da_cons (de_var (pv 1)) da_nil (fun hg hf => pa_cons hf hg)) (fun hg hf => pa_cons hf hg))))) (doesv_gName (by decide))) da_nil (fun hg hf => pa_cons hf hg))))))
/-! _law_is_due -/
abbrev s_law_is_due : Stmt := top 50
def m_law_is_due : List D → LH → R D := fnD 3 (sSeq (sIf (dOr (dNot (dTruth (dL kIsi (daCons (dVar 1) (daCons (dC (.obj (.ty "tuple"))) daNil))))) (dB (d2 kGt (dL kLen (daCons (dVar 1) daNil)) (dC (.int 13))))) (sRet (dC (.bl false))) sNext) (sSeq (sIf (dB (d2 kNe (dLc (iVal (dVar 1)) (gSet 2) [2] (dOr (dNot (dTruth (dL kIsi (daCons (dVar 2) (daCons (dC (.obj (.ty "int"))) daNil))))) (dTruth (dL kIsi (daCons (dVar 2) (daCons (dC (.obj (.ty "bool"))) daNil))))) (dVar 2)) (dL kLst daNil))) (sRet (dC (.bl false))) sNext) (sRet (deAnd (d2 kEq (dLc (iVal (dVar 1)) (gSet 2) [2] (dNot (dB (dChain kLe kLt (dC (.int 0)) (dVar 2) (dVar 0)))) (dVar 2)) (dL kLst daNil)) (deOr (d2 kEq (dVar 1) (dL kTup daNil)) (d2 kNe (d2 kIx (dVar 1) (d1 kNeg (dC (.int 1)))) (dC (.int 0))))))))
theorem sc_law_is_due : FnScope ["_law_prime", "_law_value", "_law_one"] ["_law_prime", "_law_value"] (defScope s_law_is_due) := ⟨rfl, rfl, rfl, by decide +kernel, rfl, by decide +kernel, by decide +kernel⟩
theorem ok_law_is_due {f : Addr} {fd : FuncData} (F : Fun K "_law_is_due" "_law_is_due" s_law_is_due f fd) (T : Txt K mg ct) : FnOk Tbs.P Tbs.w K mg base (L2.CX Tbs.P Tbs.w) 1 f fd ["_law_prime", "_law_value"] (spD ⟨K, ct⟩ 2 m_law_is_due) :=
  fun_okD F sc_law_is_due rfl fun cdv A outer s H E hr => by
    have nd := sc_law_is_due.nd
    have tk : Takes (cxOf (L2.CX Tbs.P Tbs.w) Tbs.P Tbs.w K mg base ["_law_prime", "_law_value", "_law_one"] "_law_is_due" (defScope s_law_is_due) f cdv A outer s H E) (wishOf fun _ => E) := takes_of rfl rfl rfl rfl
    exact (ss_cons (s_if (L2.PW.pt (dt_or (dt_not (dt_truth (by rfl) (de_callB (fun t ht => pe_callB call_isi (by rfl) T.b_isinstance PyProof.Rows.boot_isinstance ht) does_isi (da_cons (de_var (pv 1)) (da_cons (de_ty (pe_bltn (by rfl) T.b_tuple PyProof.Rows.boot_tuple rfl)) da_nil (fun hg hf => pa_cons hf hg)) (fun hg hf => pa_cons hf hg))))) (pw_or1 (dt_cmp op_gt does_gt (de_callB (fun t ht => pe_callB call_len (by rfl) T.b_len PySem.boot_len ht) does_len (da_cons (de_var (pv 1)) da_nil (fun hg hf => pa_cons hf hg))) de_int (nomark _))))) (ss_one (s_ret de_bl)) ss_nil) (ss_cons (s_if (dt_cmp (op_neD (hu64 hr)) does_ne (de_lc (pe_lc (by rfl) nd (di_seq (by rfl) (de_var (pv 1))) (blkOk_by (own := [("_law_one", 2)]) (by first | decide +kernel | kernel_rfl)) (fun _ _ _ _ _ => (pg_name (i := 2) nd (by rfl) (by first | exact Or.inl rfl | exact Or.inr rfl))) (fun _ _ _ _ _ => (dts_one (L2.PW.pt (dt_or (dt_not (dt_truth (by rfl) (de_callB (fun t ht => pe_callB call_isi (by rfl) T.b_isinstance PyProof.Rows.boot_isinstance ht) does_isi (da_cons (de_var (pv 2)) (da_cons (de_ty (pe_bltn (by rfl) T.b_int PyProof.Rows.boot_int rfl)) da_nil (fun hg hf => pa_cons hf hg)) (fun hg hf => pa_cons hf hg))))) (pw_or1 (dt_truth (by rfl) (de_callB (fun t ht => pe_callB call_isi (by rfl) T.b_isinstance PyProof.Rows.boot_isinstance ht) does_isi (da_cons (de_var (pv 2)) (da_cons (de_ty (pe_bltn (by rfl) T.b_bool PyProof.Rows.boot_bool rfl)) da_nil (fun hg hf => pa_cons hf hg)) (fun hg hf => pa_cons hf hg))))))))) (fun _ _ _ _ _ => (de_var (pv 2)))) (doesv_gName (by decide))) (de_lst da_nil) (nomark _)) (ss_one (s_ret de_bl)) ss_nil) (ss_one (s_ret (de_and (by rfl) (de_cmp (op_eqD (hu64 hr)) does_eq (de_lc (pe_lc (by rfl) nd (di_seq (by rfl) (de_var (pv 1))) (blkOk_by (own := [("_law_one", 2)]) (by first | decide +kernel | kernel_rfl)) (fun _ _ _ _ _ => (pg_name (i := 2) nd (by rfl) (by first | exact Or.inl rfl | exact Or.inr rfl))) (fun _ _ _ _ _ => (dts_one (dt_not (dt_chain op_le op_lt does_le does_lt de_int (de_var (pv 2)) (de_var (pv 0)))))) (fun _ _ _ _ _ => (de_var (pv 2)))) (doesv_gName (by decide))) (de_lst da_nil) (nomark _)) (pe_one (de_or (by rfl) (de_cmp (op_eqD (hu64 hr)) does_eq (de_var (pv 1)) (de_tup da_nil) (nomark _)) (pe_one (de_cmp (op_neD (hu64 hr)) does_ne (de_ix (by rfl) (de_var (pv 1)) (de_neg de_int) (fun _ _ => rfl)) de_int (nomark _))))))))))
/-! _law_near -/
abbrev s_law_near : Stmt := top 51
def m_law_near : List D → LH → R D := fnD 4 (sSeq (sSet 3 (dL kLst (daCons (dVar 2) (daCons (dL kListOf (daCons (dVar 2) daNil)) (daCons (d2 kPlus (dVar 2) (dL kTup (daCons (dC (.int 0)) daNil))) (daCons (d2 kPlus (dVar 2) (dL kTup (daCons (dC (.int 1)) daNil))) (daCons (d2 kPlus (dVar 2) (dL kTup (daCons (dVar 1) daNil))) (daCons (d2 kPlus (dVar 2) (dL kTup (daCons (d1 kNeg (dC (.int 1))) daNil))) (daCons (d2 kPlus (dL kTup (daCons (dC (.bl true)) daNil)) (dVar 2)) (daCons (dC .non) daNil)))))))))) (sSeq (sSet 3 (d2 kPlus (dVar 3) (dL kLst (daCons (dC (.int 0)) (daCons (dC (.str "1")) (daCons (dC (.dic [])) (daCons (dL kTup (daCons (dC (.int 0)) daNil)) (daCons (d2 kTimes (dL kTup (daCons (dC (.int 1)) daNil)) (dC (.int 13))) (daCons (d2 kTimes (dL kTup (daCons (dC (.int 1)) daNil)) (dC (.int 14))) (daCons (d2 kPlus (d2 kTimes (dL kTup (daCons (dC (.int 0)) daNil)) (dC (.int 12))) (dL kTup (daCons (dC (.int 1)) daNil))) (daCons (d2 kPlus (d2 kTimes (dL kTup (daCons (dC (.int 0)) daNil)) (dC (.int 13))) (dL kTup (daCons (dC (.int 1)) daNil))) daNil))))))))))) (sSeq (sSet 3 (d2 kPlus (dVar 3) (dL kLst (daCons (dL kTup (daCons (d2 kPlus (d2 kPow (dC (.int 10)) (dC (.int 60))) (dC (.int 1))) daNil)) (daCons (dL kTup (daCons (dL kTup (daCons (dC (.int 1)) daNil)) daNil)) (daCons (dL kTup (daCons (dC (.str "1")) daNil)) daNil)))))) (sSeq (sSet 3 (d2 kPlus (dVar 3) (dL kLst (daCons (dSlice (dVar 2) doNone (doSome (d1 kNeg (dC (.int 1))))) (daCons (dSlice (dVar 2) (doSome (dC (.int 1))) doNone) (daCons (dL kTup (daCons (d2 kSub (dVar 1) (dC (.int 1))) daNil)) (daCons (dL kTup (daCons (d2 kPlus (dVar 1) (dC (.int 1))) daNil)) (daCons (dL kTup (daCons (dC (.int 1)) (daCons (dC .non) daNil))) daNil)))))))) (sRet (d2 kPlus (dVar 3) (dL kLst (daCons (dL kTup (daCons (dCall 2 m_law_ladle (daCons (dVar 0) (daCons (dC (.int 9)) daNil))) (daCons (dCall 2 m_law_ladle (daCons (dVar 0) (daCons (dC (.int 9)) daNil))) daNil))) daNil))))))))
theorem sc_law_near : FnScope ["_law_pot_here", "_law_prime", "_law_poly", "_law_found"] ["_law_pot_here", "_law_prime", "_law_poly"] (defScope s_law_near) := ⟨rfl, rfl, rfl, by decide +kernel, rfl, by decide +kernel, by decide +kernel⟩
theorem ok_law_near {f : Addr} {fd : FuncData} (F : Fun K "_law_near" "_law_near" s_law_near f fd) (T : Txt K mg ct) (c_law_ladle : DefAt K mg base ct "_law_ladle" 1 2 ["_law_pot_here", "_law_total"] m_law_ladle) : FnOk Tbs.P Tbs.w K mg base (L2.CX Tbs.P Tbs.w) 2 f fd ["_law_pot_here", "_law_prime", "_law_poly"] (spD ⟨K, ct⟩ 3 m_law_near) :=
  fun_okD F sc_law_near rfl fun cdv A outer s H E hr => by
    have nd := sc_law_near.nd
    have tk : Takes (cxOf (L2.CX Tbs.P Tbs.w) Tbs.P Tbs.w K mg base ["_law_pot_here", "_law_prime", "_law_poly", "_law_found"] "_law_near" (defScope s_law_near) f cdv A outer s H E) (wishOf fun _ => E) := takes_of rfl rfl rfl rfl
    exact (ss_cons (s_set (fun te ht => ps_set (i := 3) nd (by rfl) (by first | exact Or.inl rfl | exact Or.inr rfl) ht) (de_lst (da_cons (de_var (pv 2)) (da_cons (de_callB (fun t ht => pe_callTy call_list_of (by rfl) T.b_list PyProof.Rows.boot_list ht) does_listOf (da_cons (de_var (pv 2)) da_nil (fun hg hf => pa_cons hf hg))) (da_cons (de_op op_plus does_plus (de_var (pv 2)) (de_tup (da_cons de_int da_nil (fun hg hf => pa_cons hf hg)))) (da_cons (de_op op_plus does_plus (de_var (pv 2)) (de_tup (da_cons de_int da_nil (fun hg hf => pa_cons hf hg)))) (da_cons (de_op op_plus does_plus (de_var (pv 2)) (de_tup (da_cons (de_var (pv 1)) da_nil (fun hg hf => pa_cons hf hg)))) (da_cons (de_op op_plus does_plus (de_var (pv 2)) (de_tup (da_cons (de_neg de_int) da_nil (fun hg hf => pa_cons hf hg)))) (da_cons (de_op op_plus does_plus (de_tup (da_cons de_bl da_nil (fun hg hf => pa_cons hf hg))) (de_var (pv 2))) (da_cons de_non da_nil (fun hg hf => pa_cons hf hg)) (fun hg hf => pa_cons hf hg)) (fun hg hf => pa_cons hf hg)) (fun hg hf => pa_cons hf hg)) (fun hg hf => pa_cons hf hg)) (fun hg hf => pa_cons hf hg)) (fun hg hf => pa_cons hf hg)) (fun hg hf => pa_cons hf hg)))) (ss_cons (s_set (fun te ht => ps_set (i := 3) nd (by rfl) (by first | exact Or.inl rfl | exact Or.inr rfl) ht) (de_op op_plus does_plus (de_var (pv 3)) (de_lst (da_cons de_int (da_cons de_str (da_cons (de_dict0 pe_dnewK) (da_cons (de_tup (da_cons de_int da_nil (fun hg hf => pa_cons hf hg))) (da_cons (de_op op_times does_times (de_tup (da_cons de_int da_nil (fun hg hf => pa_cons hf hg))) de_int) (da_cons (de_op op_times does_times (de_tup (da_cons de_int da_nil (fun hg hf => pa_cons hf hg))) de_int) (da_cons (de_op op_plus does_plus (de_op op_times does_times (de_tup (da_cons de_int da_nil (fun hg hf => pa_cons hf hg))) de_int) (de_tup (da_cons de_int da_nil (fun hg hf => pa_cons hf hg)))) (da_cons (de_op op_plus does_plus (de_op op_times does_times (de_tup (da_cons de_int da_nil (fun hg hf => pa_cons hf hg))) de_int) (de_tup (da_cons de_int da_nil (fun hg hf => pa_cons hf hg)))) da_nil (fun hg hf => pa_cons hf hg)) (fun hg hf => pa_cons hf hg)) (fun hg hf => pa_cons hf hg)) (fun hg hf => pa_cons hf hg)) (fun hg hf => pa_cons hf hg)) (fun hg hf => pa_cons hf hg)) (fun hg hf => pa_cons hf hg)) (fun hg hf => pa_cons hf hg))))) (ss_cons (s_set (fun te ht => ps_set (i := 3) nd (by rfl) (by first | exact Or.inl rfl | exact Or.inr rfl) ht) (de_op op_plus does_plus (de_var (pv 3)) (de_lst (da_cons (de_tup (da_cons (de_op op_plus does_plus (de_op op_powW does_pow de_int de_int) de_int) da_nil (fun hg hf => pa_cons hf hg))) (da_cons (de_tup (da_cons (de_tup (da_cons de_int da_nil (fun hg hf => pa_cons hf hg))) da_nil (fun hg hf => pa_cons hf hg))) (da_cons (de_tup (da_cons de_str da_nil (fun hg hf => pa_cons hf hg))) da_nil (fun hg hf => pa_cons hf hg)) (fun hg hf => pa_cons hf hg)) (fun hg hf => pa_cons hf hg))))) (ss_cons (s_set (fun te ht => ps_set (i := 3) nd (by rfl) (by first | exact Or.inl rfl | exact Or.inr rfl) ht) (de_op op_plus does_plus (de_var (pv 3)) (de_lst (da_cons (de_slice (by rfl) (de_var (pv 2)) do_none (do_some (de_neg de_int))) (da_cons (de_slice (by rfl) (de_var (pv 2)) (do_some de_int) do_none) (da_cons (de_tup (da_cons (de_op op_sub does_sub (de_var (pv 1)) de_int) da_nil (fun hg hf => pa_cons hf hg))) (da_cons (de_tup (da_cons (de_op op_plus does_plus (de_var (pv 1)) de_int) da_nil (fun hg hf => pa_cons hf hg))) (da_cons (de_tup (da_cons de_int (da_cons de_non da_nil (fun hg hf => pa_cons hf hg)) (fun hg hf => pa_cons hf hg))) da_nil (fun hg hf => pa_cons hf hg)) (fun hg hf => pa_cons hf hg)) (fun hg hf => pa_cons hf hg)) (fun hg hf => pa_cons hf hg)) (fun hg hf => pa_cons hf hg))))) (ss_one (s_ret (de_op op_plus does_plus (de_var (pv 3)) (de_lst (da_cons (de_tup (da_cons (de_call (fun t ht => pe_callS c_law_ladle.G (hr.mono (by decide)) (by rfl) c_law_ladle.gm c_law_ladle.kp c_law_ladle.b (fun σ => passAt tk σ) ht) (da_cons (de_var (pv 0)) (da_cons de_int da_nil (fun hg hf => pa_cons hf hg)) (fun hg hf => pa_cons hf hg))) (da_cons (de_call (fun t ht => pe_callS c_law_ladle.G (hr.mono (by decide)) (by rfl) c_law_ladle.gm c_law_ladle.kp c_law_ladle.b (fun σ => passAt tk σ) ht) (da_cons (de_var (pv 0)) (da_cons de_int da_nil (fun hg hf => pa_cons hf hg)) (fun hg hf => pa_cons hf hg))) da_nil (fun hg hf => pa_cons hf hg)) (fun hg hf => pa_cons hf hg))) da_nil (fun hg hf => pa_cons hf hg))))))))))
/-! _law_right -/
abbrev s_law_right : Stmt := top 52
def m_law_right : List D → LH → R D := fnD 11 (sSeq (sSet 1 (dCall 2 m_law_pick (daCons (dVar 0) (daCons (dL kLst (daCons (dC (.int 2)) (daCons (dC (.int 3)) (daCons (dC (.int 5)) (daCons (dC (.int 7)) daNil))))) daNil)))) (sSeq (sPar 3 4 (daCons (dCall 3 m_law_drawn_poly (daCons (dVar 0) (daCons (dVar 1) (daCons (dC (.int 12)) daNil)))) (daCons (dCall 3 m_law_drawn_poly (daCons (dVar 0) (daCons (dVar 1) (daCons (dCall 2 m_law_pick (daCons (dVar 0) (daCons (dL kLst (daCons (dC (.int 1)) (daCons (dC (.int 3)) (daCons (dC (.int 6)) (daCons (dC (.int 12)) daNil))))) daNil))) daNil)))) daNil))) (sSeq (sPar 5 6 (daCons (dCall 4 m_law_plus (daCons (dVar 1) (daCons (dVar 3) (daCons (dVar 4) (daCons (dC (.int 1)) daNil))))) (daCons (dCall 4 m_law_plus (daCons (dVar 1) (daCons (dVar 3) (daCons (dVar 4) (daCons (d1 kNeg (dC (.int 1))) daNil))))) daNil))) (sSeq (sIf (dOr (dB (d2 kNe (dCall 3 m_poly_sum (daCons (dVar 1) (daCons (dVar 3) (daCons (dVar 4) daNil)))) (dVar 5))) (dB (d2 kNe (dCall 3 m_poly_less (daCons (dVar 1) (daCons (dVar 3) (daCons (dVar 4) daNil)))) (dVar 6)))) (sRet (dC (.bl false))) sNext) (sSeq (sIf (dOr (dB (d2 kNe (dCall 3 m_poly_less (daCons (dVar 1) (daCons (dVar 5) (daCons (dVar 4) daNil)))) (dVar 3))) (dB (d2 kNe (dCall 3 m_poly_sum (daCons (dVar 1) (daCons (dVar 6) (daCons (dVar 4) daNil)))) (dVar 3)))) (sRet (dC (.bl false))) sNext) (sSeq (sIf (dB (d2 kNe (dCall 3 m_poly_product (daCons (dVar 1) (daCons (dVar 3) (daCons (dVar 4) daNil)))) (dCall 3 m_law_times (daCons (dVar 1) (daCons (dVar 3) (daCons (dVar 4) daNil)))))) (sRet (dC (.bl false))) sNext) (sSeq (sIf (dOr (dB (d2 kNe (dCall 3 m_poly_product (daCons (dVar 1) (daCons (dVar 4) (daCons (dVar 3) daNil)))) (dCall 3 m_law_times (daCons (dVar 1) (daCons (dVar 3) (daCons (dVar 4) daNil)))))) (dB (d2 kNe (dCall 3 m_poly_product (daCons (dVar 1) (daCons (dVar 3) (daCons (dL kTup daNil) daNil)))) (dL kTup daNil)))) (sRet (dC (.bl false))) sNext) (sSeq (sIf (dB (d2 kNe (dCall 3 m_poly_shared (daCons (dVar 1) (daCons (dVar 3) (daCons (dVar 4) daNil)))) (dCall 3 m_law_shared (daCons (dVar 1) (daCons (dVar 3) (daCons (dVar 4) daNil)))))) (sRet (dC (.bl false))) sNext) (sSeq (sIf (dB (d2 kNe (dCall 3 m_poly_shared (daCons (dVar 1) (daCons (dVar 3) (daCons (dL kTup daNil) daNil)))) (dCall 3 m_law_shared (daCons (dVar 1) (daCons (dVar 3) (daCons (dL kTup daNil) daNil)))))) (sRet (dC (.bl false))) sNext) (sSeq (sIf (dB (d2 kNe (dVar 4) (dL kTup daNil))) (sSeq (sSet 7 (dCall 3 m_poly_parts (daCons (dVar 1) (daCons (dVar 3) (daCons (dVar 4) daNil))))) (sSeq (sIf (dOr (dB (d2 kNe (dVar 7) (dCall 3 m_law_divided (daCons (dVar 1) (daCons (dVar 3) (daCons (dVar 4) daNil)))))) (dB (d2 kGe (dL kLen (daCons (d2 kIx (dVar 7) (dC (.int 1))) daNil)) (dL kLen (daCons (dVar 4) daNil))))) (sRet (dC (.bl false))) sNext) (sIf (dB (d2 kNe (dCall 4 m_law_plus (daCons (dVar 1) (daCons (dCall 3 m_law_times (daCons (dVar 1) (daCons (d2 kIx (dVar 7) (dC (.int 0))) (daCons (dVar 4) daNil)))) (daCons (d2 kIx (dVar 7) (dC (.int 1))) (daCons (dC (.int 1)) daNil))))) (dVar 3))) (sRet (dC (.bl false))) sNext))) sNext) (sSeq (sSet 2 (dCall 3 m_law_drawn_poly (daCons (dVar 0) (daCons (dVar 1) (daCons (dC (.int 4)) daNil))))) (sSeq (sPar 8 9 (daCons (dCall 3 m_law_times (daCons (dVar 1) (daCons (dSlice (dVar 3) doNone (doSome (dC (.int 5)))) (daCons (dVar 2) daNil)))) (daCons (dCall 3 m_law_times (daCons (dVar 1) (daCons (dSlice (dVar 4) doNone (doSome (dC (.int 5)))) (daCons (dVar 2) daNil)))) daNil))) (sSeq (sIf (dAnd (dB (d2 kNe (dVar 2) (dL kTup daNil))) (dB (d2 kNe (d2 kIx (dCall 3 m_law_divided (daCons (dVar 1) (daCons (dCall 3 m_poly_shared (daCons (dVar 1) (daCons (dVar 8) (daCons (dVar 9) daNil)))) (daCons (dVar 2) daNil)))) (dC (.int 1))) (dL kTup daNil)))) (sRet (dC (.bl false))) sNext) (sRet (d2 kEq (dLc (iVal (dCall 3 m_law_near (daCons (dVar 0) (daCons (dVar 1) (daCons (dVar 3) daNil))))) (gSet 10) [10] (dB (d2 kNe (dCall 2 m_is_poly (daCons (dVar 1) (daCons (dVar 10) daNil))) (dCall 2 m_law_is_due (daCons (dVar 1) (daCons (dVar 10) daNil))))) (dVar 10)) (dL kLst daNil))))))))))))))))
theorem sc_law_right : FnScope ["_law_pot_here", "_law_prime", "_law_third", "_law_one", "_law_other", "_law_total", "_law_less", "_law_told", "_law_first", "_law_second", "_law_value"] ["_law_pot_here"] (defScope s_law_right) := ⟨rfl, rfl, rfl, by decide +kernel, rfl, by decide +kernel, by decide +kernel⟩
theorem ok_law_right {f : Addr} {fd : FuncData} (F : Fun K "_law_right" "_law_right" s_law_right f fd) (T : Txt K mg ct) (c_law_divided : DefAt K mg base ct "_law_divided" 3 3 ["_law_prime", "_law_one", "_law_other"] m_law_divided) (c_law_drawn_poly : DefAt K mg base ct "_law_drawn_poly" 2 3 ["_law_pot_here", "_law_prime", "_law_most"] m_law_drawn_poly) (c_law_is_due : DefAt K mg base ct "_law_is_due" 1 2 ["_law_prime", "_law_value"] m_law_is_due) (c_law_near : DefAt K mg base ct "_law_near" 2 3 ["_law_pot_here", "_law_prime", "_law_poly"] m_law_near) (c_law_pick : DefAt K mg base ct "_law_pick" 2 2 ["_law_pot_here", "_law_items"] m_law_pick) (c_law_plus : DefAt K mg base ct "_law_plus" 2 4 ["_law_prime", "_law_one", "_law_other", "_law_factor"] m_law_plus) (c_law_shared : DefAt K mg base ct "_law_shared" 4 3 ["_law_prime", "_law_one", "_law_other"] m_law_shared) (c_law_times : DefAt K mg base ct "_law_times" 2 3 ["_law_prime", "_law_one", "_law_other"] m_law_times) (c_is_poly : DefAt K mg base ct "is_poly" 3 2 ["prime", "value"] m_is_poly) (c_poly_less : DefAt K mg base ct "poly_less" 5 3 ["prime", "one", "other"] m_poly_less) (c_poly_parts : DefAt K mg base ct "poly_parts" 5 3 ["prime", "one", "other"] m_poly_parts) (c_poly_product : DefAt K mg base ct "poly_product" 5 3 ["prime", "one", "other"] m_poly_product) (c_poly_shared : DefAt K mg base ct "poly_shared" 5 3 ["prime", "one", "other"] m_poly_shared) (c_poly_sum : DefAt K mg base ct "poly_sum" 5 3 ["prime", "one", "other"] m_poly_sum) : FnOk Tbs.P Tbs.w K mg base (L2.CX Tbs.P Tbs.w) 6 f fd ["_law_pot_here"] (spD ⟨K, ct⟩ 1 m_law_right) :=
  fun_okD F sc_law_right rfl fun cdv A outer s H E hr => by
    have nd := sc_law_right.nd
    have tk : Takes (cxOf (L2.CX Tbs.P Tbs.w) Tbs.P Tbs.w K mg base ["_law_pot_here", "_law_prime", "_law_third", "_law_one", "_law_other", "_law_total", "_law_less", "_law_told", "_law_first", "_law_second", "_law_value"] "_law_right" (defScope s_law_right) f cdv A outer s H E) (wishOf fun _ => E) := takes_of rfl rfl rfl rfl
    exact (ss_cons (s_set (fun te ht => ps_set (i := 1) nd (by rfl) (by first | exact Or.inl rfl | exact Or.inr rfl) ht) (de_call (fun t ht => pe_callS c_law_pick.G (hr.mono (by decide)) (by rfl) c_law_pick.gm c_law_pick.kp c_law_pick.b (fun σ => passAt tk σ) ht) (da_cons (de_var (pv 0)) (da_cons (de_lst (da_cons de_int (da_cons de_int (da_cons de_int (da_cons de_int da_nil (fun hg hf => pa_cons hf hg)) (fun hg hf => pa_cons hf hg)) (fun hg hf => pa_cons hf hg)) (fun hg hf => pa_cons hf hg))) da_nil (fun hg hf => pa_cons hf hg)) (fun hg hf => pa_cons hf hg)))) (ss_cons (s_par (fun t ht => ps_par (by rfl) nd (by rfl) (by rfl) (by decide) (by rfl) (by rfl) ht (by rfl)) (da_cons (de_call (fun t ht => pe_callS c_law_drawn_poly.G (hr.mono (by decide)) (by rfl) c_law_drawn_poly.gm c_law_drawn_poly.kp c_law_drawn_poly.b (fun σ => passAt tk σ) ht) (da_cons (de_var (pv 0)) (da_cons (de_var (pv 1)) (da_cons de_int da_nil (fun hg hf => pa_cons hf hg)) (fun hg hf => pa_cons hf hg)) (fun hg hf => pa_cons hf hg))) (da_cons (de_call (fun t ht => pe_callS c_law_drawn_poly.G (hr.mono (by decide)) (by rfl) c_law_drawn_poly.gm c_law_drawn_poly.kp c_law_drawn_poly.b (fun σ => passAt tk σ) ht) (da_cons (de_var (pv 0)) (da_cons (de_var (pv 1)) (da_cons (de_call (fun t ht => pe_callS c_law_pick.G (hr.mono (by decide)) (by rfl) c_law_pick.gm c_law_pick.kp c_law_pick.b (fun σ => passAt tk σ) ht) (da_cons (de_var (pv 0)) (da_cons (de_lst (da_cons de_int (da_cons de_int (da_cons de_int (da_cons de_int da_nil (fun hg hf => pa_cons hf hg)) (fun hg hf => pa_cons hf hg)) (fun hg hf => pa_cons hf hg)) (fun hg hf => pa_cons hf hg))) da_nil (fun hg hf => pa_cons hf hg)) (fun hg hf => pa_cons hf hg))) da_nil (fun hg hf => pa_cons hf hg)) (fun hg hf => pa_cons hf hg)) (fun hg hf => pa_cons hf hg))) da_nil (fun hg hf => pa_cons hf hg)) (fun hg hf => pa_cons hf hg))) (ss_cons (s_par (fun t ht => ps_par (by rfl) nd (by rfl) (by rfl) (by decide) (by rfl) (by rfl) ht (by rfl)) (da_cons (de_call (fun t ht => pe_callS c_law_plus.G (hr.mono (by decide)) (by rfl) c_law_plus.gm c_law_plus.kp c_law_plus.b (fun σ => passAt tk σ) ht) (da_cons (de_var (pv 1)) (da_cons (de_var (pv 3)) (da_cons (de_var (pv 4)) (da_cons de_int da_nil (fun hg hf => pa_cons hf hg)) (fun hg hf => pa_cons hf hg)) (fun hg hf => pa_cons hf hg)) (fun hg hf => pa_cons hf hg))) (da_cons (de_call (fun t ht => pe_callS c_law_plus.G (hr.mono (by decide)) (by rfl) c_law_plus.gm c_law_plus.kp c_law_plus.b (fun σ => passAt tk σ) ht) (da_cons (de_var (pv 1)) (da_cons (de_var (pv 3)) (da_cons (de_var (pv 4)) (da_cons (de_neg de_int) da_nil (fun hg hf => pa_cons hf hg)) (fun hg hf => pa_cons hf hg)) (fun hg hf => pa_cons hf hg)) (fun hg hf => pa_cons hf hg))) da_nil (fun hg hf => pa_cons hf hg)) (fun hg hf => pa_cons hf hg))) (ss_cons (s_if (L2.PW.pt (dt_or (dt_cmp (op_neD (hu64 hr)) does_ne (de_call (fun t ht => pe_callS c_poly_sum.G (hr.mono (by decide)) (by rfl) c_poly_sum.gm c_poly_sum.kp c_poly_sum.b (fun σ => passAt tk σ) ht) (da_cons (de_var (pv 1)) (da_cons (de_var (pv 3)) (da_cons (de_var (pv 4)) da_nil (fun hg hf => pa_cons hf hg)) (fun hg hf => pa_cons hf hg)) (fun hg hf => pa_cons hf hg))) (de_var (pv 5)) (nomark _)) (pw_or1 (dt_cmp (op_neD (hu64 hr)) does_ne (de_call (fun t ht => pe_callS c_poly_less.G (hr.mono (by decide)) (by rfl) c_poly_less.gm c_poly_less.kp c_poly_less.b (fun σ => passAt tk σ) ht) (da_cons (de_var (pv 1)) (da_cons (de_var (pv 3)) (da_cons (de_var (pv 4)) da_nil (fun hg hf => pa_cons hf hg)) (fun hg hf => pa_cons hf hg)) (fun hg hf => pa_cons hf hg))) (de_var (pv 6)) (nomark _))))) (ss_one (s_ret de_bl)) ss_nil) (ss_cons (s_if (L2.PW.pt (dt_or (dt_cmp (op_neD (hu64 hr)) does_ne (de_call (fun t ht => pe_callS c_poly_less.G (hr.mono (by decide)) (by rfl) c_poly_less.gm c_poly_less.kp c_poly_less.b (fun σ => passAt tk σ) ht) (da_cons (de_var (pv 1)) (da_cons (de_var (pv 5)) (da_cons (de_var (pv 4)) da_nil (fun hg hf => pa_cons hf hg)) (fun hg hf => pa_cons hf hg)) (fun hg hf => pa_cons hf hg))) (de_var (pv 3)) (nomark _)) (pw_or1 (dt_cmp (op_neD (hu64 hr)) does_ne (de_call (fun t ht => pe_callS c_poly_sum.G (hr.mono (by decide)) (by rfl) c_poly_sum.gm c_poly_sum.kp c_poly_sum.b (fun σ => passAt tk σ) ht) (da_cons (de_var (pv 1)) (da_cons (de_var (pv 6)) (da_cons (de_var (pv 4)) da_nil (fun hg hf => pa_cons hf hg)) (fun hg hf => pa_cons hf hg)) (fun hg hf => pa_cons hf hg))) (de_var (pv 3)) (nomark _))))) (ss_one (s_ret de_bl)) ss_nil) (ss_cons (s_if (dt_cmp (op_neD (hu64 hr)) does_ne (de_call (fun t ht => pe_callS c_poly_product.G (hr.mono (by decide)) (by rfl) c_poly_product.gm c_poly_product.kp c_poly_product.b (fun σ => passAt tk σ) ht) (da_cons (de_var (pv 1)) (da_cons (de_var (pv 3)) (da_cons (de_var (pv 4)) da_nil (fun hg hf => pa_cons hf hg)) (fun hg hf => pa_cons hf hg)) (fun hg hf => pa_cons hf hg))) (de_call (fun t ht => pe_callS c_law_times.G (hr.mono (by decide)) (by rfl) c_law_times.gm c_law_times.kp c_law_times.b (fun σ => passAt tk σ) ht) (da_cons (de_var (pv 1)) (da_cons (de_var (pv 3)) (da_cons (de_var (pv 4)) da_nil (fun hg hf => pa_cons hf hg)) (fun hg hf => pa_cons hf hg)) (fun hg hf => pa_cons hf hg))) (nomark _)) (ss_one (s_ret de_bl)) ss_nil) (ss_cons (s_if (L2.PW.pt (dt_or (dt_cmp (op_neD (hu64 hr)) does_ne (de_call (fun t ht => pe_callS c_poly_product.G (hr.mono (by decide)) (by rfl) c_poly_product.gm c_poly_product.kp c_poly_product.b (fun σ => passAt tk σ) ht) (da_cons (de_var (pv 1)) (da_cons (de_var (pv 4)) (da_cons (de_var (pv 3)) da_nil (fun hg hf => pa_cons hf hg)) (fun hg hf => pa_cons hf hg)) (fun hg hf => pa_cons hf hg))) (de_call (fun t ht => pe_callS c_law_times.G (hr.mono (by decide)) (by rfl) c_law_times.gm c_law_times.kp c_law_times.b (fun σ => passAt tk σ) ht) (da_cons (de_var (pv 1)) (da_cons (de_var (pv 3)) (da_cons (de_var (pv 4)) da_nil (fun hg hf => pa_cons hf hg)) (fun hg hf => pa_cons hf hg)) (fun hg hf => pa_cons hf hg))) (nomark _)) (pw_or1 (dt_cmp (op_neD (hu64 hr)) does_ne (de_call (fun t ht => pe_callS c_poly_product.G (hr.mono (by decide)) (by rfl) c_poly_product.gm c_poly_product.kp c_poly_product.b (fun σ => passAt tk σ) ht) (da_cons (de_var (pv 1)) (da_cons (de_var (pv 3)) (da_cons (de_tup da_nil) da_nil (fun hg hf => pa_cons hf hg)) (fun hg hf => pa_cons hf hg)) (fun hg hf => pa_cons hf hg))) (de_tup da_nil) (nomark _))))) (ss_one (s_ret de_bl)) ss_nil) (ss_cons (s_if (dt_cmp (op_neD (hu64 hr)) does_ne (de_call (fun t ht => pe_callS c_poly_shared.G (hr.mono (by decide)) (by rfl) c_poly_shared.gm c_poly_shared.kp c_poly_shared.b (fun σ => passAt tk σ) ht) (da_cons (de_var (pv 1)) (da_cons (de_var (pv 3)) (da_cons (de_var (pv 4)) da_nil (fun hg hf => pa_cons hf hg)) (fun hg hf => pa_cons hf hg)) (fun hg hf => pa_cons hf hg))) (de_call (fun t ht => pe_callS c_law_shared.G (hr.mono (by decide)) (by rfl) c_law_shared.gm c_law_shared.kp c_law_shared.b (fun σ => passAt tk σ) ht) (da_cons (de_var (pv 1)) (da_cons (de_var (pv 3)) (da_cons (de_var (pv 4)) da_nil (fun hg hf => pa_cons hf hg)) (fun hg hf => pa_cons hf hg)) (fun hg hf => pa_cons hf hg))) (nomark _)) (ss_one (s_ret de_bl)) ss_nil) (ss_cons (s_if (dt_cmp (op_neD (hu64 hr)) does_ne (de_call (fun t ht => pe_callS c_poly_shared.G (hr.mono (by decide)) (by rfl) c_poly_shared.gm c_poly_shared.kp c_poly_shared.b (fun σ => passAt tk σ) ht) (da_cons (de_var (pv 1)) (da_cons (de_var (pv 3)) (da_cons (de_tup da_nil) da_nil (fun hg hf => pa_cons hf hg)) (fun hg hf => pa_cons hf hg)) (fun hg hf => pa_cons hf hg))) (de_call (fun t ht => pe_callS c_law_shared.G (hr.mono (by decide)) (by rfl) c_law_shared.gm c_law_shared.kp c_law_shared.b (fun σ => passAt tk σ) ht) (da_cons (de_var (pv 1)) (da_cons (de_var (pv 3)) (da_cons (de_tup da_nil) da_nil (fun hg hf => pa_cons hf hg)) (fun hg hf => pa_cons hf hg)) (fun hg hf => pa_cons hf hg))) (nomark _)) (ss_one (s_ret de_bl)) ss_nil) (ss_cons (s_if (dt_cmp (op_neD (hu64 hr)) does_ne (de_var (pv 4)) (de_tup da_nil) (nomark _)) (ss_cons (s_set (fun te ht => ps_set (i := 7) nd (by rfl) (by first | exact Or.inl rfl | exact Or.inr rfl) ht) (de_call (fun t ht => pe_callS c_poly_parts.G (hr.mono (by decide)) (by rfl) c_poly_parts.gm c_poly_parts.kp c_poly_parts.b (fun σ => passAt tk σ) ht) (da_cons (de_var (pv 1)) (da_cons (de_var (pv 3)) (da_cons (de_var (pv 4)) da_nil (fun hg hf => pa_cons hf hg)) (fun hg hf => pa_cons hf hg)) (fun hg hf => pa_cons hf hg)))) (ss_cons (s_if (L2.PW.pt (dt_or (dt_cmp (op_neD (hu64 hr)) does_ne (de_var (pv 7)) (de_call (fun t ht => pe_callS c_law_divided.G (hr.mono (by decide)) (by rfl) c_law_divided.gm c_law_divided.kp c_law_divided.b (fun σ => passAt tk σ) ht) (da_cons (de_var (pv 1)) (da_cons (de_var (pv 3)) (da_cons (de_var (pv 4)) da_nil (fun hg hf => pa_cons hf hg)) (fun hg hf => pa_cons hf hg)) (fun hg hf => pa_cons hf hg))) (nomark _)) (pw_or1 (dt_cmp op_ge does_ge (de_callB (fun t ht => pe_callB call_len (by rfl) T.b_len PySem.boot_len ht) does_len (da_cons (de_ix (by rfl) (de_var (pv 7)) de_int (fun _ _ => rfl)) da_nil (fun hg hf => pa_cons hf hg))) (de_callB (fun t ht => pe_callB call_len (by rfl) T.b_len PySem.boot_len ht) does_len (da_cons (de_var (pv 4)) da_nil (fun hg hf => pa_cons hf hg))) (nomark _))))) (ss_one (s_ret de_bl)) ss_nil) (ss_one (s_if (dt_cmp (op_neD (hu64 hr)) does_ne (de_call (fun t ht => pe_callS c_law_plus.G (hr.mono (by decide)) (by rfl) c_law_plus.gm c_law_plus.kp c_law_plus.b (fun σ => passAt tk σ) ht) (da_cons (de_var (pv 1)) (da_cons (de_call (fun t ht => pe_callS c_law_times.G (hr.mono (by decide)) (by rfl) c_law_times.gm c_law_times.kp c_law_times.b (fun σ => passAt tk σ) ht) (da_cons (de_var (pv 1)) (da_cons (de_ix (by rfl) (de_var (pv 7)) de_int (fun _ _ => rfl)) (da_cons (de_var (pv 4)) da_nil (fun hg hf => pa_cons hf hg)) (fun hg hf => pa_cons hf hg)) (fun hg hf => pa_cons hf hg))) (da_cons (de_ix (by rfl) (de_var (pv 7)) de_int (fun _ _ => rfl)) (da_cons de_int da_nil (fun hg hf => pa_cons hf hg)) (fun hg hf => pa_cons hf hg)) (fun hg hf => pa_cons hf hg)) (fun hg hf => pa_cons hf hg))) (de_var (pv 3)) (nomark _)) (ss_one (s_ret de_bl)) ss_nil)))) ss_nil) (ss_cons (s_set (fun te ht => ps_set (i := 2) nd (by rfl) (by first | exact Or.inl rfl | exact Or.inr rfl) ht) (de_call (fun t ht => pe_callS c_law_drawn_poly.G (hr.mono (by decide)) (by rfl) c_law_drawn_poly.gm c_law_drawn_poly.kp c_law_drawn_poly.b (fun σ => passAt tk σ) ht) (da_cons (de_var (pv 0)) (da_cons (de_var (pv 1)) (da_cons de_int da_nil (fun hg hf => pa_cons hf hg)) (fun hg hf => pa_cons hf hg)) (fun hg hf => pa_cons hf hg)))) (ss_cons (s_par (fun t ht => ps_par (by rfl) nd (by rfl) (by rfl) (by decide) (by rfl) (by rfl) ht (by rfl)) (da_cons (de_call (fun t ht => pe_callS c_law_times.G (hr.mono (by decide)) (by rfl) c_law_times.gm c_law_times.kp c_law_times.b (fun σ => passAt tk σ) ht) (da_cons (de_var (pv 1)) (da_cons (de_slice (by rfl) (de_var (pv 3)) do_none (do_some de_int)) (da_cons (de_var (pv 2)) da_nil (fun hg hf => pa_cons hf hg)) (fun hg hf => pa_cons hf hg)) (fun hg hf => pa_cons hf hg))) (da_cons (de_call (fun t ht => pe_callS c_law_times.G (hr.mono (by decide)) (by rfl) c_law_times.gm c_law_times.kp c_law_times.b (fun σ => passAt tk σ) ht) (da_cons (de_var (pv 1)) (da_cons (de_slice (by rfl) (de_var (pv 4)) do_none (do_some de_int)) (da_cons (de_var (pv 2)) da_nil (fun hg hf => pa_cons hf hg)) (fun hg hf => pa_cons hf hg)) (fun hg hf => pa_cons hf hg))) da_nil (fun hg hf => pa_cons hf hg)) (fun hg hf => pa_cons hf hg))) (ss_cons (s_if (L2.PW.pt (dt_and (dt_cmp (op_neD (hu64 hr)) does_ne (de_var (pv 2)) (de_tup da_nil) (nomark _)) (pw_and1 (dt_cmp (op_neD (hu64 hr)) does_ne (de_ix (by rfl) (de_call (fun t ht => pe_callS c_law_divided.G (hr.mono (by decide)) (by rfl) c_law_divided.gm c_law_divided.kp c_law_divided.b (fun σ => passAt tk σ) ht) (da_cons (de_var (pv 1)) (da_cons (de_call (fun t ht => pe_callS c_poly_shared.G (hr.mono (by decide)) (by rfl) c_poly_shared.gm c_poly_shared.kp c_poly_shared.b (fun σ => passAt tk σ) ht) (da_cons (de_var (pv 1)) (da_cons (de_var (pv 8)) (da_cons (de_var (pv 9)) da_nil (fun hg hf => pa_cons hf hg)) (fun hg hf => pa_cons hf hg)) (fun hg hf => pa_cons hf hg))) (da_cons (de_var (pv 2)) da_nil (fun hg hf => pa_cons hf hg)) (fun hg hf => pa_cons hf hg)) (fun hg hf => pa_cons hf hg))) de_int (fun _ _ => rfl)) (de_tup da_nil) (nomark _))))) (ss_one (s_ret de_bl)) ss_nil) (ss_one (s_ret (de_cmp (op_eqD (hu64 hr)) does_eq (de_lc (pe_lc (by rfl) nd (di_seq (by rfl) (de_call (fun t ht => pe_callS c_law_near.G (hr.mono (by decide)) (by rfl) c_law_near.gm c_law_near.kp c_law_near.b (fun σ => passAt tk σ) ht) (da_cons (de_var (pv 0)) (da_cons (de_var (pv 1)) (da_cons (de_var (pv 3)) da_nil (fun hg hf => pa_cons hf hg)) (fun hg hf => pa_cons hf hg)) (fun hg hf => pa_cons hf hg)))) (blkOk_by (own := [("_law_value", 10)]) (by first | decide +kernel | kernel_rfl)) (fun _ _ _ _ _ => (pg_name (i := 10) nd (by rfl) (by first | exact Or.inl rfl | exact Or.inr rfl))) (fun _ _ _ _ _ => (dts_one (dt_cmp (op_neD (hu64 hr)) does_ne (de_call (fun t ht => pe_callS c_is_poly.G (hr.mono (by decide)) (by rfl) c_is_poly.gm c_is_poly.kp c_is_poly.b (fun σ => passAt takes0 σ) ht) (da_cons (de_var (pv 1)) (da_cons (de_var (pv 10)) da_nil (fun hg hf => pa_cons hf hg)) (fun hg hf => pa_cons hf hg))) (de_call (fun t ht => pe_callS c_law_is_due.G (hr.mono (by decide)) (by rfl) c_law_is_due.gm c_law_is_due.kp c_law_is_due.b (fun σ => passAt takes0 σ) ht) (da_cons (de_var (pv 1)) (da_cons (de_var (pv 10)) da_nil (fun hg hf => pa_cons hf hg)) (fun hg hf => pa_cons hf hg))) (nomark _)))) (fun _ _ _ _ _ => (de_var (pv 10)))) (doesv_gName (by decide))) (de_lst da_nil) (nomark _)))))))))))))))))
/-! law -/
abbrev s_law : Stmt := top 53
def m_law : List D → LH → R D := fnD 4 (sSeq (sFor (iRange1 (daCons (dL (kI2 fun i j => if j > i then j else i) (daCons (dC (.int 1)) (daCons (dL (kI2 fun i j => if j < i then j else i) (daCons (dC (.int 2)) (daCons (dL kLen (daCons (dVar 0) daNil)) daNil))) daNil))) daNil)) (gSet 1) (sSeq (sNew 3 (dCallF 2 m_law_pot (daCons (dVar 0) (daCons (dVar 1) daNil)))) (sIf (dOr (dNot (dTruth (dCall 1 m_law_right (daCons (dVar 3) daNil)))) (dNot (dTruth (dCall 1 m_law_right (daCons (dVar 3) daNil))))) (sRet (dC (.bl false))) sNext))) (sSeq (sSet 2 (dL kLst (daCons (dCall 3 m_poly_parts (daCons (dC (.int 2)) (daCons (dL kTup (daCons (dC (.int 1)) (daCons (dC (.int 0)) (daCons (dC (.int 1)) (daCons (dC (.int 1)) daNil))))) (daCons (dL kTup (daCons (dC (.int 1)) (daCons (dC (.int 1)) daNil))) daNil)))) (daCons (dCall 3 m_poly_shared (daCons (dC (.int 3)) (daCons (dL kTup (daCons (dC (.int 2)) (daCons (dC (.int 0)) (daCons (dC (.int 1)) daNil)))) (daCons (dL kTup (daCons (dC (.int 1)) (daCons (dC (.int 1)) daNil))) daNil)))) (daCons (dCall 3 m_poly_shared (daCons (dC (.int 5)) (daCons (dL kTup daNil) (daCons (dL kTup daNil) daNil)))) daNil))))) (sSeq (sIf (dOr (dB (d2 kNe (dVar 2) (dL kLst (daCons (dL kTup (daCons (dL kTup (daCons (dC (.int 0)) (daCons (dC (.int 0)) (daCons (dC (.int 1)) daNil)))) (daCons (dL kTup (daCons (dC (.int 1)) daNil)) daNil))) (daCons (dL kTup (daCons (dC (.int 1)) (daCons (dC (.int 1)) daNil))) (daCons (dL kTup daNil) daNil)))))) (dB (d2 kNe (dCall 3 m_poly_product (daCons (dC (.int 7)) (daCons (dL kTup (daCons (dC (.int 3)) daNil)) (daCons (dL kTup (daCons (dC (.int 5)) daNil)) daNil)))) (dL kTup (daCons (dC (.int 1)) daNil))))) (sRet (dC (.bl false))) sNext) (sRet (deAnd (d2 kEq (dCall 3 m_poly_sum (daCons (dC (.int 2)) (daCons (dL kTup (daCons (dC (.int 1)) (daCons (dC (.int 1)) daNil))) (daCons (dL kTup (daCons (dC (.int 0)) (daCons (dC (.int 1)) daNil))) daNil)))) (dL kTup (daCons (dC (.int 1)) daNil))) (d2 kEq (dCall 3 m_poly_less (daCons (dC (.int 7)) (daCons (dL kTup daNil) (daCons (dL kTup (daCons (dC (.int 1)) (daCons (dC (.int 6)) daNil))) daNil)))) (dL kTup (daCons (dC (.int 6)) (daCons (dC (.int 1)) daNil)))))))))
theorem sc_law : FnScope ["_law_script", "_law_spot", "_law_told", "_law_pot_here"] ["_law_script"] (defScope s_law) := ⟨rfl, rfl, rfl, by decide +kernel, rfl, by decide +kernel, by decide +kernel⟩
theorem ok_law {f : Addr} {fd : FuncData} (F : Fun K "law" "law" s_law f fd) (T : Txt K mg ct) (c_law_pot : DefAtF K mg base ct "_law_pot" 1 2 ["_law_script", "_law_spot"] m_law_pot) (c_law_right : DefAt K mg base ct "_law_right" 6 1 ["_law_pot_here"] m_law_right) (c_poly_less : DefAt K mg base ct "poly_less" 5 3 ["prime", "one", "other"] m_poly_less) (c_poly_parts : DefAt K mg base ct "poly_parts" 5 3 ["prime", "one", "other"] m_poly_parts) (c_poly_product : DefAt K mg base ct "poly_product" 5 3 ["prime", "one", "other"] m_poly_product) (c_poly_shared : DefAt K mg base ct "poly_shared" 5 3 ["prime", "one", "other"] m_poly_shared) (c_poly_sum : DefAt K mg base ct "poly_sum" 5 3 ["prime", "one", "other"] m_poly_sum) : FnOk Tbs.P Tbs.w K mg base (L2.CX Tbs.P Tbs.w) 7 f fd ["_law_script"] (spD ⟨K, ct⟩ 1 m_law) :=
  fun_okD F sc_law rfl fun cdv A outer s H E hr => by
    have nd := sc_law.nd
    have tk : Takes (cxOf (L2.CX Tbs.P Tbs.w) Tbs.P Tbs.w K mg base ["_law_script", "_law_spot", "_law_told", "_law_pot_here"] "law" (defScope s_law) f cdv A outer s H E) (wishOf fun _ => E) := takes_of rfl rfl rfl rfl
    exact (ss_cons (s_for (fun wi tb hi hb => ps_for (passes_of (by rfl)) (by rfl) hi (pg_name (i := 1) nd (by rfl) (by first | exact Or.inl rfl | exact Or.inr rfl)) hb) (di_range1 (fun t ht => pi_range1 (by rfl) T.b_range ht) (da_cons (de_callB (fun t ht => pe_callB (call_max2 (by rfl)) (by rfl) T.b_max PyProof.Rows.boot_max ht) does_max2 (da_cons de_int (da_cons (de_callB (fun t ht => pe_callB (call_min2 (by rfl)) (by rfl) T.b_min PyProof.Rows.boot_min ht) does_min2 (da_cons de_int (da_cons (de_callB (fun t ht => pe_callB call_len (by rfl) T.b_len PySem.boot_len ht) does_len (da_cons (de_var (pv 0)) da_nil (fun hg hf => pa_cons hf hg))) da_nil (fun hg hf => pa_cons hf hg)) (fun hg hf => pa_cons hf hg))) da_nil (fun hg hf => pa_cons hf hg)) (fun hg hf => pa_cons hf hg))) da_nil (fun hg hf => pa_cons hf hg))) does_gName (ss_cons (s_new (fun te ht => ps_set (i := 3) nd (by rfl) (by first | exact Or.inl rfl | exact Or.inr rfl) ht) (df_call (fun t ht => pe_callS c_law_pot.G (hr.mono (by decide)) (by rfl) c_law_pot.gm c_law_pot.kp c_law_pot.b (fun σ => passAt tk σ) ht) (da_cons (de_var (pv 0)) (da_cons (de_var (pv 1)) da_nil (fun hg hf => pa_cons hf hg)) (fun hg hf => pa_cons hf hg)))) (ss_one (s_if (L2.PW.pt (dt_or (dt_not (dt_truth (by rfl) (de_call (fun t ht => pe_callS c_law_right.G (hr.mono (by decide)) (by rfl) c_law_right.gm c_law_right.kp c_law_right.b (fun σ => passAt tk σ) ht) (da_cons (de_var (pv 3)) da_nil (fun hg hf => pa_cons hf hg))))) (pw_or1 (dt_not (dt_truth (by rfl) (de_call (fun t ht => pe_callS c_law_right.G (hr.mono (by decide)) (by rfl) c_law_right.gm c_law_right.kp c_law_right.b (fun σ => passAt tk σ) ht) (da_cons (de_var (pv 3)) da_nil (fun hg hf => pa_cons hf hg)))))))) (ss_one (s_ret de_bl)) ss_nil)))) (ss_cons (s_set (fun te ht => ps_set (i := 2) nd (by rfl) (by first | exact Or.inl rfl | exact Or.inr rfl) ht) (de_lst (da_cons (de_call (fun t ht => pe_callS c_poly_parts.G (hr.mono (by decide)) (by rfl) c_poly_parts.gm c_poly_parts.kp c_poly_parts.b (fun σ => passAt tk σ) ht) (da_cons de_int (da_cons (de_tup (da_cons de_int (da_cons de_int (da_cons de_int (da_cons de_int da_nil (fun hg hf => pa_cons hf hg)) (fun hg hf => pa_cons hf hg)) (fun hg hf => pa_cons hf hg)) (fun hg hf => pa_cons hf hg))) (da_cons (de_tup (da_cons de_int (da_cons de_int da_nil (fun hg hf => pa_cons hf hg)) (fun hg hf => pa_cons hf hg))) da_nil (fun hg hf => pa_cons hf hg)) (fun hg hf => pa_cons hf hg)) (fun hg hf => pa_cons hf hg))) (da_cons (de_call (fun t ht => pe_callS c_poly_shared.G (hr.mono (by decide)) (by rfl) c_poly_shared.gm c_poly_shared.kp c_poly_shared.b (fun σ => passAt tk σ) ht) (da_cons de_int (da_cons (de_tup (da_cons de_int (da_cons de_int (da_cons de_int da_nil (fun hg hf => pa_cons hf hg)) (fun hg hf => pa_cons hf hg)) (fun hg hf => pa_cons hf hg))) (da_cons (de_tup (da_cons de_int (da_cons de_int da_nil (fun hg hf => pa_cons hf hg)) (fun hg hf => pa_cons hf hg))) da_nil (fun hg hf => pa_cons hf hg)) (fun hg hf => pa_cons hf hg)) (fun hg hf => pa_cons hf hg))) (da_cons (de_call (fun t ht => pe_callS c_poly_shared.G (hr.mono (by decide)) (by rfl) c_poly_shared.gm c_poly_shared.kp c_poly_shared.b (fun σ => passAt tk σ) ht) (da_cons de_int (da_cons (de_tup da_nil) (da_cons (de_tup da_nil) da_nil (fun hg hf => pa_cons hf hg)) (fun hg hf => pa_cons hf hg)) (fun hg hf => pa_cons hf hg))) da_nil (fun hg hf => pa_cons hf hg)) (fun hg hf => pa_cons hf hg)) (fun hg hf => pa_cons hf hg)))) (ss_cons (s_if (L2.PW.pt (dt_or (dt_cmp (op_neD (hu64 hr)) does_ne (de_var (pv 2)) (de_lst (da_cons (de_tup (da_cons (de_tup (da_cons de_int (da_cons de_int (da_cons de_int da_nil (fun hg hf => pa_cons hf hg)) (fun hg hf => pa_cons hf hg)) (fun hg hf => pa_cons hf hg))) (da_cons (de_tup (da_cons de_int da_nil (fun hg hf => pa_cons hf hg))) da_nil (fun hg hf => pa_cons hf hg)) (fun hg hf => pa_cons hf hg))) (da_cons (de_tup (da_cons de_int (da_cons de_int da_nil (fun hg hf => pa_cons hf hg)) (fun hg hf => pa_cons hf hg))) (da_cons (de_tup da_nil) da_nil (fun hg hf => pa_cons hf hg)) (fun hg hf => pa_cons hf hg)) (fun hg hf => pa_cons hf hg))) (nomark _)) (pw_or1 (dt_cmp (op_neD (hu64 hr)) does_ne (de_call (fun t ht => pe_callS c_poly_product.G (hr.mono (by decide)) (by rfl) c_poly_product.gm c_poly_product.kp c_poly_product.b (fun σ => passAt tk σ) ht) (da_cons de_int (da_cons (de_tup (da_cons de_int da_nil (fun hg hf => pa_cons hf hg))) (da_cons (de_tup (da_cons de_int da_nil (fun hg hf => pa_cons hf hg))) da_nil (fun hg hf => pa_cons hf hg)) (fun hg hf => pa_cons hf hg)) (fun hg hf => pa_cons hf hg))) (de_tup (da_cons de_int da_nil (fun hg hf => pa_cons hf hg))) (nomark _))))) (ss_one (s_ret de_bl)) ss_nil) (ss_one (s_ret (de_and (by rfl) (de_cmp (op_eqD (hu64 hr)) does_eq (de_call (fun t ht => pe_callS c_poly_sum.G (hr.mono (by decide)) (by rfl) c_poly_sum.gm c_poly_sum.kp c_poly_sum.b (fun σ => passAt tk σ) ht) (da_cons de_int (da_cons (de_tup (da_cons de_int (da_cons de_int da_nil (fun hg hf => pa_cons hf hg)) (fun hg hf => pa_cons hf hg))) (da_cons (de_tup (da_cons de_int (da_cons de_int da_nil (fun hg hf => pa_cons hf hg)) (fun hg hf => pa_cons hf hg))) da_nil (fun hg hf => pa_cons hf hg)) (fun hg hf => pa_cons hf hg)) (fun hg hf => pa_cons hf hg))) (de_tup (da_cons de_int da_nil (fun hg hf => pa_cons hf hg))) (nomark _)) (pe_one (de_cmp (op_eqD (hu64 hr)) does_eq (de_call (fun t ht => pe_callS c_poly_less.G (hr.mono (by decide)) (by rfl) c_poly_less.gm c_poly_less.kp c_poly_less.b (fun σ => passAt tk σ) ht) (da_cons de_int (da_cons (de_tup da_nil) (da_cons (de_tup (da_cons de_int (da_cons de_int da_nil (fun hg hf => pa_cons hf hg)) (fun hg hf => pa_cons hf hg))) da_nil (fun hg hf => pa_cons hf hg)) (fun hg hf => pa_cons hf hg)) (fun hg hf => pa_cons hf hg))) (de_tup (da_cons de_int (da_cons de_int da_nil (fun hg hf => pa_cons hf hg)) (fun hg hf => pa_cons hf hg))) (nomark _)))))))))
end
end Law

set_option Elab.async false
set_option linter.all false
set_option maxRecDepth 100000
set_option maxHeartbeats 1000000
namespace Law
open PySem PySem.Spec L2 DL PM
variable [Tbs]
theorem leave_same (L : LH) (d : D) : leave L L d = .ok d L := by unfold leave; rw [if_pos rfl]
theorem fnD_rt {N : Nat} {body : DS} {ds : List D} {L : LH} {d : D} (h : body (startD N ds) L = .rt d L) : fnD N body ds L = .ok d L := by
  unfold fnD; rw [h]; exact leave_same L d
theorem fnD_nx {N : Nat} {body : DS} {ds : List D} {L : LH} {e : DEnv} (h : body (startD N ds) L = .nx e L) : fnD N body ds L = .ok .non L := by
  unfold fnD; rw [h]; exact leave_same L .non
/-- the same place, written to -/
theorem fnD_rtL {N : Nat} {body : DS} {ds : List D} {L L' : LH} {d : D} (h : body (startD N ds) L = .rt d L') (e : L'.length = L.length) : fnD N body ds L = .ok d L' := by
  unfold fnD; rw [h]; show leave L L' d = _; unfold leave; rw [if_pos e]
abbrev LI (l : List Int) : List D := l.map D.int
abbrev PI (l : List Int) : D := .tup (LI l)
theorem lc_cons {k : DG} {vs : List Nat} {t : DT} {e : DE} {env env1 : DEnv} {L L1 L2 L3 : LH} {d y : D} {ds ys : List D} (h1 : k d (wipeD env vs) = some env1) (h2 : t env1 L = .ok true L1) (h3 : e env1 L1 = .ok y L2) (h4 : lcD k vs t e env ds L2 = .ok ys L3) : lcD k vs t e env (d :: ds) L = .ok (y :: ys) L3 := by
  simp only [lcD, h1, h2, h3, h4, noX, R.bind, if_true]
theorem lc_skip {k : DG} {vs : List Nat} {t : DT} {e : DE} {env env1 : DEnv} {L L1 L3 : LH} {d : D} {ds ys : List D} (h1 : k d (wipeD env vs) = some env1) (h2 : t env1 L = .ok false L1) (h4 : lcD k vs t e env ds L1 = .ok ys L3) : lcD k vs t e env (d :: ds) L = .ok ys L3 := by
  simp [lcD, h1, h2, h4, noX, R.bind]
theorem lc_map {k : DG} {vs : List Nat} {e : DE} {env : DEnv} {L : LH} {g : D → D} : ∀ (items : List D), (∀ d ∈ items, ∃ env1, k d (wipeD env vs) = some env1 ∧ e env1 L = .ok (g d) L) → lcD k vs dYes e env items L = .ok (items.map g) L
  | [], _ => rfl
  | d :: ds, h => by
    obtain ⟨env1, h1, h2⟩ := h d (by simp)
    exact lc_cons h1 rfl h2 (lc_map (g := g) ds (fun x hx => h x (by simp [hx])))
theorem lc_int {i : Nat} {e : DE} {env : DEnv} {L : LH} {f : Int → Int} (l : List Int) (h : ∀ a ∈ l, e ((wipeD env [i]).set i (some (.int a))) L = .ok (.int (f a)) L) : lcD (gSet i) [i] dYes e env (LI l) L = .ok (LI (l.map f)) L := by
  have := lc_map (k := gSet i) (vs := [i]) (e := e) (env := env) (L := L) (g := fun d => match d with | .int a => .int (f a) | d => d) (LI l) (fun d hd => by
    obtain ⟨a, ha, rfl⟩ := List.mem_map.mp hd
    exact ⟨_, rfl, h a ha⟩)
  rw [this]
  simp [LI, List.map_map, Function.comp_def]
theorem lc_zip {i j : Nat} {e : DE} {env : DEnv} {L : LH} {f : Int → Int → Int} : ∀ (l r : List Int), (∀ a b, a ∈ l → b ∈ r → e (((wipeD env [i, j]).set i (some (.int a))).set j (some (.int b))) L = .ok (.int (f a b)) L) → lcD (gSet2 i j) [i, j] dYes e env (zipD (LI l) (LI r)) L = .ok (LI (List.zipWith f l r)) L
  | [], r, _ => by simp [zipD, lcD]
  | a :: l, [], _ => by simp [zipD, lcD]
  | a :: l, b :: r, h => by
    have ih := lc_zip (f := f) l r (fun x y hx hy => h x y (by simp [hx]) (by simp [hy]))
    have h2 := h a b (by simp) (by simp)
    exact lc_cons (ds := zipD (LI l) (LI r)) (d := .tup [.int a, .int b]) rfl rfl h2 ih
theorem while_go {t : DT} {b : DS} {n : Nat} {env env2 : DEnv} {L L1 L2 : LH} (h : t env L = .ok true L1) (k : b env L1 = .nx env2 L2) : whileD t b (n + 1) env L = whileD t b n env2 L2 := by
  simp [whileD, h, k, R.toS]
theorem while_end {t : DT} {b : DS} {n : Nat} {env : DEnv} {L L1 : LH} (h : t env L = .ok false L1) : whileD t b (n + 1) env L = .nx env L1 := by
  simp [whileD, h, R.toS]
theorem for_go {k : DG} {b : DS} {d : D} {ds : List D} {env env1 env2 : DEnv} {L L2 : LH} (h : k d env = some env1) (h2 : b env1 L = .nx env2 L2) : forD k b (d :: ds) env L = forD k b ds env2 L2 := by
  simp [forD, h, h2]
theorem and_t {f g : DT} {env : DEnv} {L L1 : LH} (h : f env L = .ok true L1) : dAnd f g env L = g env L1 := by simp [h]
theorem and_f {f g : DT} {env : DEnv} {L L1 : LH} (h : f env L = .ok false L1) : dAnd f g env L = .ok false L1 := by simp [h]
theorem or_t {f g : DT} {env : DEnv} {L L1 : LH} (h : f env L = .ok true L1) : dOr f g env L = .ok true L1 := by simp [h]
theorem or_f {f g : DT} {env : DEnv} {L L1 : LH} (h : f env L = .ok false L1) : dOr f g env L = g env L1 := by simp [h]
theorem not_b {f : DT} {env : DEnv} {L L1 : LH} {b : Bool} (h : f env L = .ok b L1) : dNot f env L = .ok (!b) L1 := by simp [h]
theorem dB_b {f : DE} {env : DEnv} {L L1 : LH} {b : Bool} (h : f env L = .ok (.bl b) L1) : dB f env L = .ok b L1 := by simp [h]
theorem truth_b {f : DE} {env : DEnv} {L L1 : LH} {d : D} {b : Bool} (h : f env L = .ok d L1) (k : truD L1 d = some b) : dTruth f env L = .ok b L1 := by simp [h, k]
theorem if_t {t : DT} {f g : DS} {env : DEnv} {L L1 : LH} (h : t env L = .ok true L1) : sIf t f g env L = f env L1 := by simp [h]
theorem if_f {t : DT} {f g : DS} {env : DEnv} {L L1 : LH} (h : t env L = .ok false L1) : sIf t f g env L = g env L1 := by simp [h]
theorem ret_ok {f : DE} {env : DEnv} {L L1 : LH} {d : D} (h : f env L = .ok d L1) : sRet f env L = .rt d L1 := by simp [h]
theorem set_ok {i : Nat} {f : DE} {env : DEnv} {L L1 : LH} {d : D} (h : f env L = .ok d L1) : sSet i f env L = .nx (env.set i (some d)) L1 := by simp [h]
theorem expr_ok {f : DE} {env : DEnv} {L L1 : LH} {d : D} (h : f env L = .ok d L1) : sExpr f env L = .nx env L1 := by simp [h]
theorem d2_ok {k : D → D → LH → R D} {f g : DE} {env : DEnv} {L L1 L2 : LH} {a b : D} (h : f env L = .ok a L1) (h2 : g env L1 = .ok b L2) : d2 k f g env L = k a b L2 := by simp [h, h2]
theorem d1_ok {k : D → LH → R D} {f : DE} {env : DEnv} {L L1 : LH} {a : D} (h : f env L = .ok a L1) : d1 k f env L = k a L1 := by simp [h]
theorem dL_ok {k : List D → LH → R D} {g : DA} {env : DEnv} {L L1 : LH} {a : List D} (h : g env L = .ok a L1) : dL k g env L = k a L1 := by simp [h]
theorem ca_ok {f : DE} {g : DA} {env : DEnv} {L L1 L2 : LH} {a : D} {b : List D} (h : f env L = .ok a L1) (h2 : g env L1 = .ok b L2) : daCons f g env L = .ok (a :: b) L2 := by simp [h, h2]
theorem cn_ok {env : DEnv} {L : LH} : daNil env L = .ok [] L := rfl
theorem call_ok {n : Nat} {F : List D → LH → R D} {g : DA} {env : DEnv} {L L1 : LH} {a : List D} (h : g env L = .ok a L1) (hn : a.length = n) : dCall n F g env L = F a L1 := by simp [h, hn]
theorem par_ok {i j : Nat} {g : DA} {env : DEnv} {L L1 : LH} {a b : D} (h : g env L = .ok [a, b] L1) : sPar i j g env L = .nx ((env.set i (some a)).set j (some b)) L1 := by unfold sPar; rw [h]; rfl
theorem slice_ok {f : DE} {g h : DO} {env : DEnv} {L : LH} {a : D} {lo hi : Option Int} (h1 : f env L = .ok a L) (h2 : g env L = .ok lo L) (h3 : h env L = .ok hi L) : dSlice f g h env L = kSlice lo hi a L := by unfold dSlice; rw [h1]; show R.bind (g env L) _ = _; rw [h2]; show R.bind (h env L) _ = _; rw [h3]; rfl
theorem for_nil {k : DG} {b : DS} {env : DEnv} {L : LH} : forD k b [] env L = .nx env L := rfl
theorem zipD_len (l r : List D) : (zipD l r).length ≤ l.length := by simp [zipD]; omega
theorem fits_le {n m : Nat} (h : m ≤ 16777216) (k : n ≤ m) : fits n = true := by unfold fits; simp; omega
theorem dLc_ok {f : DI} {k : DG} {vs : List Nat} {t : DT} {e : DE} {env : DEnv} {L L1 : LH} {items ys : List D} (h1 : f env L = .ok items L1) (h2 : items.length ≤ 16777216) {L2 : LH} (h3 : lcD k vs t e env items L1 = .ok ys L2) : dLc f k vs t e env L = .ok (.lst ys) L2 := by
  unfold dLc; rw [h1]; show (if _ then _ else _) = _; rw [if_pos (fits_le (Nat.le_refl _) h2), h3]; rfl
@[simp] theorem k_tupOfT (ds : List D) (L : LH) : kTupleOf [.tup ds] L = .ok (.tup ds) L := rfl
@[simp] theorem k_tupOfL (ds : List D) (L : LH) : kTupleOf [.lst ds] L = .ok (.tup ds) L := rfl
@[simp] theorem k_lstOfT (ds : List D) (L : LH) : kListOf [.tup ds] L = .ok (.lst ds) L := rfl
@[simp] theorem k_lenT (ds : List D) (L : LH) : kLen [.tup ds] L = .ok (.int ds.length) L := rfl
@[simp] theorem k_lenL (ds : List D) (L : LH) : kLen [.lst ds] L = .ok (.int ds.length) L := rfl
theorem small_mul {i j : Int} (h : 0 ≤ i) (k : i < 100) : mulOk i j = true := by
  unfold mulOk DL.small64
  have : decide (-(2 ^ 64) < i ∧ i < 2 ^ 64) = true := by simp; omega
  rw [this]; rfl
theorem getI (l : List Int) (i : Nat) (h : i < l.length) : (LI l)[i]? = some (.int (co l i)) := by
  rw [List.getElem?_map, List.getElem?_eq_getElem h]
  unfold co; rw [List.getD_eq_getElem?_getD, List.getElem?_eq_getElem h]; rfl
theorem atI_co (l : List Int) (i : Nat) (h : i < l.length) : atI (LI l) (i : Int) = some (.int (co l i)) := by
  unfold atI ixN
  rw [if_pos (by omega), List.length_map, if_pos (by omega)]
  exact getI l i h
theorem atI_last (l : List Int) (h : l ≠ []) : atI (LI l) (-1) = some (.int (co l (l.length - 1))) := by
  have hl : l.length ≠ 0 := fun e => h (List.length_eq_zero_iff.mp e)
  unfold atI ixN
  rw [if_neg (by omega), List.length_map, if_pos (by omega)]
  show (LI l)[((-1 : Int) + (l.length : Int)).toNat]? = _
  have : ((-1 : Int) + (l.length : Int)).toNat = l.length - 1 := by omega
  rw [this]
  exact getI l _ (by omega)
theorem undone_ok {p a : Int} (hp : pr p) (h0 : 0 < a) (h1 : a < p) (L : LH) : m_undone_number [.int p, .int a] L = .ok (.int (inv p a)) L := by
  rcases hp with rfl | rfl | rfl | rfl
  · obtain rfl : a = 1 := by omega
    exact fnD_rt (by rfl)
  · obtain rfl | rfl : a = 1 ∨ a = 2 := by omega
    all_goals exact fnD_rt (by rfl)
  · obtain rfl | rfl | rfl | rfl : a = 1 ∨ a = 2 ∨ a = 3 ∨ a = 4 := by omega
    all_goals exact fnD_rt (by rfl)
  · obtain rfl | rfl | rfl | rfl | rfl | rfl : a = 1 ∨ a = 2 ∨ a = 3 ∨ a = 4 ∨ a = 5 ∨ a = 6 := by omega
    all_goals exact fnD_rt (by rfl)
theorem lundone_ok {p a : Int} (hp : pr p) (h0 : 0 < a) (h1 : a < p) (L : LH) : m_law_undone [.int p, .int a] L = .ok (.int (inv p a)) L := by
  rcases hp with rfl | rfl | rfl | rfl
  · obtain rfl : a = 1 := by omega
    exact fnD_rt (by rfl)
  · obtain rfl | rfl : a = 1 ∨ a = 2 := by omega
    all_goals exact fnD_rt (by rfl)
  · obtain rfl | rfl | rfl | rfl : a = 1 ∨ a = 2 ∨ a = 3 ∨ a = 4 := by omega
    all_goals exact fnD_rt (by rfl)
  · obtain rfl | rfl | rfl | rfl | rfl | rfl : a = 1 ∨ a = 2 ∨ a = 3 ∨ a = 4 ∨ a = 5 ∨ a = 6 := by omega
    all_goals exact fnD_rt (by rfl)
end Law

set_option Elab.async false
set_option linter.all false
set_option maxRecDepth 100000
set_option maxHeartbeats 1000000
namespace Law
open PySem PySem.Spec L2 DL PM
variable [Tbs]
theorem rep_flat (n : Nat) (c : Int) : (List.replicate n [D.int c]).flatten = LI (List.replicate n c) := by
  induction n with
  | zero => rfl
  | succ n ih => simp [List.replicate_succ, ih]
theorem repOk_i {n : Int} (h : -100000 ≤ n) (k : n ≤ 100000) : repOk 1 n = true := by
  unfold repOk fits; simp; omega
theorem k_timesT {n : Int} (c : Int) (h : -100000 ≤ n) (k : n ≤ 100000) (L : LH) : DL.kTimes (.tup [.int c]) (.int n) L = .ok (PI (List.replicate n.toNat c)) L := by
  show (if repOk 1 n then _ else _) = _
  rw [if_pos (repOk_i h k)]
  show R.ok (D.tup (List.replicate n.toNat [D.int c]).flatten) L = _
  rw [rep_flat]
theorem k_timesL {n : Int} (c : Int) (h : -100000 ≤ n) (k : n ≤ 100000) (L : LH) : DL.kTimes (.lst [.int c]) (.int n) L = .ok (.lst (LI (List.replicate n.toNat c))) L := by
  show (if repOk 1 n then _ else _) = _
  rw [if_pos (repOk_i h k)]
  show R.ok (D.lst (List.replicate n.toNat [D.int c]).flatten) L = _
  rw [rep_flat]
theorem k_plusT {l r : List Int} (h : l.length + r.length ≤ 100000) (L : LH) : kPlus (PI l) (PI r) L = .ok (PI (l ++ r)) L := by
  show plusSeq L (PI l) (PI r) = _
  unfold plusSeq
  simp only [tupD, PI, List.length_map]
  rw [if_pos (fits_le (m := 100000) (by omega) h)]; simp [LI]
theorem k_plusL {l r : List Int} (h : l.length + r.length ≤ 100000) (L : LH) : kPlus (.lst (LI l)) (.lst (LI r)) L = .ok (.lst (LI (l ++ r))) L := by
  show plusSeq L (.lst (LI l)) (.lst (LI r)) = _
  unfold plusSeq
  simp only [tupD, lstD, List.length_map]
  rw [if_pos (fits_le (m := 100000) (by omega) h)]; simp [LI]
theorem zero_ok {n : Int} (h : -100000 ≤ n) (k : n ≤ 100000) (L : LH) : m_zero_row [.int n] L = .ok (PI (List.replicate n.toNat 0)) L := by
  refine fnD_rt ?_
  show R.toS (DL.kTimes (.tup [.int 0]) (.int n) L) _ _ = _
  rw [k_timesT 0 h k]; rfl
theorem row_sum_ok {p : Int} (hp : 0 < p) {l r : List Int} (hl : l.length ≤ 100000) (L : LH) : m_row_sum [.int p, PI l, PI r] L = .ok (PI (List.zipWith (fun a b => (a + b) % p) l r)) L := by
  refine fnD_rt ?_
  have hz : dLc (iZip2 (daCons (dVar 1) (daCons (dVar 2) daNil))) (gSet2 3 4) [3, 4] dYes (d2 kMod (d2 kPlus (dVar 3) (dVar 4)) (dVar 0)) (startD 5 [.int p, PI l, PI r]) L = .ok (.lst (LI (List.zipWith (fun a b => (a + b) % p) l r))) L := by
    refine dLc_ok (items := zipD (LI l) (LI r)) (L1 := L) rfl (by have := zipD_len (LI l) (LI r); simp at this ⊢; omega) (lc_zip l r (fun a b _ _ => ?_))
    show kMod (.int (a + b)) (.int p) L = _
    rw [k_mod _ _ hp]
  show R.toS (R.bind (R.bind (dLc _ _ _ _ _ _ L) _) _) _ _ = _
  rw [hz]; rfl
theorem row_less_ok {p : Int} (hp : 0 < p) {l r : List Int} (hl : l.length ≤ 100000) (L : LH) : m_row_less [.int p, PI l, PI r] L = .ok (PI (List.zipWith (fun a b => (a - b) % p) l r)) L := by
  refine fnD_rt ?_
  have hz : dLc (iZip2 (daCons (dVar 1) (daCons (dVar 2) daNil))) (gSet2 3 4) [3, 4] dYes (d2 kMod (d2 kSub (dVar 3) (dVar 4)) (dVar 0)) (startD 5 [.int p, PI l, PI r]) L = .ok (.lst (LI (List.zipWith (fun a b => (a - b) % p) l r))) L := by
    refine dLc_ok (items := zipD (LI l) (LI r)) (L1 := L) rfl (by have := zipD_len (LI l) (LI r); simp at this ⊢; omega) (lc_zip l r (fun a b _ _ => ?_))
    show kMod (.int (a - b)) (.int p) L = _
    rw [k_mod _ _ hp]
  show R.toS (R.bind (R.bind (dLc _ _ _ _ _ _ L) _) _) _ _ = _
  rw [hz]; rfl
theorem row_times_ok {p c : Int} (hp : 0 < p) (c0 : 0 ≤ c) (c1 : c < 100) {l : List Int} (hl : l.length ≤ 100000) (L : LH) : m_row_times [.int p, .int c, PI l] L = .ok (PI (l.map fun a => c * a % p)) L := by
  refine fnD_rt ?_
  have hz : dLc (iVal (dVar 2)) (gSet 3) [3] dYes (d2 kMod (d2 kTimes (dVar 1) (dVar 3)) (dVar 0)) (startD 4 [.int p, .int c, PI l]) L = .ok (.lst (LI (l.map fun a => c * a % p))) L := by
    refine dLc_ok (items := LI l) (L1 := L) rfl (by simp; omega) (lc_int l (fun a _ => ?_))
    show R.bind (DL.kTimes (.int c) (.int a) L) _ = _
    rw [k_times _ _ (small_mul c0 c1)]
    show kMod (.int (c * a)) (.int p) L = _
    rw [k_mod _ _ hp]
  show R.toS (R.bind (R.bind (dLc _ _ _ _ _ _ L) _) _) _ _ = _
  rw [hz]; rfl
/-! trimmed -/
theorem cut_to (l : List Int) (n : Nat) (h : n ≤ l.length) : cutD (LI l) none (some (n : Int)) = LI (l.take n) := by
  unfold cutD
  have h1 : HT.sIx (LI l).length 0 none = 0 := rfl
  have h2 : HT.sIx (LI l).length (LI l).length (some (n : Int)) = n := by
    have hl : (LI l).length = l.length := by simp
    rw [hl]; unfold HT.sIx; simp only []; split <;> omega
  rw [h1, h2]
  simp [LI, List.map_take]
theorem seqD_ix {L : LH} {d : D} {b : Bool} {l : List Int} (h : seqD L d = some (b, LI l)) (i : Nat) (hi : i < l.length) : kIx d (.int (i : Int)) L = .ok (.int (co l i)) L := by
  unfold kIx; rw [h]; show orNo (atI (LI l) (i : Int)) L = _; rw [atI_co l i hi]; rfl
theorem trim_take (l : List Int) (n : Nat) (h : n < l.length) (hz : co l n = 0) : trim (l.take (n + 1)) = trim (l.take n) := by
  apply trim_ext; intro i
  rw [co_take, co_take]
  by_cases e : i = n
  · subst e; simp [hz]
  · by_cases q : i < n
    · rw [if_pos (by omega), if_pos q]
    · rw [if_neg (by omega), if_neg q]
theorem trim_take' (l : List Int) (n : Nat) (h : n < l.length) (hz : co l n ≠ 0) : trim (l.take (n + 1)) = l.take (n + 1) := by
  have : l.take (n + 1) = l.take n ++ [co l n] := by
    rw [List.take_succ, List.getElem?_eq_getElem h]
    unfold co; rw [List.getD_eq_getElem?_getD, List.getElem?_eq_getElem h]; rfl
  rw [this]; exact trim_snoc _ hz _
theorem trim_take_len (l : List Int) (n : Nat) (h : n ≤ l.length) : l.take (trim (l.take n)).length = trim (l.take n) ∧ (trim (l.take n)).length ≤ n := by
  induction n with
  | zero => simp [trim]
  | succ n ih =>
    by_cases hz : co l n = 0
    · rw [trim_take l n (by omega) hz]; have := ih (by omega); exact ⟨this.1, by omega⟩
    · rw [trim_take' l n (by omega) hz]; constructor
      · rw [List.length_take]; congr 1; omega
      · rw [List.length_take]; omega
theorem trim_loopG {L : LH} {d : D} {l : List Int} {t : DT} (h0 : t [some d, some (.int 0)] L = .ok false L) (h1 : ∀ n, n < l.length → t [some d, some (.int ((n + 1 : Nat) : Int))] L = .ok (co l n == 0) L) : ∀ (n fuel : Nat), n ≤ l.length → n < fuel →
    whileD t (sSet 1 (d2 kSub (dVar 1) (dC (.int 1)))) fuel [some d, some (.int (n : Int))] L = .nx [some d, some (.int ((trim (l.take n)).length : Int))] L
  | n, 0, _, hf => absurd hf (by omega)
  | 0, f + 1, _, _ => by
    exact while_end h0
  | n + 1, f + 1, hn, hf => by
    have e1 : (((n + 1 : Nat) : Int) - 1) = (n : Int) := by omega
    have ht := h1 n (by omega)
    by_cases hz : co l n = 0
    · rw [hz] at ht
      refine (while_go ht (env2 := [some d, some (.int (n : Int))]) (L2 := L) (by
        show SR.nx [some d, some (.int (((n + 1 : Nat) : Int) - 1))] L = _
        rw [e1])).trans ?_
      rw [trim_loopG h0 h1 n f (by omega) (by omega), trim_take l n (by omega) hz]
    · have hb : (co l n == 0) = false := by simp [hz]
      rw [hb] at ht
      rw [while_end ht, trim_take' l n (by omega) hz, List.length_take, Nat.min_eq_left (by omega)]
theorem slice_to {L : LH} {d : D} {b : Bool} {l : List Int} (h : seqD L d = some (b, LI l)) (n : Nat) (hn : n ≤ l.length) : ∃ a, kSlice none (some (n : Int)) d L = .ok a L ∧ kTupleOf [a] L = .ok (PI (l.take n)) L := by
  have hc := cut_to l n hn
  cases d with
  | tup xs => cases h; exact ⟨.tup (cutD (LI l) none (some (n : Int))), rfl, by rw [hc]; rfl⟩
  | lst xs => cases h; exact ⟨.lst (cutD (LI l) none (some (n : Int))), rfl, by rw [hc]; rfl⟩
  | frl xs => cases h; exact ⟨.lst (cutD (LI l) none (some (n : Int))), rfl, by rw [hc]; rfl⟩
  | ref k =>
    have hb : b = false := by
      unfold seqD at h; split at h <;> simp_all
      split at h <;> simp_all
    subst hb
    refine ⟨.lst (cutD (LI l) none (some (n : Int))), ?_, by rw [hc]; rfl⟩
    unfold kSlice
    simp only [h]
  | _ => simp [seqD] at h
theorem last_test {L : LH} {d : D} {b : Bool} {l : List Int} (h : seqD L d = some (b, LI l)) (n : Nat) (hn : n < l.length) : dB (d2 kEq (d2 kIx (dVar 0) (d2 kSub (dVar 1) (dC (.int 1)))) (dC (.int 0))) [some d, some (.int ((n + 1 : Nat) : Int))] L = .ok (co l n == 0) L := by
  have e1 : (((n + 1 : Nat) : Int) - 1) = (n : Int) := by omega
  refine dB_b ((d2_ok (a := .int (co l n)) (b := .int 0) (L1 := L) (L2 := L) ?_ rfl).trans (eq_int _ _))
  show kIx d (.int (((n + 1 : Nat) : Int) - 1)) L = _
  rw [e1, seqD_ix h n hn]
theorem trim_gen {L : LH} {d : D} {b : Bool} {l : List Int} {t : DT} (h : seqD L d = some (b, LI l)) (hl : l.length < 100000) (h0 : t [some d, some (.int 0)] L = .ok false L) (h1 : ∀ n, n < l.length → t [some d, some (.int ((n + 1 : Nat) : Int))] L = .ok (co l n == 0) L) :
    fnD 2 (sSeq (sSet 1 (dL kLen (daCons (dVar 0) daNil))) (sSeq (sWhile 100000 t (sSet 1 (d2 kSub (dVar 1) (dC (.int 1))))) (sRet (dL kTupleOf (daCons (dSlice (dVar 0) doNone (doSome (dVar 1))) daNil))))) [d] L = .ok (PI (trim l)) L := by
  refine fnD_rt ?_
  have h1' : dL kLen (daCons (dVar 0) daNil) [some d, none] L = .ok (.int l.length) L := by
    show (match seqD L d with | some (_, xs) => R.ok (D.int xs.length) L | none => .no) = _
    rw [h]; simp
  show sSeq _ _ [some d, none] L = _
  refine (seq_nx _ _ (env1 := [some d, some (.int l.length)]) (L1 := L) (set_ok h1')).trans ?_
  refine (seq_nx _ _ (env1 := [some d, some (.int ((trim l).length : Int))]) (L1 := L) (by
    have := trim_loopG h0 h1 l.length 100000 (Nat.le_refl _) hl
    rw [List.take_length] at this
    exact this)).trans ?_
  have hs := trim_take_len l l.length (Nat.le_refl _)
  rw [List.take_length] at hs
  obtain ⟨a, ha, hk⟩ := slice_to h (trim l).length hs.2
  rw [hs.1] at hk
  exact ret_ok ((dL_ok (ca_ok (slice_ok (a := d) (lo := none) (hi := some ((trim l).length : Int)) rfl rfl rfl |>.trans ha) cn_ok)).trans hk)
theorem trimmed_ok {L : LH} {d : D} {b : Bool} {l : List Int} (h : seqD L d = some (b, LI l)) (hl : l.length < 100000) : m_trimmed [d] L = .ok (PI (trim l)) L :=
  trim_gen h hl (and_f (truth_b (d := .int 0) rfl rfl)) fun n hn => (and_t (truth_b (d := .int ((n + 1 : Nat) : Int)) (b := true) rfl (by show some ((((n + 1 : Nat) : Int) != 0)) = _; congr 1))).trans (last_test h n hn)
theorem ltrimmed_ok {L : LH} {d : D} {b : Bool} {l : List Int} (h : seqD L d = some (b, LI l)) (hl : l.length < 100000) : m_law_trimmed [d] L = .ok (PI (trim l)) L :=
  trim_gen h hl (and_f rfl) fun n hn => (and_t (dB_b (b := true) (by show R.ok (D.bl (decide ((0 : Int) < ((n + 1 : Nat) : Int)))) L = _; congr 2; simp))).trans (last_test h n hn)
theorem seqT (L : LH) (l : List Int) : seqD L (PI l) = some (true, LI l) := rfl
theorem seqL (L : LH) (l : List Int) : seqD L (.lst (LI l)) = some (false, LI l) := rfl
/-! widened, sums -/
def wide (l : List Int) (n : Nat) : List Int := l ++ List.replicate (n - l.length) 0
theorem co_wide (l : List Int) (n i : Nat) : co (wide l n) i = co l i := by
  unfold wide; rw [co_app]; split
  · rfl
  · rw [co_rep0, co_ge (by omega)]
theorem wide_len {l : List Int} {n : Nat} (h : l.length ≤ n) : (wide l n).length = n := by
  simp [wide]; omega
theorem widened_ok {l : List Int} {n : Nat} (h : l.length ≤ n) (hn : n ≤ 1000) (L : LH) : m_widened [PI l, .int n] L = .ok (PI (wide l n)) L := by
  refine fnD_rt (ret_ok ?_)
  refine (d2_ok (a := PI l) (b := PI (List.replicate (n - l.length) 0)) (L1 := L) (L2 := L) rfl ?_).trans (k_plusT (by simp; omega) L)
  refine (call_ok (a := [.int ((n : Int) - l.length)]) (L1 := L) (by
    show R.ok [D.int ((n : Int) - ((LI l).length : Nat))] L = _
    simp) rfl).trans ?_
  rw [zero_ok (by omega) (by omega)]
  have : ((n : Int) - (l.length : Int)).toNat = n - l.length := by omega
  rw [this]
def maxl (l r : List Int) : Nat := max l.length r.length
theorem wl (l r : List Int) : (wide l (maxl l r)).length = maxl l r := wide_len (Nat.le_max_left _ _)
theorem wr (l r : List Int) : (wide r (maxl l r)).length = maxl l r := wide_len (Nat.le_max_right _ _)
def addP (p : Int) (l r : List Int) : List Int := trim (List.zipWith (fun a b => (a + b) % p) (wide l (maxl l r)) (wide r (maxl l r)))
def subP (p : Int) (l r : List Int) : List Int := trim (List.zipWith (fun a b => (a - b) % p) (wide l (maxl l r)) (wide r (maxl l r)))
theorem max_ok (l r : List Int) : (if ((LI r).length : Int) > ((LI l).length : Int) then ((LI r).length : Int) else ((LI l).length : Int)) = ((maxl l r : Nat) : Int) := by
  simp only [List.length_map, maxl]; split <;> omega
theorem co_addP (p : Int) (l r : List Int) (i : Nat) : co (addP p l r) i = (co l i + co r i) % p := by
  unfold addP
  rw [co_trim, co_zipWith _ (by simp) _ _ _ (by rw [wl, wr]), co_wide, co_wide]
theorem co_subP (p : Int) (l r : List Int) (i : Nat) : co (subP p l r) i = (co l i - co r i) % p := by
  unfold subP
  rw [co_trim, co_zipWith _ (by simp) _ _ _ (by rw [wl, wr]), co_wide, co_wide]
theorem sum_ok {p : Int} (hp : 0 < p) {l r : List Int} (hl : l.length ≤ 1000) (hr : r.length ≤ 1000) (L : LH) : m_sum_of_polys [.int p, PI l, PI r] L = .ok (PI (addP p l r)) L := by
  refine fnD_rt ?_
  have hm : maxl l r ≤ 1000 := by unfold maxl; omega
  refine (seq_nx _ _ (env1 := [some (.int p), some (PI l), some (PI r), some (.int (maxl l r : Nat))]) (L1 := L) (set_ok (d := .int (maxl l r : Nat)) (by
    show R.ok (D.int (if ((LI r).length : Int) > ((LI l).length : Int) then ((LI r).length : Int) else ((LI l).length : Int))) L = _
    rw [max_ok]))).trans ?_
  refine ret_ok ((call_ok (a := [PI (List.zipWith (fun a b => (a + b) % p) (wide l (maxl l r)) (wide r (maxl l r)))]) (L1 := L) (ca_ok ?_ cn_ok) rfl).trans (trimmed_ok (seqT L _) (by simp [wide]; omega)))
  refine (call_ok (a := [.int p, PI (wide l (maxl l r)), PI (wide r (maxl l r))]) (L1 := L) (ca_ok (L1 := L) rfl (ca_ok (L1 := L) ?_ (ca_ok (L1 := L) ?_ cn_ok))) rfl).trans (row_sum_ok hp (by simp [wide]; omega) L)
  · exact (call_ok (a := [PI l, .int (maxl l r : Nat)]) (L1 := L) rfl rfl).trans (widened_ok (Nat.le_max_left _ _) hm L)
  · exact (call_ok (a := [PI r, .int (maxl l r : Nat)]) (L1 := L) rfl rfl).trans (widened_ok (Nat.le_max_right _ _) hm L)
theorem less_ok {p : Int} (hp : 0 < p) {l r : List Int} (hl : l.length ≤ 1000) (hr : r.length ≤ 1000) (L : LH) : m_poly_less_other [.int p, PI l, PI r] L = .ok (PI (subP p l r)) L := by
  refine fnD_rt ?_
  have hm : maxl l r ≤ 1000 := by unfold maxl; omega
  refine (seq_nx _ _ (env1 := [some (.int p), some (PI l), some (PI r), some (.int (maxl l r : Nat))]) (L1 := L) (set_ok (d := .int (maxl l r : Nat)) (by
    show R.ok (D.int (if ((LI r).length : Int) > ((LI l).length : Int) then ((LI r).length : Int) else ((LI l).length : Int))) L = _
    rw [max_ok]))).trans ?_
  refine ret_ok ((call_ok (a := [PI (List.zipWith (fun a b => (a - b) % p) (wide l (maxl l r)) (wide r (maxl l r)))]) (L1 := L) (ca_ok ?_ cn_ok) rfl).trans (trimmed_ok (seqT L _) (by simp [wide]; omega)))
  refine (call_ok (a := [.int p, PI (wide l (maxl l r)), PI (wide r (maxl l r))]) (L1 := L) (ca_ok (L1 := L) rfl (ca_ok (L1 := L) ?_ (ca_ok (L1 := L) ?_ cn_ok))) rfl).trans (row_less_ok hp (by simp [wide]; omega) L)
  · exact (call_ok (a := [PI l, .int (maxl l r : Nat)]) (L1 := L) rfl rfl).trans (widened_ok (Nat.le_max_left _ _) hm L)
  · exact (call_ok (a := [PI r, .int (maxl l r : Nat)]) (L1 := L) rfl rfl).trans (widened_ok (Nat.le_max_right _ _) hm L)
def plusP (p f : Int) (l r : List Int) : List Int := trim (List.zipWith (fun a b => (a + f * b) % p) (wide l (maxl l r)) (wide r (maxl l r)))
theorem co_plusP (p f : Int) (l r : List Int) (i : Nat) : co (plusP p f l r) i = (co l i + f * co r i) % p := by
  unfold plusP
  rw [co_trim, co_zipWith _ (by simp) _ _ _ (by rw [wl, wr]), co_wide, co_wide]
theorem mulOk_sm {i j : Int} (h : -100 < i) (k : i < 100) : mulOk i j = true := by
  unfold mulOk DL.small64
  have : decide (-(2 ^ 64) < i ∧ i < 2 ^ 64) = true := by simp; omega
  rw [this]; rfl
theorem wide_list {l : List Int} {n : Nat} (h : l.length ≤ n) (hn : n ≤ 1000) {f : DE} {env : DEnv} {L : LH} {g : DE} (hf : f env L = .ok (PI l) L) (hg : g env L = .ok (.int n) L) : d2 kPlus (dL kListOf (daCons f daNil)) (d2 DL.kTimes (dL DL.kLst (daCons (dC (.int 0)) daNil)) (d2 kSub g (dL kLen (daCons f daNil)))) env L = .ok (.lst (LI (wide l n))) L := by
  refine (d2_ok (a := .lst (LI l)) (b := .lst (LI (List.replicate (n - l.length) 0))) (L1 := L) (L2 := L) (dL_ok (ca_ok hf cn_ok)) ?_).trans (k_plusL (by simp; omega) L)
  refine (d2_ok (a := .lst [.int 0]) (b := .int ((n : Int) - l.length)) (L1 := L) (L2 := L) rfl ((d2_ok hg (dL_ok (ca_ok hf cn_ok))).trans (by show R.ok (D.int ((n : Int) - ((LI l).length : Nat))) L = _; simp))).trans ?_
  rw [k_timesL 0 (by omega) (by omega)]
  have : ((n : Int) - (l.length : Int)).toNat = n - l.length := by omega
  rw [this]
theorem lplus_ok {p f : Int} (hp : 0 < p) (f0 : -100 < f) (f1 : f < 100) {l r : List Int} (hl : l.length ≤ 1000) (hr : r.length ≤ 1000) (L : LH) : m_law_plus [.int p, PI l, PI r, .int f] L = .ok (PI (plusP p f l r)) L := by
  refine fnD_rt ?_
  have hm : maxl l r ≤ 1000 := by unfold maxl; omega
  refine (seq_nx _ _ (env1 := [some (.int p), some (PI l), some (PI r), some (.int f), some (.int (maxl l r : Nat)), none, none, none, none]) (L1 := L) (set_ok (d := .int (maxl l r : Nat)) (by
    show R.ok (D.int (if ((LI r).length : Int) > ((LI l).length : Int) then ((LI r).length : Int) else ((LI l).length : Int))) L = _
    rw [max_ok]))).trans ?_
  refine (seq_nx _ _ (env1 := [some (.int p), some (PI l), some (PI r), some (.int f), some (.int (maxl l r : Nat)), some (.lst (LI (wide l (maxl l r)))), some (.lst (LI (wide r (maxl l r)))), none, none]) (L1 := L) (par_ok (ca_ok (wide_list (Nat.le_max_left _ _) hm rfl rfl) (ca_ok (wide_list (Nat.le_max_right _ _) hm rfl rfl) cn_ok)))).trans ?_
  refine ret_ok ((call_ok (a := [.lst (LI (List.zipWith (fun a b => (a + f * b) % p) (wide l (maxl l r)) (wide r (maxl l r))))]) (L1 := L) (ca_ok ?_ cn_ok) rfl).trans (ltrimmed_ok (seqL L _) (by simp [wide]; omega)))
  refine dLc_ok (items := zipD (LI (wide l (maxl l r))) (LI (wide r (maxl l r)))) (L1 := L) rfl (by have := zipD_len (LI (wide l (maxl l r))) (LI (wide r (maxl l r))); rw [List.length_map, wl] at this; omega) (lc_zip _ _ (fun a b _ _ => ?_))
  refine (d2_ok (a := .int (a + f * b)) (b := .int p) (L1 := L) (L2 := L) ((d2_ok (a := .int a) (b := .int (f * b)) (L1 := L) (L2 := L) rfl ?_).trans (k_plusI _ _)) rfl).trans (k_mod _ _ hp)
  exact (d2_ok (a := .int f) (b := .int b) (L1 := L) (L2 := L) rfl rfl).trans (k_times _ _ (mulOk_sm f0 f1))
end Law

set_option Elab.async false
set_option linter.all false
set_option maxRecDepth 100000
set_option maxHeartbeats 1000000
namespace Law
open PySem PySem.Spec L2 DL PM
variable [Tbs]
/-! combined -/
def comb : List Int → List Int → List (List Int) → List Int
  | T, n :: ns, r :: rs => comb (if n = 0 then T else List.zipWith (fun a b => a + n * b) T r) ns rs
  | T, _, _ => T
def sumc : List Int → List (List Int) → Nat → Int
  | n :: ns, r :: rs, i => n * co r i + sumc ns rs i
  | _, _, _ => 0
theorem comb_co : ∀ (ns : List Int) (rs : List (List Int)) (T : List Int), (∀ r ∈ rs, r.length = T.length) → (comb T ns rs).length = T.length ∧ ∀ i, co (comb T ns rs) i = co T i + sumc ns rs i
  | [], rs, T, _ => by simp [comb, sumc]
  | n :: ns, [], T, _ => by simp [comb, sumc]
  | n :: ns, r :: rs, T, h => by
    have hr := h r (by simp)
    by_cases e : n = 0
    · subst e
      have ih := comb_co ns rs T (fun x hx => h x (by simp [hx]))
      refine ⟨by simpa [comb] using ih.1, fun i => ?_⟩
      have := ih.2 i
      simp only [comb, sumc, if_true]; rw [this]; omega
    · have hl : (List.zipWith (fun a b => a + n * b) T r).length = T.length := by simp [hr]
      have ih := comb_co ns rs (List.zipWith (fun a b => a + n * b) T r) (fun x hx => by rw [hl]; exact h x (by simp [hx]))
      refine ⟨by rw [comb, if_neg e, ih.1, hl], fun i => ?_⟩
      rw [comb, if_neg e, ih.2 i, co_zipWith (fun a b => a + n * b) (by simp) _ _ _ hr.symm, sumc]; omega
theorem comb_loop (L : LH) (p : D) (A B w : Option D) : ∀ (ns : List Int) (rs : List (List Int)) (T : List Int) (x5 x6 : Option D), (∀ n ∈ ns, -100 < n ∧ n < 100) → T.length ≤ 16777216 → ∃ y5 y6,
    forD (gSet2 5 6) (sIf (dTruth (dVar 5)) (sSet 4 (dLc (iZip2 (daCons (dVar 4) (daCons (dVar 6) daNil))) (gSet2 7 8) [7, 8] dYes (d2 kPlus (dVar 7) (d2 DL.kTimes (dVar 5) (dVar 8))))) sNext) (zipD (LI ns) (rs.map fun r => PI r)) [some p, w, A, B, some (.lst (LI T)), x5, x6, none, none] L = .nx [some p, w, A, B, some (.lst (LI (comb T ns rs))), y5, y6, none, none] L
  | [], rs, T, x5, x6, _, _ => ⟨x5, x6, by simp [zipD, forD, comb]⟩
  | n :: ns, [], T, x5, x6, _, _ => ⟨x5, x6, by simp [zipD, forD, comb]⟩
  | n :: ns, r :: rs, T, x5, x6, h, hT => by
    have hn := h n (by simp)
    have hT' : (if n = 0 then T else List.zipWith (fun a b => a + n * b) T r).length ≤ 16777216 := by
      by_cases e : n = 0
      · rw [if_pos e]; exact hT
      · rw [if_neg e]; simp; omega
    obtain ⟨y5, y6, ih⟩ := comb_loop L p A B w ns rs (if n = 0 then T else List.zipWith (fun a b => a + n * b) T r) (some (.int n)) (some (PI r)) (fun x hx => h x (by simp [hx])) hT'
    refine ⟨y5, y6, ?_⟩
    refine (for_go (d := .tup [.int n, PI r]) (ds := zipD (LI ns) (rs.map fun r => PI r)) (env1 := [some p, w, A, B, some (.lst (LI T)), some (.int n), some (PI r), none, none]) rfl (env2 := [some p, w, A, B, some (.lst (LI (if n = 0 then T else List.zipWith (fun a b => a + n * b) T r))), some (.int n), some (PI r), none, none]) (L2 := L) ?_).trans ih
    by_cases e : n = 0
    · subst e
      exact (if_f (truth_b (d := .int 0) rfl rfl)).trans rfl
    · rw [if_neg e]
      refine (if_t (truth_b (d := .int n) (b := true) rfl (by show some (n != 0) = _; simp [e]))).trans (set_ok ?_)
      refine dLc_ok (items := zipD (LI T) (LI r)) (L1 := L) rfl (by have := zipD_len (LI T) (LI r); rw [List.length_map] at this; omega) (lc_zip T r (fun a b _ _ => ?_))
      refine (d2_ok (a := .int a) (b := .int (n * b)) (L1 := L) (L2 := L) rfl ?_).trans (k_plusI _ _)
      exact (d2_ok (a := .int n) (b := .int b) (L1 := L) (L2 := L) rfl rfl).trans (k_times _ _ (mulOk_sm hn.1 hn.2))
theorem combined_ok {p : Int} (hp : 0 < p) {w : Nat} (hw : w ≤ 1000) {ns : List Int} {rs : List (List Int)} (hn : ∀ n ∈ ns, -100 < n ∧ n < 100) (hr : ∀ r ∈ rs, r.length = w) (L : LH) : m_combined [.int p, .int w, PI ns, .lst (rs.map fun r => PI r)] L = .ok (PI ((comb (List.replicate w 0) ns rs).map fun a => a % p)) L := by
  refine fnD_rt ?_
  have hl := (comb_co ns rs (List.replicate w 0) (by simpa using hr)).1
  obtain ⟨y5, y6, hloop⟩ := comb_loop L (.int p) (some (PI ns)) (some (.lst (rs.map fun r => PI r))) (some (.int w)) ns rs (List.replicate w 0) none none hn (by simp; omega)
  refine (seq_nx _ _ (env1 := [some (.int p), some (.int w), some (PI ns), some (.lst (rs.map fun r => PI r)), some (.lst (LI (List.replicate w 0))), none, none, none, none]) (L1 := L) (set_ok ?_)).trans ?_
  · refine (d2_ok (a := .lst [.int 0]) (b := .int w) (L1 := L) (L2 := L) rfl rfl).trans ?_
    rw [k_timesL 0 (by omega) (by omega)]; rfl
  refine (seq_nx _ _ (by
    rw [ev_for]
    show R.toS (R.ok (zipD (LI ns) (rs.map fun r => PI r)) L) _ _ = _
    rw [toS_ok]
    exact hloop)).trans ?_
  refine ret_ok ((dL_ok (ca_ok (a := .lst (LI ((comb (List.replicate w 0) ns rs).map fun a => a % p))) (L1 := L) ?_ cn_ok)).trans rfl)
  refine dLc_ok (items := LI (comb (List.replicate w 0) ns rs)) (L1 := L) rfl (by rw [List.length_map, hl]; simp; omega) (lc_int _ (fun a _ => ?_))
  exact (d2_ok (a := .int a) (b := .int p) (L1 := L) (L2 := L) rfl rfl).trans (k_mod _ _ hp)
/-! products -/
def shrow (n : Nat) (r : List Int) (at_ : Nat) : List Int := List.replicate at_ 0 ++ r ++ List.replicate (n - at_) 0
theorem shrow_len {n at_ : Nat} (r : List Int) (h : at_ ≤ n) : (shrow n r at_).length = n + r.length := by simp [shrow]; omega
theorem shrow_co (n : Nat) (r : List Int) (at_ i : Nat) : co (shrow n r at_) i = if i < at_ then 0 else co r (i - at_) := by
  unfold shrow
  rw [co_app, co_app, co_rep0, co_rep0]
  simp only [List.length_append, List.length_replicate]
  by_cases h : i < at_
  · rw [if_pos h, if_pos (by omega)]
  · rw [if_neg h]
    by_cases q : i < at_ + r.length
    · rw [if_pos q]
    · rw [if_neg q, co_ge (by omega)]
def shrows (n : Nat) (r : List Int) : Nat → Nat → List (List Int)
  | _, 0 => []
  | s, k + 1 => shrow n r s :: shrows n r (s + 1) k
theorem shrows_len {n : Nat} (r : List Int) : ∀ (k s : Nat), s + k ≤ n → ∀ x ∈ shrows n r s k, x.length = n + r.length
  | 0, s, _, x, hx => by simp [shrows] at hx
  | k + 1, s, h, x, hx => by
    simp only [shrows, List.mem_cons] at hx
    rcases hx with rfl | hx
    · exact shrow_len r (by omega)
    · exact shrows_len r k (s + 1) (by omega) x hx
theorem shrows_sum (n : Nat) (r : List Int) : ∀ (l : List Int) (s i : Nat), sumc l (shrows n r s l.length) i = if i < s then 0 else mu l (co r) (i - s)
  | [], s, i => by simp [shrows, sumc, mu]
  | a :: l, s, i => by
    simp only [List.length_cons, shrows, sumc]
    rw [shrows_sum n r l (s + 1) i, shrow_co]
    rcases Nat.lt_trichotomy i s with h | h | h
    · rw [if_pos h, if_pos (by omega), if_pos h]; simp
    · subst h; simp [mu]
    · rw [if_neg (by omega), if_neg (by omega), if_neg (by omega)]
      obtain ⟨j, hj⟩ : ∃ j, i - s = j + 1 := ⟨i - s - 1, by omega⟩
      rw [hj, show i - (s + 1) = j by omega]; rfl
theorem rangeD_rows (n : Nat) (r : List Int) (f : D → D) (hf : ∀ i : Nat, f (.int i) = PI (shrow n r i)) (k : Nat) : (rangeD 0 k).map f = (shrows n r 0 k).map fun x => PI x := by
  have key : ∀ (k s : Nat), ((List.range' s k).map fun (i : Nat) => f (D.int (i : Int))) = (shrows n r s k).map fun x => PI x := by
    intro k
    induction k with
    | zero => intro s; rfl
    | succ k ih => intro s; rw [List.range'_succ]; simp only [List.map_cons, shrows]; rw [hf, ih (s + 1)]
  unfold rangeD
  rw [List.map_map, List.range_eq_range', ← key k 0]
  congr 1
  funext i
  simp
theorem inR_ok (n : Nat) (hn : n ≤ 1000000) : inR (n : Int) = true := by
  have h1 : (-(2 ^ 62) : Int) ≤ (n : Int) := by omega
  have h2 : (n : Int) < (2 ^ 62 : Int) := by omega
  unfold inR
  exact decide_eq_true (And.intro h1 h2)
theorem range1_gen {f : DE} {env : DEnv} {L : LH} {j : Int} (h : f env L = .ok (.int j) L) (hn : inR j = true) : iRange1 (daCons f daNil) env L = .ok (rangeD 0 j.toNat) L := by
  unfold iRange1
  rw [ca_ok h cn_ok]
  show (if inR j = true then R.ok (rangeD 0 j.toNat) L else .no) = _
  rw [if_pos hn]
theorem range1_ok {f : DE} {env : DEnv} {L : LH} {n : Nat} (h : f env L = .ok (.int (n : Int)) L) (hn : n ≤ 1000000) : iRange1 (daCons f daNil) env L = .ok (rangeD 0 n) L := by
  have := range1_gen h (inR_ok n hn)
  rw [Int.toNat_natCast] at this
  exact this
def prodP (p : Int) (l r : List Int) : List Int := trim ((comb (List.replicate (l.length + r.length) 0) l (shrows l.length r 0 l.length)).map fun a => a % p)
theorem co_prodP (p : Int) (l r : List Int) (i : Nat) : co (prodP p l r) i = mu l (co r) i % p := by
  unfold prodP
  rw [co_trim, co_map _ (by simp), (comb_co _ _ _ (by
    intro x hx; rw [shrows_len r l.length 0 (by omega) x hx]; simp)).2, co_rep0, shrows_sum]
  simp
theorem prod_ok {p : Int} (hp : 0 < p) {l r : List Int} (hl : l.length ≤ 100) (hr : r.length ≤ 100) (hm : ∀ n ∈ l, -100 < n ∧ n < 100) (L : LH) : m_product_of_polys [.int p, PI l, PI r] L = .ok (PI (prodP p l r)) L := by
  refine fnD_rt ?_
  refine (seq_nx _ _ (env1 := [some (.int p), some (PI l), some (PI r), some (.int (l.length + r.length : Nat)), none, none]) (L1 := L) (set_ok (d := .int (l.length + r.length : Nat)) (by
    show R.ok (D.int (((LI l).length : Int) + ((LI r).length : Int))) L = _
    simp))).trans ?_
  refine (seq_nx _ _ (env1 := [some (.int p), some (PI l), some (PI r), some (.int (l.length + r.length : Nat)), some (.lst ((shrows l.length r 0 l.length).map fun x => PI x)), none]) (L1 := L) (set_ok ?_)).trans ?_
  · refine dLc_ok (items := rangeD 0 l.length) (L1 := L) ?_ (by simp [rangeD]; omega) (L2 := L) ?_
    · exact range1_ok ((dL_ok (a := [PI l]) (L1 := L) rfl).trans (by rw [k_lenT]; simp)) (by omega)
    · rw [← rangeD_rows l.length r (fun d => match d with | .int i => PI (shrow l.length r i.toNat) | d => d) (fun i => by simp)]
      refine lc_map _ (fun d hd => ?_)
      unfold rangeD at hd
      obtain ⟨i, hi, rfl⟩ := List.mem_map.mp hd
      have hi' : i < l.length := by simpa using hi
      refine ⟨[some (.int p), some (PI l), some (PI r), some (.int (l.length + r.length : Nat)), none, some (.int (0 + (i : Int)))], rfl, ?_⟩
      have e0 : (0 + (i : Int)) = (i : Int) := by omega
      rw [e0]
      refine (d2_ok (a := PI (List.replicate i 0 ++ r)) (b := PI (List.replicate (l.length - i) 0)) (L1 := L) (L2 := L) ?_ ?_).trans ((k_plusT (by simp; omega) L).trans (by simp [shrow]))
      · refine (d2_ok (a := PI (List.replicate i 0)) (b := PI r) (L1 := L) (L2 := L) ?_ rfl).trans (k_plusT (by simp; omega) L)
        refine (call_ok (a := [.int (i : Int)]) (L1 := L) rfl rfl).trans ?_
        rw [zero_ok (by omega) (by omega)]; simp
      · refine (call_ok (a := [.int ((l.length : Int) - (i : Int))]) (L1 := L) (ca_ok ((d2_ok (a := .int l.length) (b := .int i) (L1 := L) (L2 := L) (by show R.ok (D.int (LI l).length) L = _; simp) rfl).trans (k_sub _ _)) cn_ok) rfl).trans ?_
        rw [zero_ok (by omega) (by omega)]
        have : ((l.length : Int) - (i : Int)).toNat = l.length - i := by omega
        rw [this]
  refine ret_ok ((call_ok (a := [PI ((comb (List.replicate (l.length + r.length) 0) l (shrows l.length r 0 l.length)).map fun a => a % p)]) (L1 := L) (ca_ok ?_ cn_ok) rfl).trans (trimmed_ok (seqT L _) ?_))
  · exact (call_ok (a := [.int p, .int (l.length + r.length : Nat), PI l, .lst ((shrows l.length r 0 l.length).map fun x => PI x)]) (L1 := L) rfl rfl).trans (combined_ok hp (by omega) hm (shrows_len r l.length 0 (by omega)) L)
  · rw [List.length_map, (comb_co _ _ _ (by
      intro x hx; rw [shrows_len r l.length 0 (by omega) x hx]; simp)).1]; simp; omega
end Law

set_option Elab.async false
set_option linter.all false
set_option maxRecDepth 100000
set_option maxHeartbeats 1000000
namespace Law
open PySem PySem.Spec L2 DL PM
variable [Tbs]
def Low (L : LH) : Prop := L.all (lowO L.length) = true
theorem low_LI (b : Nat) : ∀ l : List Int, lowAll b (LI l) = true
  | [] => rfl
  | a :: l => by
    show (low b (.int a) && lowAll b (LI l)) = true
    rw [low_LI b l]; rfl
theorem frz_LI (b : Nat) (L : LH) : ∀ l : List Int, frzAll b L (LI l) = some (LI l)
  | [] => rfl
  | a :: l => by
    show frzAll b L (.int a :: LI l) = _
    unfold frzAll
    rw [frz_LI b L l]; rfl
theorem frz_PI (b : Nat) (L : LH) (l : List Int) : frzD b L (PI l) = some (PI l) := by
  show (frzAll b L (LI l)).map D.tup = _
  rw [frz_LI]; rfl
theorem frz_2 (b : Nat) (L : LH) (l r : List Int) : frzD b L (.tup [PI l, PI r]) = some (.tup [PI l, PI r]) := by
  show (frzAll b L [PI l, PI r]).map D.tup = _
  unfold frzAll frzAll frzAll
  rw [frz_PI, frz_PI]; rfl
theorem fnD_low {N : Nat} {body : DS} {ds : List D} {L ex : LH} {d d' : D} (h : body (startD N ds) L = .rt d (L ++ ex)) (he : ex ≠ []) (hd : frzD L.length (L ++ ex) d = some d') (hL : Low L) : fnD N body ds L = .ok d' L := by
  unfold fnD; rw [h]
  show leave L (L ++ ex) d = _
  unfold leave
  rw [if_neg (by
    rw [List.length_append]
    have : ex.length ≠ 0 := fun e => he (List.length_eq_zero_iff.mp e)
    omega), hd, List.take_left']
  · show (if L.all (lowO L.length) = true then R.ok d' L else .ok d (L ++ ex)) = _
    exact if_pos hL
  · rfl
theorem ref_seq {L : LH} {n : Nat} {F : List Int} (h : L[n]? = some (.lst (LI F))) : seqD L (.ref n) = some (false, LI F) := by
  show (match L[n]? with | some (.lst ds) => some (false, ds) | _ => none) = _
  rw [h]
theorem set_ref {L : LH} {n i : Nat} {F : List Int} {c : Int} (h : L[n]? = some (.lst (LI F))) (hi : i < F.length) : kSetIx (.ref n) (.int (i : Int)) (.int c) L = .ok () (L.set n (.lst (LI (F.set i c)))) := by
  have e : ixN (LI F).length (i : Int) = some i := by
    unfold ixN; rw [if_pos (by omega), List.length_map, if_pos (by omega)]; rfl
  unfold kSetIx
  simp only [h, e]
  congr 3
  simp [LI]
theorem setIx_ok {f g h : DE} {env : DEnv} {L L' : LH} {a i d : D} (h1 : h env L = .ok d L) (h2 : f env L = .ok a L) (h3 : g env L = .ok i L) (h4 : kSetIx a i d L = .ok () L') : sSetIx f g h env L = .nx env L' := by
  simp [sSetIx, h1, h2, h3, h4, R.toS]
def enumF : Nat → List Int → List D
  | _, [] => []
  | o, b :: bs => .tup [.int (o : Int), .int b] :: enumF (o + 1) bs
theorem enumD_F (l : List Int) : enumD (LI l) = enumF 0 l := by
  have key : ∀ (l : List Int) (s : Nat), ((List.range' s l.length).zip (LI l)).map (fun p => D.tup [.int (p.1 : Nat), p.2]) = enumF s l := by
    intro l
    induction l with
    | nil => intro s; rfl
    | cons a l ih => intro s; simp only [List.length_cons, List.range'_succ, LI, List.map_cons, List.zip_cons_cons, enumF]; rw [← ih (s + 1)]
  unfold enumD
  rw [List.length_map, List.range_eq_range']
  exact key l 0
def inner (p a : Int) : List Int → Nat → List Int → List Int
  | F, _, [] => F
  | F, k, b :: bs => inner p a (F.set k ((co F k + a * b) % p)) (k + 1) bs
theorem red_set {p : Int} (hp : 0 < p) {F : List Int} (h : Red p F) (k : Nat) (x : Int) : Red p (F.set k (x % p)) := by
  intro i
  by_cases hk : k < F.length
  · rw [co_set _ _ _ _ hk]; split
    · exact ⟨Int.emod_nonneg _ (by omega), Int.emod_lt_of_pos _ hp⟩
    · exact h i
  · rw [List.set_eq_of_length_le (by omega)]; exact h i
theorem inner_len (p a : Int) : ∀ (bs F : List Int) (k : Nat), (inner p a F k bs).length = F.length
  | [], F, k => rfl
  | b :: bs, F, k => by rw [inner, inner_len p a bs]; simp
theorem inner_red {p : Int} (hp : 0 < p) (a : Int) : ∀ (bs F : List Int) (k : Nat), Red p F → Red p (inner p a F k bs)
  | [], F, k, h => h
  | b :: bs, F, k, h => inner_red hp a bs _ _ (red_set hp h k _)
theorem inner_co (p a : Int) : ∀ (bs F : List Int) (k : Nat), k + bs.length ≤ F.length → ∀ i, cg p (co (inner p a F k bs) i) (co F i + (if i < k then 0 else a * co bs (i - k)))
  | [], F, k, _, i => by
    show cg p (co F i) _
    apply cg_of; split <;> simp
  | b :: bs, F, k, h, i => by
    simp only [List.length_cons] at h
    have ih := inner_co p a bs (F.set k ((co F k + a * b) % p)) (k + 1) (by simp; omega) i
    rw [inner]
    refine cg_trans ih ?_
    rw [co_set _ _ _ _ (by omega)]
    rcases Nat.lt_trichotomy i k with e | e | e
    · rw [if_neg (by omega), if_pos (by omega), if_pos e]; exact cg_rfl
    · subst e
      rw [if_pos rfl, if_pos (by omega), if_neg (by omega)]
      have := cg_add (cg_mod (p := p) (a := co F i + a * b)) (cg_rfl (a := (0 : Int)))
      simpa using this
    · rw [if_neg (by omega), if_neg (by omega), if_neg (by omega)]
      obtain ⟨j, hj⟩ : ∃ j, i - k = j + 1 := ⟨i - k - 1, by omega⟩
      rw [hj, show i - (k + 1) = j by omega]
      exact cg_of (by simp)
theorem set_same {L : LH} {n : Nat} {x : LO} (h : L[n]? = some x) : L.set n x = L := by
  apply List.ext_getElem?
  intro i
  rw [List.getElem?_set]
  split
  · rename_i e; subst e
    split
    · exact h.symm
    · rename_i q; rw [List.getElem?_eq_none (by omega)] at h; cases h
  · rfl
theorem set_get {L : LH} {n : Nat} {x y : LO} (h : L[n]? = some x) : (L.set n y)[n]? = some y := by
  rw [List.getElem?_set, if_pos rfl]
  rw [if_pos]
  rcases Nat.lt_or_ge n L.length with q | q
  · exact q
  · rw [List.getElem?_eq_none q] at h; cases h
theorem tinner {p a : Int} (hp : 0 < p) (a0 : -100 < a) (a1 : a < 100) (A B : Option D) (n at_ : Nat) : ∀ (bs F : List Int) (o : Nat) (L : LH) (x6 x7 : Option D), L[n]? = some (.lst (LI F)) → at_ + o + bs.length ≤ F.length → ∃ y6 y7,
    forD (gSet2 6 7) (sSetIx (dVar 3) (d2 kPlus (dVar 4) (dVar 6)) (d2 kMod (d2 kPlus (d2 kIx (dVar 3) (d2 kPlus (dVar 4) (dVar 6))) (d2 DL.kTimes (dVar 5) (dVar 7))) (dVar 0))) (enumF o bs) [some (.int p), A, B, some (.ref n), some (.int (at_ : Int)), some (.int a), x6, x7] L = .nx [some (.int p), A, B, some (.ref n), some (.int (at_ : Int)), some (.int a), y6, y7] (L.set n (.lst (LI (inner p a F (at_ + o) bs))))
  | [], F, o, L, x6, x7, h, _ => ⟨x6, x7, by rw [inner, set_same h]; rfl⟩
  | b :: bs, F, o, L, x6, x7, h, hl => by
    simp only [List.length_cons] at hl
    obtain ⟨y6, y7, ih⟩ := tinner hp a0 a1 A B n at_ bs (F.set (at_ + o) ((co F (at_ + o) + a * b) % p)) (o + 1) (L.set n (.lst (LI (F.set (at_ + o) ((co F (at_ + o) + a * b) % p))))) (some (.int (o : Int))) (some (.int b)) (set_get h) (by simp; omega)
    refine ⟨y6, y7, ?_⟩
    rw [List.set_set] at ih
    have he : ((at_ : Int) + (o : Int)) = ((at_ + o : Nat) : Int) := by omega
    refine (for_go (d := .tup [.int (o : Int), .int b]) (ds := enumF (o + 1) bs) rfl (env1 := [some (.int p), A, B, some (.ref n), some (.int (at_ : Int)), some (.int a), some (.int (o : Int)), some (.int b)]) (setIx_ok (a := .ref n) (i := .int ((at_ + o : Nat) : Int)) (d := .int ((co F (at_ + o) + a * b) % p)) ?_ rfl (by rw [← he]; rfl) (set_ref h (by omega)))).trans ih
    refine (d2_ok (a := .int (co F (at_ + o) + a * b)) (b := .int p) (L1 := L) (L2 := L) ?_ rfl).trans (k_mod _ _ hp)
    refine (d2_ok (a := .int (co F (at_ + o))) (b := .int (a * b)) (L1 := L) (L2 := L) ?_ ?_).trans (k_plusI _ _)
    · refine (d2_ok (a := .ref n) (b := .int ((at_ + o : Nat) : Int)) (L1 := L) (L2 := L) rfl (by rw [← he]; rfl)).trans (seqD_ix (ref_seq h) _ (by omega))
    · exact (d2_ok (a := .int a) (b := .int b) (L1 := L) (L2 := L) rfl rfl).trans (k_times _ _ (mulOk_sm a0 a1))
def outer (p : Int) (bs : List Int) : List Int → Nat → List Int → List Int
  | F, _, [] => F
  | F, k, a :: as => outer p bs (inner p a F k bs) (k + 1) as
theorem outer_len (p : Int) (bs : List Int) : ∀ (as F : List Int) (k : Nat), (outer p bs F k as).length = F.length
  | [], F, k => rfl
  | a :: as, F, k => by rw [outer, outer_len p bs as, inner_len]
theorem outer_red {p : Int} (hp : 0 < p) (bs : List Int) : ∀ (as F : List Int) (k : Nat), Red p F → Red p (outer p bs F k as)
  | [], F, k, h => h
  | a :: as, F, k, h => outer_red hp bs as _ _ (inner_red hp a bs F k h)
theorem outer_co (p : Int) (bs : List Int) : ∀ (as F : List Int) (k : Nat), k + as.length + bs.length ≤ F.length → ∀ i, cg p (co (outer p bs F k as) i) (co F i + (if i < k then 0 else mu as (co bs) (i - k)))
  | [], F, k, _, i => by
    show cg p (co F i) _
    apply cg_of; split <;> simp [mu]
  | a :: as, F, k, h, i => by
    simp only [List.length_cons] at h
    have ih := outer_co p bs as (inner p a F k bs) (k + 1) (by rw [inner_len]; omega) i
    rw [outer]
    refine cg_trans ih (cg_trans (cg_add (inner_co p a bs F k (by omega) i) cg_rfl) (cg_of ?_))
    rcases Nat.lt_trichotomy i k with e | e | e
    · rw [if_pos e, if_pos (by omega), if_pos e]; simp
    · subst e
      rw [if_neg (by omega), if_pos (by omega), if_neg (by omega)]; simp [mu]
    · rw [if_neg (by omega), if_neg (by omega), if_neg (by omega)]
      obtain ⟨j, hj⟩ : ∃ j, i - k = j + 1 := ⟨i - k - 1, by omega⟩
      rw [hj, show i - (k + 1) = j by omega]
      simp only [mu, shs]; omega
theorem touter {p : Int} (hp : 0 < p) (A : Option D) (n : Nat) (bs : List Int) : ∀ (as F : List Int) (o : Nat) (L : LH) (x4 x5 x6 x7 : Option D), (∀ a ∈ as, -100 < a ∧ a < 100) → L[n]? = some (.lst (LI F)) → o + as.length + bs.length ≤ F.length → ∃ y4 y5 y6 y7,
    forD (gSet2 4 5) (sFor (iEnum1 (daCons (dVar 2) daNil)) (gSet2 6 7) (sSetIx (dVar 3) (d2 kPlus (dVar 4) (dVar 6)) (d2 kMod (d2 kPlus (d2 kIx (dVar 3) (d2 kPlus (dVar 4) (dVar 6))) (d2 DL.kTimes (dVar 5) (dVar 7))) (dVar 0)))) (enumF o as) [some (.int p), A, some (PI bs), some (.ref n), x4, x5, x6, x7] L = .nx [some (.int p), A, some (PI bs), some (.ref n), y4, y5, y6, y7] (L.set n (.lst (LI (outer p bs F o as))))
  | [], F, o, L, x4, x5, x6, x7, _, h, _ => ⟨x4, x5, x6, x7, by rw [outer, set_same h]; rfl⟩
  | a :: as, F, o, L, x4, x5, x6, x7, ha, h, hl => by
    simp only [List.length_cons] at hl
    have h1 := ha a (by simp)
    obtain ⟨z6, z7, hin⟩ := tinner hp h1.1 h1.2 A (some (PI bs)) n o bs F 0 L x6 x7 h (by omega)
    obtain ⟨y4, y5, y6, y7, ih⟩ := touter hp A n bs as (inner p a F o bs) (o + 1) (L.set n (.lst (LI (inner p a F o bs)))) (some (.int (o : Int))) (some (.int a)) z6 z7 (fun x hx => ha x (by simp [hx])) (set_get h) (by rw [inner_len]; omega)
    refine ⟨y4, y5, y6, y7, ?_⟩
    rw [List.set_set] at ih
    refine (for_go (d := .tup [.int (o : Int), .int a]) (ds := enumF (o + 1) as) rfl (env1 := [some (.int p), A, some (PI bs), some (.ref n), some (.int (o : Int)), some (.int a), x6, x7]) ?_).trans ih
    rw [ev_for]
    show R.toS (R.ok (enumD (LI bs)) L) _ _ = _
    rw [toS_ok, enumD_F]
    exact hin
def timesP (p : Int) (l r : List Int) : List Int := trim (outer p r (List.replicate (l.length + r.length) 0) 0 l)
theorem red_zero {p : Int} (hp : 0 < p) (n : Nat) : Red p (List.replicate n 0) := fun i => by rw [co_rep0]; exact ⟨Int.le_refl 0, hp⟩
theorem red_timesP {p : Int} (hp : 0 < p) (l r : List Int) : Red p (timesP p l r) := red_trim (outer_red hp r l _ _ (red_zero hp _))
theorem co_timesP {p : Int} (l r : List Int) (i : Nat) : cg p (co (timesP p l r) i) (mu l (co r) i) := by
  unfold timesP
  rw [co_trim]
  have := outer_co p r l (List.replicate (l.length + r.length) 0) 0 (by simp) i
  rw [co_rep0] at this
  simpa using this
theorem prod_times {p : Int} (hp : 0 < p) (l r : List Int) : prodP p l r = timesP p l r := by
  apply trim_eq
  · exact trim_trim _
  · exact trim_trim _
  · refine red_eq (p := p) (fun i => ?_) (red_timesP hp l r) (fun i => ?_)
    · rw [co_prodP]; exact ⟨Int.emod_nonneg _ (by omega), Int.emod_lt_of_pos _ hp⟩
    · rw [co_prodP]; exact cg_trans cg_mod (cg_sym (co_timesP l r i))
theorem times_comm {p : Int} (hp : 0 < p) (l r : List Int) : timesP p l r = timesP p r l := by
  apply trim_eq (trim_trim _) (trim_trim _)
  refine red_eq (red_timesP hp l r) (red_timesP hp r l) (fun i => ?_)
  refine cg_trans (co_timesP l r i) (cg_trans (cg_of (mu_comm l r i)) (cg_sym (co_timesP r l i)))
theorem get_app (L : LH) (x : LO) (ex : LH) : (L ++ x :: ex)[L.length]? = some x := by simp
theorem rep_new {f g : DE} {env : DEnv} {L : LH} {k : Int} (hf : f env L = .ok (.lst [.int 0]) L) (hg : g env L = .ok (.int k) L) (h : -100000 ≤ k) (h' : k ≤ 100000) : fRep f g env L = .ok (LI (List.replicate k.toNat 0)) L := by
  unfold fRep
  rw [hf]
  show R.bind (g env L) _ = _
  rw [hg]
  show (if repOk 1 k then R.ok (List.replicate k.toNat [D.int 0]).flatten L else .no) = _
  rw [if_pos (repOk_i h h'), rep_flat]
theorem ltimes_ok {p : Int} (hp : 0 < p) {l r : List Int} (hl : l.length ≤ 100) (hr : r.length ≤ 100) (hm : ∀ n ∈ l, -100 < n ∧ n < 100) {L : LH} (hL : Low L) : m_law_times [.int p, PI l, PI r] L = .ok (PI (timesP p l r)) L := by
  refine fnD_low (ex := [.lst (LI (outer p r (List.replicate (l.length + r.length) 0) 0 l))]) (d := PI (timesP p l r)) ?_ (by simp) (frz_PI _ _ _) hL
  have hf : fRep (dL DL.kLst (daCons (dC (.int 0)) daNil)) (d2 kPlus (dL kLen (daCons (dVar 1) daNil)) (dL kLen (daCons (dVar 2) daNil))) (startD 8 [.int p, PI l, PI r]) L = .ok (LI (List.replicate (l.length + r.length) 0)) L := by
    have := rep_new (f := dL DL.kLst (daCons (dC (.int 0)) daNil)) (g := d2 kPlus (dL kLen (daCons (dVar 1) daNil)) (dL kLen (daCons (dVar 2) daNil))) (env := startD 8 [.int p, PI l, PI r]) (L := L) (k := ((l.length + r.length : Nat) : Int)) rfl (by
      refine (d2_ok (a := .int (LI l).length) (b := .int (LI r).length) (L1 := L) (L2 := L) rfl rfl).trans ((k_plusI _ _).trans ?_)
      simp) (by omega) (by omega)
    rw [Int.toNat_natCast] at this
    exact this
  refine (seq_nx _ _ (env1 := [some (.int p), some (PI l), some (PI r), some (.ref L.length), none, none, none, none]) (L1 := L ++ [.lst (LI (List.replicate (l.length + r.length) 0))]) (by unfold sNew; rw [hf]; rfl)).trans ?_
  obtain ⟨y4, y5, y6, y7, ho⟩ := touter hp (some (PI l)) L.length r l (List.replicate (l.length + r.length) 0) 0 (L ++ [.lst (LI (List.replicate (l.length + r.length) 0))]) none none none none hm (get_app L _ []) (by simp)
  refine (seq_nx _ _ (by
    rw [ev_for]
    show R.toS (R.ok (enumD (LI l)) _) _ _ = _
    rw [toS_ok, enumD_F]
    exact ho)).trans ?_
  have hs : (L ++ [LO.lst (LI (List.replicate (l.length + r.length) 0))]).set L.length (.lst (LI (outer p r (List.replicate (l.length + r.length) 0) 0 l))) = L ++ [.lst (LI (outer p r (List.replicate (l.length + r.length) 0) 0 l))] := by simp
  rw [hs]
  exact ret_ok ((call_ok (a := [.ref L.length]) rfl rfl).trans (ltrimmed_ok (ref_seq (get_app L _ [])) (by rw [outer_len]; simp; omega)))
end Law

set_option Elab.async false
set_option linter.all false
set_option maxRecDepth 100000
set_option maxHeartbeats 1000000
namespace Law
open PySem PySem.Spec L2 DL PM
variable [Tbs]
structure DivOk (p : Int) (a b q r : List Int) : Prop where
  rq : Red p q
  rr : Red p r
  tq : trim q = q
  tr : trim r = r
  eq : ∀ i, cg p (co a i) (mu b (co q) i + co r i)
  lt : r.length < b.length
theorem div_uniq {p : Int} (hp : pr p) {a b q r q' r' : List Int} (hb : Red p b) (tb : trim b = b) (nb : b ≠ []) (h : DivOk p a b q r) (h' : DivOk p a b q' r') : q = q' ∧ r = r' := by
  have u := uniq hp hb tb nb (a := a) (g1 := co q) (g2 := co q') (r1 := r) (r2 := r') ⟨⟨q.length, fun i hi => co_ge hi⟩, h.eq, fun i hi => co_ge (by have := h.lt; omega)⟩ ⟨⟨q'.length, fun i hi => co_ge hi⟩, h'.eq, fun i hi => co_ge (by have := h'.lt; omega)⟩
  exact ⟨trim_eq h.tq h'.tq (red_eq h.rq h'.rq u.1), trim_eq h.tr h'.tr (red_eq h.rr h'.rr u.2)⟩
structure DInv (p : Int) (a b : List Int) (k : Nat) (F Q : List Int) : Prop where
  rf : Red p F
  rq : Red p Q
  q0 : ∀ i, i < k → co Q i = 0
  f0 : ∀ i, k + b.length ≤ i + 1 → co F i = 0
  eq : ∀ i, cg p (co a i) (mu b (co Q) i + co F i)
theorem mu_set (b Q : List Int) (k : Nat) (c : Int) (hk : k < Q.length) (h0 : co Q k = 0) (i : Nat) : mu b (co (Q.set k c)) i = mu b (co Q) i + c * (if i < k then 0 else co b (i - k)) := by
  have e : co (Q.set k c) = fun j => co Q j + (fun j => c * dl k j) j := by
    funext j
    rw [co_set _ _ _ _ hk]
    unfold dl
    by_cases e : j = k
    · subst e; simp [h0]
    · simp [e]
  rw [e, mu_add, mu_smul, mu_dl]
theorem red_small {p : Int} (hp : pr p) {l : List Int} (h : Red p l) (i : Nat) : -100 < co l i ∧ co l i < 100 := by
  have := h i; unfold pr at hp; omega
theorem red_mem {p : Int} (hp : pr p) {l : List Int} (h : Red p l) : ∀ a ∈ l, -100 < a ∧ a < 100 := fun a ha => by
  have := mem_of_red h a ha; unfold pr at hp; omega
theorem mod_small {p : Int} (hp : pr p) (x : Int) : 0 ≤ x % p ∧ x % p < p ∧ x % p < 100 := by
  have h1 := Int.emod_nonneg x (show p ≠ 0 by unfold pr at hp; omega)
  have h2 := Int.emod_lt_of_pos x (pr_pos hp)
  unfold pr at hp; omega
theorem last_pos {p : Int} {b : List Int} (hb : Red p b) (tb : trim b = b) (nb : b ≠ []) : 0 < co b (b.length - 1) ∧ co b (b.length - 1) < p := by
  have := trim_top tb nb
  have := hb (b.length - 1)
  omega
/-- one place of a division -/
theorem cancel {p : Int} (hp : pr p) {b : List Int} (hb : Red p b) (tb : trim b = b) (nb : b ≠ []) (x : Int) : cg p (x + -(x * inv p (co b (b.length - 1)) % p) * co b (b.length - 1)) 0 := by
  have hl := last_pos hb tb nb
  have hi := (inv_ok hp hl.1 hl.2).2.2
  have h1 : cg p (x * inv p (co b (b.length - 1)) % p * co b (b.length - 1)) (x * inv p (co b (b.length - 1)) * co b (b.length - 1)) := cg_mul cg_mod cg_rfl
  have h2 : cg p (x * inv p (co b (b.length - 1)) * co b (b.length - 1)) (x * 1) := by
    rw [Int.mul_assoc, Int.mul_comm (inv p _)]
    exact cg_mul cg_rfl hi
  have h3 := cg_sub (cg_rfl (a := x)) (cg_trans h1 h2)
  rw [Int.mul_one, Int.sub_self] at h3
  rw [Int.neg_mul, ← Int.sub_eq_add_neg]
  exact h3
theorem DInv.step {p : Int} (hp : pr p) {a b F Q : List Int} (hb : Red p b) (tb : trim b = b) (nb : b ≠ []) {k : Nat} (h : DInv p a b (k + 1) F Q) (hQ : k < Q.length) (hF : k + b.length ≤ F.length) : DInv p a b k (inner p (-(co F (k + b.length - 1) * inv p (co b (b.length - 1)) % p)) F k b) (Q.set k (co F (k + b.length - 1) * inv p (co b (b.length - 1)) % p)) := by
  have hl : b.length ≠ 0 := fun e => nb (List.length_eq_zero_iff.mp e)
  have hp0 := pr_pos hp
  have hrF := inner_red hp0 (-(co F (k + b.length - 1) * inv p (co b (b.length - 1)) % p)) b F k h.rf
  have hco := inner_co p (-(co F (k + b.length - 1) * inv p (co b (b.length - 1)) % p)) b F k hF
  refine ⟨hrF, red_set hp0 h.rq k _, fun i hi => ?_, fun i hi => ?_, fun i => ?_⟩
  · rw [co_set _ _ _ _ hQ, if_neg (by omega)]; exact h.q0 i (by omega)
  · have h0 : cg p (co (inner p (-(co F (k + b.length - 1) * inv p (co b (b.length - 1)) % p)) F k b) i) 0 := by
      refine cg_trans (hco i) ?_
      rw [if_neg (by omega)]
      by_cases e : i = k + b.length - 1
      · subst e
        rw [show k + b.length - 1 - k = b.length - 1 by omega]
        exact cancel hp hb tb nb _
      · rw [h.f0 i (by omega), co_ge (l := b) (i := i - k) (by omega)]; exact cg_of (by simp)
    exact cg_eq h0 (hrF i).1 (hrF i).2 (Int.le_refl 0) hp0
  · rw [mu_set _ _ _ _ hQ (h.q0 k (by omega))]
    refine cg_trans (h.eq i) ?_
    refine cg_sym (cg_trans (cg_add cg_rfl (hco i)) (cg_of ?_))
    split
    · simp
    · rw [Int.neg_mul]; omega
theorem dinner {p num : Int} (hp : 0 < p) (a0 : -100 < num) (a1 : num < 100) (A B U P Qv : Option D) (n at_ : Nat) : ∀ (bs F : List Int) (o : Nat) (L : LH) (x9 x10 : Option D), L[n]? = some (.lst (LI F)) → at_ + o + bs.length ≤ F.length → ∃ y9 y10,
    forD (gSet2 9 10) (sSetIx (dVar 3) (d2 kPlus (dVar 7) (dVar 9)) (d2 kMod (d2 kSub (d2 kIx (dVar 3) (d2 kPlus (dVar 7) (dVar 9))) (d2 DL.kTimes (dVar 8) (dVar 10))) (dVar 0))) (enumF o bs) [some (.int p), A, B, some (.ref n), U, P, Qv, some (.int (at_ : Int)), some (.int num), x9, x10] L = .nx [some (.int p), A, B, some (.ref n), U, P, Qv, some (.int (at_ : Int)), some (.int num), y9, y10] (L.set n (.lst (LI (inner p (-num) F (at_ + o) bs))))
  | [], F, o, L, x9, x10, h, _ => ⟨x9, x10, by rw [inner, set_same h]; rfl⟩
  | b :: bs, F, o, L, x9, x10, h, hl => by
    simp only [List.length_cons] at hl
    obtain ⟨y9, y10, ih⟩ := dinner hp a0 a1 A B U P Qv n at_ bs (F.set (at_ + o) ((co F (at_ + o) + -num * b) % p)) (o + 1) (L.set n (.lst (LI (F.set (at_ + o) ((co F (at_ + o) + -num * b) % p))))) (some (.int (o : Int))) (some (.int b)) (set_get h) (by simp; omega)
    refine ⟨y9, y10, ?_⟩
    rw [List.set_set] at ih
    have he : ((at_ : Int) + (o : Int)) = ((at_ + o : Nat) : Int) := by omega
    have hv : co F (at_ + o) - num * b = co F (at_ + o) + -num * b := by rw [Int.neg_mul]; omega
    refine (for_go (d := .tup [.int (o : Int), .int b]) (ds := enumF (o + 1) bs) rfl (env1 := [some (.int p), A, B, some (.ref n), U, P, Qv, some (.int (at_ : Int)), some (.int num), some (.int (o : Int)), some (.int b)]) (setIx_ok (a := .ref n) (i := .int ((at_ + o : Nat) : Int)) (d := .int ((co F (at_ + o) + -num * b) % p)) ?_ rfl (by rw [← he]; rfl) (set_ref h (by omega)))).trans ih
    rw [← hv]
    refine (d2_ok (a := .int (co F (at_ + o) - num * b)) (b := .int p) (L1 := L) (L2 := L) ?_ rfl).trans (k_mod _ _ hp)
    refine (d2_ok (a := .int (co F (at_ + o))) (b := .int (num * b)) (L1 := L) (L2 := L) ?_ ?_).trans (k_sub _ _)
    · refine (d2_ok (a := .ref n) (b := .int ((at_ + o : Nat) : Int)) (L1 := L) (L2 := L) rfl (by rw [← he]; rfl)).trans (seqD_ix (ref_seq h) _ (by omega))
    · exact (d2_ok (a := .int num) (b := .int b) (L1 := L) (L2 := L) rfl rfl).trans (k_times _ _ (mulOk_sm a0 a1))
def revF : Nat → List D
  | 0 => []
  | k + 1 => .int (k : Int) :: revF k
theorem revD_F (k : Nat) : revD (k : Int) = revF k := by
  induction k with
  | zero => rfl
  | succ k ih =>
    unfold revD at ih ⊢
    rw [Int.toNat_natCast] at ih ⊢
    rw [List.range_succ_eq_map, List.map_cons, List.map_map, revF, ← ih]
    congr 1
    · congr 1; omega
    · apply List.map_congr_left
      intro i _
      show D.int _ = D.int _
      congr 1
      simp only [Nat.succ_eq_add_one]; omega
theorem sets0 (L : LH) (x y z : LO) : (L ++ [x, y]).set L.length z = L ++ [z, y] := by simp
theorem sets1 (L : LH) (x y z : LO) : (L ++ [x, y]).set (L.length + 1) z = L ++ [x, z] := by simp
theorem gets0 (L : LH) (x y : LO) : (L ++ [x, y])[L.length]? = some x := by simp
theorem gets1 (L : LH) (x y : LO) : (L ++ [x, y])[L.length + 1]? = some y := by simp
theorem ploop {p : Int} (hp : pr p) {a b : List Int} (hb : Red p b) (tb : trim b = b) (nb : b ≠ []) (A P : Option D) (L : LH) : ∀ (k : Nat) (F Q : List Int) (x7 x8 x9 x10 : Option D), DInv p a b k F Q → k ≤ Q.length → (k = 0 ∨ k + b.length ≤ F.length + 1) → ∃ F' Q' y7 y8 y9 y10,
    F'.length = F.length ∧ Q'.length = Q.length ∧ DInv p a b 0 F' Q' ∧ forD (gSet 7) (sSeq (sSet 8 (d2 kMod (d2 DL.kTimes (d2 kIx (dVar 3) (d2 kSub (d2 kPlus (dVar 7) (dL kLen (daCons (dVar 2) daNil))) (dC (.int 1)))) (dVar 4)) (dVar 0))) (sSeq (sSetIx (dVar 6) (dVar 7) (dVar 8)) (sFor (iEnum1 (daCons (dVar 2) daNil)) (gSet2 9 10) (sSetIx (dVar 3) (d2 kPlus (dVar 7) (dVar 9)) (d2 kMod (d2 kSub (d2 kIx (dVar 3) (d2 kPlus (dVar 7) (dVar 9))) (d2 DL.kTimes (dVar 8) (dVar 10))) (dVar 0)))))) (revF k) [some (.int p), A, some (PI b), some (.ref L.length), some (.int (inv p (co b (b.length - 1)))), P, some (.ref (L.length + 1)), x7, x8, x9, x10] (L ++ [.lst (LI F), .lst (LI Q)]) = .nx [some (.int p), A, some (PI b), some (.ref L.length), some (.int (inv p (co b (b.length - 1)))), P, some (.ref (L.length + 1)), y7, y8, y9, y10] (L ++ [.lst (LI F'), .lst (LI Q')])
  | 0, F, Q, x7, x8, x9, x10, h, _, _ => ⟨F, Q, x7, x8, x9, x10, rfl, rfl, h, rfl⟩
  | k + 1, F, Q, x7, x8, x9, x10, h, hQ, hF => by
    have hl : b.length ≠ 0 := fun e => nb (List.length_eq_zero_iff.mp e)
    have hF' : k + b.length ≤ F.length := by omega
    have hd := h.step hp hb tb nb (by omega) hF'
    have hm := mod_small hp (co F (k + b.length - 1) * inv p (co b (b.length - 1)))
    obtain ⟨z9, z10, hin⟩ := dinner (pr_pos hp) (num := co F (k + b.length - 1) * inv p (co b (b.length - 1)) % p) (by omega) hm.2.2 A (some (PI b)) (some (.int (inv p (co b (b.length - 1))))) P (some (.ref (L.length + 1))) L.length k b F 0 (L ++ [.lst (LI F), .lst (LI (Q.set k (co F (k + b.length - 1) * inv p (co b (b.length - 1)) % p)))]) x9 x10 (gets0 _ _ _) (by omega)
    obtain ⟨F', Q', y7, y8, y9, y10, e1, e2, hI, ih⟩ := ploop hp hb tb nb A P L k _ _ (some (.int (k : Int))) (some (.int (co F (k + b.length - 1) * inv p (co b (b.length - 1)) % p))) z9 z10 hd (by simp; omega) (by rw [inner_len]; omega)
    refine ⟨F', Q', y7, y8, y9, y10, by rw [e1, inner_len], by rw [e2]; simp, hI, ?_⟩
    rw [sets0, Nat.add_zero] at hin
    refine (for_go (d := .int (k : Int)) (ds := revF k) rfl (env1 := [some (.int p), A, some (PI b), some (.ref L.length), some (.int (inv p (co b (b.length - 1)))), P, some (.ref (L.length + 1)), some (.int (k : Int)), x8, x9, x10]) ?_).trans ih
    refine (seq_nx _ _ (env1 := [some (.int p), A, some (PI b), some (.ref L.length), some (.int (inv p (co b (b.length - 1)))), P, some (.ref (L.length + 1)), some (.int (k : Int)), some (.int (co F (k + b.length - 1) * inv p (co b (b.length - 1)) % p)), x9, x10]) (L1 := L ++ [.lst (LI F), .lst (LI Q)]) (set_ok ?_)).trans ?_
    · refine (d2_ok (a := .int (co F (k + b.length - 1) * inv p (co b (b.length - 1)))) (b := .int p) (L1 := L ++ [.lst (LI F), .lst (LI Q)]) (L2 := L ++ [.lst (LI F), .lst (LI Q)]) ?_ rfl).trans (k_mod _ _ (pr_pos hp))
      refine (d2_ok (a := .int (co F (k + b.length - 1))) (b := .int (inv p (co b (b.length - 1)))) (L1 := L ++ [.lst (LI F), .lst (LI Q)]) (L2 := L ++ [.lst (LI F), .lst (LI Q)]) ?_ rfl).trans (k_times _ _ (by have := red_small hp h.rf (k + b.length - 1); exact mulOk_sm this.1 this.2))
      refine (d2_ok (a := .ref L.length) (b := .int ((k + b.length - 1 : Nat) : Int)) (L1 := L ++ [.lst (LI F), .lst (LI Q)]) (L2 := L ++ [.lst (LI F), .lst (LI Q)]) rfl ?_).trans (seqD_ix (ref_seq (gets0 _ _ _)) _ (by omega))
      have he : ((k : Int) + ((LI b).length : Int)) - 1 = ((k + b.length - 1 : Nat) : Int) := by rw [List.length_map]; omega
      rw [← he]
      rfl
    refine (seq_nx _ _ (env1 := [some (.int p), A, some (PI b), some (.ref L.length), some (.int (inv p (co b (b.length - 1)))), P, some (.ref (L.length + 1)), some (.int (k : Int)), some (.int (co F (k + b.length - 1) * inv p (co b (b.length - 1)) % p)), x9, x10]) (L1 := L ++ [.lst (LI F), .lst (LI (Q.set k (co F (k + b.length - 1) * inv p (co b (b.length - 1)) % p)))]) (setIx_ok (a := .ref (L.length + 1)) (i := .int (k : Int)) (d := .int (co F (k + b.length - 1) * inv p (co b (b.length - 1)) % p)) rfl rfl rfl (by rw [set_ref (gets1 _ _ _) (by omega), sets1]))).trans ?_
    rw [ev_for]
    show R.toS (R.ok (enumD (LI b)) _) _ _ = _
    rw [toS_ok, enumD_F]
    exact hin
theorem rev_ok {f : DE} {env : DEnv} {L : LH} {n : Int} (h : f env L = .ok (.int n) L) (h0 : -1000 ≤ n) (h1 : n ≤ 1000) : DL.iRev f env L = .ok (revF n.toNat) L := by
  have hi : inR n = true := by
    have a1 : (-(2 ^ 62) : Int) ≤ n := by omega
    have a2 : n < (2 ^ 62 : Int) := by omega
    unfold inR; exact decide_eq_true (And.intro a1 a2)
  unfold DL.iRev
  rw [h]
  show (if inR n = true then R.ok (revD n) L else .no) = _
  rw [if_pos hi]
  congr 1
  rcases Int.lt_or_le n 0 with q | q
  · have : n.toNat = 0 := by omega
    rw [this]; unfold revD; rw [this]; rfl
  · rw [← revD_F]; congr 1; omega
theorem last_ok {f : DE} {env : DEnv} {L : LH} {b : List Int} (nb : b ≠ []) (h : f env L = .ok (PI b) L) : d2 kIx f (d1 kNeg (dC (.int 1))) env L = .ok (.int (co b (b.length - 1))) L := by
  refine (d2_ok (a := PI b) (b := .int (-1)) (L1 := L) (L2 := L) h rfl).trans ?_
  show orNo (atI (LI b) (-1)) L = _
  rw [atI_last b nb]; rfl
theorem parts_ok {p : Int} (hp : pr p) {a b : List Int} (ha : Red p a) (hb : Red p b) (tb : trim b = b) (nb : b ≠ []) (la : a.length ≤ 100) (lb : b.length ≤ 100) {L : LH} (hL : Low L) : ∃ q r, DivOk p a b q r ∧ m_parts_of_poly [.int p, PI a, PI b] L = .ok (.tup [PI q, PI r]) L := by
  have hl : b.length ≠ 0 := fun e => nb (List.length_eq_zero_iff.mp e)
  have hlp := last_pos hb tb nb
  have hk : (((a.length : Int) - b.length + 1).toNat = 0 ∧ a.length < b.length) ∨ (((a.length : Int) - b.length + 1).toNat + b.length = a.length + 1) := by omega
  have hI : DInv p a b ((a.length : Int) - b.length + 1).toNat a (List.replicate ((a.length : Int) - b.length + 1).toNat 0) := by
    refine ⟨ha, red_zero (pr_pos hp) _, fun i _ => co_rep0 _ _, fun i hi => co_ge (by omega), fun i => ?_⟩
    have : co (List.replicate ((a.length : Int) - b.length + 1).toNat 0) = fun _ => 0 := funext fun i => co_rep0 _ _
    rw [this, mu_zero, Int.zero_add]; exact cg_rfl
  obtain ⟨F, Q, y7, y8, y9, y10, e1, e2, hF, hloop⟩ := ploop hp hb tb nb (some (PI a)) (some (.int ((a.length : Int) - b.length + 1))) L _ a (List.replicate ((a.length : Int) - b.length + 1).toNat 0) none none none none hI (by simp) (by omega)
  refine ⟨trim Q, trim F, ⟨red_trim hF.rq, red_trim hF.rf, trim_trim _, trim_trim _, fun i => ?_, ?_⟩, ?_⟩
  · rw [co_trim, show co (trim Q) = co Q from funext (co_trim Q)]; exact hF.eq i
  · have := len_le (n := b.length - 1) (trim_trim F) (fun i hi => by rw [co_trim]; exact hF.f0 i (by omega))
    omega
  refine fnD_low (ex := [.lst (LI F), .lst (LI Q)]) (d := .tup [PI (trim Q), PI (trim F)]) ?_ (by simp) (frz_2 _ _ _ _) hL
  refine (seq_nx _ _ (env1 := [some (.int p), some (PI a), some (PI b), some (.ref L.length), none, none, none, none, none, none, none]) (L1 := L ++ [.lst (LI a)]) rfl).trans ?_
  refine (seq_nx _ _ (env1 := [some (.int p), some (PI a), some (PI b), some (.ref L.length), some (.int (inv p (co b (b.length - 1)))), none, none, none, none, none, none]) (L1 := L ++ [.lst (LI a)]) (set_ok ((call_ok (a := [.int p, .int (co b (b.length - 1))]) (L1 := L ++ [.lst (LI a)]) (ca_ok (L1 := L ++ [.lst (LI a)]) rfl (ca_ok (last_ok nb rfl) cn_ok)) rfl).trans (undone_ok hp hlp.1 hlp.2 _)))).trans ?_
  refine (seq_nx _ _ (env1 := [some (.int p), some (PI a), some (PI b), some (.ref L.length), some (.int (inv p (co b (b.length - 1)))), some (.int ((a.length : Int) - b.length + 1)), none, none, none, none, none]) (L1 := L ++ [.lst (LI a)]) (set_ok (d := .int ((a.length : Int) - b.length + 1)) ?_)).trans ?_
  · show R.ok (D.int (((LI a).length : Int) - ((LI b).length : Int) + 1)) _ = _
    rw [List.length_map, List.length_map]
  refine (seq_nx _ _ (env1 := [some (.int p), some (PI a), some (PI b), some (.ref L.length), some (.int (inv p (co b (b.length - 1)))), some (.int ((a.length : Int) - b.length + 1)), some (.ref (L.length + 1)), none, none, none, none]) (L1 := L ++ [.lst (LI a), .lst (LI (List.replicate ((a.length : Int) - b.length + 1).toNat 0))]) ?_).trans ?_
  · have := rep_new (f := dL DL.kLst (daCons (dC (.int 0)) daNil)) (g := dL (kI2 fun i j => if j > i then j else i) (daCons (dVar 5) (daCons (dC (.int 0)) daNil))) (env := [some (.int p), some (PI a), some (PI b), some (.ref L.length), some (.int (inv p (co b (b.length - 1)))), some (.int ((a.length : Int) - b.length + 1)), none, none, none, none, none]) (L := L ++ [.lst (LI a)]) (k := if (0 : Int) > (a.length : Int) - b.length + 1 then 0 else (a.length : Int) - b.length + 1) rfl rfl (by split <;> omega) (by split <;> omega)
    have e : (if (0 : Int) > (a.length : Int) - b.length + 1 then 0 else (a.length : Int) - b.length + 1).toNat = ((a.length : Int) - b.length + 1).toNat := by split <;> omega
    rw [e] at this
    unfold sNew
    rw [this]
    show SR.nx _ _ = _
    simp
  refine (seq_nx _ _ (by
    rw [ev_for, rev_ok (n := (a.length : Int) - b.length + 1) rfl (by omega) (by omega), toS_ok]
    exact hloop)).trans ?_
  refine ret_ok ((dL_ok (a := [PI (trim Q), PI (trim F)]) (L1 := L ++ [.lst (LI F), .lst (LI Q)]) (ca_ok (L1 := L ++ [.lst (LI F), .lst (LI Q)]) ?_ (ca_ok (L1 := L ++ [.lst (LI F), .lst (LI Q)]) ?_ cn_ok))).trans rfl)
  · exact (call_ok (a := [.ref (L.length + 1)]) rfl rfl).trans (trimmed_ok (ref_seq (gets1 _ _ _)) (by rw [e2]; simp; omega))
  · exact (call_ok (a := [.ref L.length]) rfl rfl).trans (trimmed_ok (ref_seq (gets0 _ _ _)) (by rw [e1]; omega))
end Law

set_option Elab.async false
set_option linter.all false
set_option maxRecDepth 100000
set_option maxHeartbeats 1000000
namespace Law
open PySem PySem.Spec L2 DL PM
variable [Tbs]
/-! equal and unlike -/
def Shp (d : D) : Prop := ∃ x, deep d = some x ∧ x.canLay0 = true ∧ x.depth ≤ 64
theorem deep_LI : ∀ l : List Int, deepAll (LI l) = some (l.map PyData.int)
  | [] => rfl
  | a :: l => by
    show deepAll (.int a :: LI l) = _
    unfold deepAll
    rw [deep_LI l]; rfl
theorem lay_LI : ∀ l : List Int, PyData.canLayAll0 (l.map PyData.int) = true
  | [] => rfl
  | a :: l => by
    show PyData.canLayAll0 (.int a :: l.map PyData.int) = true
    unfold PyData.canLayAll0
    rw [lay_LI l]; rfl
theorem dep_LI : ∀ l : List Int, PyData.depthAll (l.map PyData.int) = 0
  | [] => rfl
  | a :: l => by
    show PyData.depthAll (.int a :: l.map PyData.int) = 0
    unfold PyData.depthAll
    rw [dep_LI l]; rfl
theorem deep_PI (l : List Int) : deep (PI l) = some (.tuple (l.map PyData.int)) := by
  show (deepAll (LI l)).map PyData.tuple = _
  rw [deep_LI]; rfl
theorem lay_PI (l : List Int) : PyData.canLay0 (.tuple (l.map PyData.int)) = true := by
  unfold PyData.canLay0; exact lay_LI l
theorem dep_PI (l : List Int) : PyData.depth (.tuple (l.map PyData.int)) = 1 := by
  unfold PyData.depth; rw [dep_LI]
theorem shp_PI (l : List Int) : Shp (PI l) := ⟨_, deep_PI l, lay_PI l, by rw [dep_PI]; omega⟩
theorem shaped_of {x : PyData} (h : x.canLay0 = true) (k : x.depth ≤ 64) : SeqAt.shaped x = true := by
  unfold SeqAt.shaped; rw [h, decide_eq_true k]; rfl
theorem deepL_of {d : D} {x : PyData} (h : deep d = some x) (L : LH) : deepL L d = some x := by
  cases d <;> first | exact h | (simp [deep] at h)
theorem ne_same {d : D} (h : Shp d) (L : LH) : kNe d d L = .ok (.bl false) L := by
  obtain ⟨x, h1, h2, h3⟩ := h
  have : eqD L d d = some true := by
    unfold eqD
    rw [deepL_of h1]
    show (if SeqAt.shaped x && SeqAt.shaped x then some (PyData.eqv x x) else none) = _
    rw [shaped_of h2 h3, SeqAt.eqv_refl x h2]; rfl
  unfold kNe; rw [this]; rfl
theorem eq_same {d : D} (h : Shp d) (L : LH) : kEq d d L = .ok (.bl true) L := by
  obtain ⟨x, h1, h2, h3⟩ := h
  have : eqD L d d = some true := by
    unfold eqD
    rw [deepL_of h1]
    show (if SeqAt.shaped x && SeqAt.shaped x then some (PyData.eqv x x) else none) = _
    rw [shaped_of h2 h3, SeqAt.eqv_refl x h2]; rfl
  unfold kEq; rw [this]
theorem eqD_nil (l : List Int) (L : LH) : eqD L (PI l) (.tup []) = some l.isEmpty := by
  show eqD L (PI l) (PI []) = _
  unfold eqD
  rw [deepL_of (deep_PI l), deepL_of (deep_PI [])]
  show (if SeqAt.shaped (.tuple (l.map PyData.int)) && SeqAt.shaped (.tuple (([] : List Int).map PyData.int)) then some (PyData.eqv (.tuple (l.map PyData.int)) (.tuple (([] : List Int).map PyData.int))) else none) = _
  rw [shaped_of (lay_PI l) (by rw [dep_PI]; omega), shaped_of (lay_PI []) (by rw [dep_PI]; omega)]
  cases l <;> rfl
theorem ne_nil (l : List Int) (L : LH) : kNe (PI l) (.tup []) L = .ok (.bl (!l.isEmpty)) L := by unfold kNe; rw [eqD_nil]
theorem eq_nil (l : List Int) (L : LH) : kEq (PI l) (.tup []) L = .ok (.bl l.isEmpty) L := by unfold kEq; rw [eqD_nil]
theorem tru_PI (l : List Int) (L : LH) : truD L (PI l) = some (!l.isEmpty) := by
  show some (!(LI l).isEmpty) = _
  cases l <;> rfl
/-! the law's division -/
structure LInv (p : Int) (a b l Q : List Int) : Prop where
  rl : Red p l
  rq : Red p Q
  tl : trim l = l
  q0 : ∀ i, i + b.length ≤ l.length → co Q i = 0
  eq : ∀ i, cg p (co a i) (mu b (co Q) i + co l i)
theorem shift_co (n : Nat) (b : List Int) (i : Nat) : co (List.replicate n 0 ++ b) i = if i < n then 0 else co b (i - n) := by
  rw [co_app, co_rep0]; simp
theorem LInv.step {p : Int} (hp : pr p) {a b l Q : List Int} (hb : Red p b) (tb : trim b = b) (nb : b ≠ []) (h : LInv p a b l Q) (hl : b.length ≤ l.length) (hQ : l.length + 1 ≤ Q.length + b.length) :
    LInv p a b (plusP p (0 - co l (l.length - 1) * inv p (co b (b.length - 1)) % p) l (List.replicate (l.length - b.length) 0 ++ b)) (Q.set (l.length - b.length) (co l (l.length - 1) * inv p (co b (b.length - 1)) % p)) ∧ (plusP p (0 - co l (l.length - 1) * inv p (co b (b.length - 1)) % p) l (List.replicate (l.length - b.length) 0 ++ b)).length < l.length := by
  have hb0 : b.length ≠ 0 := fun e => nb (List.length_eq_zero_iff.mp e)
  have hp0 := pr_pos hp
  have hc : ∀ i, co (plusP p (0 - co l (l.length - 1) * inv p (co b (b.length - 1)) % p) l (List.replicate (l.length - b.length) 0 ++ b)) i = (co l i + -(co l (l.length - 1) * inv p (co b (b.length - 1)) % p) * (if i < l.length - b.length then 0 else co b (i - (l.length - b.length)))) % p := by
    intro i; rw [co_plusP, shift_co, Int.zero_sub]
  have hlen : (plusP p (0 - co l (l.length - 1) * inv p (co b (b.length - 1)) % p) l (List.replicate (l.length - b.length) 0 ++ b)).length ≤ l.length - 1 := by
    refine len_le (trim_trim _) (fun i hi => ?_)
    rw [hc, if_neg (by omega)]
    by_cases e : i = l.length - 1
    · subst e
      rw [show l.length - 1 - (l.length - b.length) = b.length - 1 by omega]
      have := cancel hp hb tb nb (co l (l.length - 1))
      unfold cg at this; rw [this]; simp
    · rw [co_ge (l := l) (i := i) (by omega), co_ge (l := b) (i := i - (l.length - b.length)) (by omega)]; simp
  refine ⟨⟨fun i => ?_, red_set hp0 h.rq _ _, trim_trim _, fun i hi => ?_, fun i => ?_⟩, by omega⟩
  · rw [hc]; exact ⟨Int.emod_nonneg _ (by omega), Int.emod_lt_of_pos _ hp0⟩
  · rw [co_set _ _ _ _ (by omega), if_neg (by omega)]; exact h.q0 i (by omega)
  · rw [mu_set _ _ _ _ (by omega) (h.q0 _ (by omega))]
    refine cg_trans (h.eq i) (cg_sym (cg_trans (cg_add cg_rfl (cg_trans (cg_of (hc i)) cg_mod)) (cg_of ?_)))
    split
    · simp
    · rw [Int.neg_mul]; omega
theorem lloop {p : Int} (hp : pr p) {a b : List Int} (hb : Red p b) (tb : trim b = b) (nb : b ≠ []) (lb : b.length ≤ 300) (A : Option D) (L : LH) : ∀ (fuel : Nat) (l Q : List Int) (x6 x7 : Option D), LInv p a b l Q → l.length + 1 ≤ Q.length + b.length → l.length ≤ 300 → l.length < fuel → ∃ l' Q' y6 y7, Q'.length = Q.length ∧ LInv p a b l' Q' ∧ l'.length < b.length ∧
    whileD (dB (d2 kGe (dL kLen (daCons (dVar 4) daNil)) (dL kLen (daCons (dVar 2) daNil)))) (sSeq (sPar 6 7 (daCons (d2 kSub (dL kLen (daCons (dVar 4) daNil)) (dL kLen (daCons (dVar 2) daNil))) (daCons (d2 kMod (d2 DL.kTimes (d2 kIx (dVar 4) (d1 kNeg (dC (.int 1)))) (dVar 3)) (dVar 0)) daNil))) (sSeq (sSetIx (dVar 5) (dVar 6) (dVar 7)) (sSet 4 (dCall 4 m_law_plus (daCons (dVar 0) (daCons (dVar 4) (daCons (d2 kPlus (d2 DL.kTimes (dL DL.kTup (daCons (dC (.int 0)) daNil)) (dVar 6)) (dL kTupleOf (daCons (dVar 2) daNil))) (daCons (d2 kSub (dC (.int 0)) (dVar 7)) daNil)))))))) fuel [some (.int p), A, some (PI b), some (.int (inv p (co b (b.length - 1)))), some (PI l), some (.ref L.length), x6, x7] (L ++ [.lst (LI Q)]) = .nx [some (.int p), A, some (PI b), some (.int (inv p (co b (b.length - 1)))), some (PI l'), some (.ref L.length), y6, y7] (L ++ [.lst (LI Q')])
  | 0, l, Q, x6, x7, _, _, _, hf => absurd hf (by omega)
  | f + 1, l, Q, x6, x7, h, hQ, hl, hf => by
    have ht : dB (d2 kGe (dL kLen (daCons (dVar 4) daNil)) (dL kLen (daCons (dVar 2) daNil))) [some (.int p), A, some (PI b), some (.int (inv p (co b (b.length - 1)))), some (PI l), some (.ref L.length), x6, x7] (L ++ [.lst (LI Q)]) = .ok (decide (b.length ≤ l.length)) (L ++ [.lst (LI Q)]) := by
      refine dB_b ?_
      show R.ok (D.bl (decide (((LI b).length : Int) ≤ ((LI l).length : Int)))) _ = _
      congr 2
      rw [List.length_map, List.length_map]
      exact decide_eq_decide.mpr (by omega)
    by_cases hge : b.length ≤ l.length
    · rw [decide_eq_true hge] at ht
      have hb0 : b.length ≠ 0 := fun e => nb (List.length_eq_zero_iff.mp e)
      have hst := h.step hp hb tb nb hge hQ
      have hm := mod_small hp (co l (l.length - 1) * inv p (co b (b.length - 1)))
      obtain ⟨l', Q', y6, y7, e1, e2, e3, ih⟩ := lloop hp hb tb nb lb A L f _ _ (some (.int ((l.length - b.length : Nat) : Int))) (some (.int (co l (l.length - 1) * inv p (co b (b.length - 1)) % p))) hst.1 (by have := hst.2; rw [List.length_set]; omega) (by have := hst.2; omega) (by have := hst.2; omega)
      refine ⟨l', Q', y6, y7, by rw [e1]; simp, e2, e3, ?_⟩
      refine (while_go ht ?_).trans ih
      have hat : (((LI l).length : Int) - ((LI b).length : Int)) = ((l.length - b.length : Nat) : Int) := by rw [List.length_map, List.length_map]; omega
      refine (seq_nx _ _ (env1 := [some (.int p), A, some (PI b), some (.int (inv p (co b (b.length - 1)))), some (PI l), some (.ref L.length), some (.int ((l.length - b.length : Nat) : Int)), some (.int (co l (l.length - 1) * inv p (co b (b.length - 1)) % p))]) (L1 := L ++ [.lst (LI Q)]) (par_ok (a := .int ((l.length - b.length : Nat) : Int)) (b := .int (co l (l.length - 1) * inv p (co b (b.length - 1)) % p)) (ca_ok (L1 := L ++ [.lst (LI Q)]) (by rw [← hat]; rfl) (ca_ok (L1 := L ++ [.lst (LI Q)]) ?_ cn_ok)))).trans ?_
      · refine (d2_ok (a := .int (co l (l.length - 1) * inv p (co b (b.length - 1)))) (b := .int p) (L1 := L ++ [.lst (LI Q)]) (L2 := L ++ [.lst (LI Q)]) ?_ rfl).trans (k_mod _ _ (pr_pos hp))
        refine (d2_ok (a := .int (co l (l.length - 1))) (b := .int (inv p (co b (b.length - 1)))) (L1 := L ++ [.lst (LI Q)]) (L2 := L ++ [.lst (LI Q)]) ?_ ?_).trans (k_times _ _ (by have := red_small hp h.rl (l.length - 1); exact mulOk_sm this.1 this.2))
        · exact last_ok (f := dVar 4) (b := l) (by intro e; rw [e] at hge; exact hb0 (Nat.le_zero.mp hge)) rfl
        · rfl
      refine (seq_nx _ _ (env1 := [some (.int p), A, some (PI b), some (.int (inv p (co b (b.length - 1)))), some (PI l), some (.ref L.length), some (.int ((l.length - b.length : Nat) : Int)), some (.int (co l (l.length - 1) * inv p (co b (b.length - 1)) % p))]) (L1 := L ++ [.lst (LI (Q.set (l.length - b.length) (co l (l.length - 1) * inv p (co b (b.length - 1)) % p)))]) (setIx_ok (a := .ref L.length) (i := .int ((l.length - b.length : Nat) : Int)) (d := .int (co l (l.length - 1) * inv p (co b (b.length - 1)) % p)) rfl rfl rfl (by rw [set_ref (get_app L _ []) (by omega)]; simp))).trans ?_
      refine set_ok ((call_ok (a := [.int p, PI l, PI (List.replicate (l.length - b.length) 0 ++ b), .int (0 - co l (l.length - 1) * inv p (co b (b.length - 1)) % p)]) (L1 := L ++ [.lst (LI (Q.set (l.length - b.length) (co l (l.length - 1) * inv p (co b (b.length - 1)) % p)))]) (ca_ok rfl (ca_ok rfl (ca_ok ?_ (ca_ok (L1 := L ++ [.lst (LI (Q.set (l.length - b.length) (co l (l.length - 1) * inv p (co b (b.length - 1)) % p)))]) rfl cn_ok)))) rfl).trans (lplus_ok (pr_pos hp) (by omega) (by omega) (by omega) (by simp; omega) _))
      refine (d2_ok (a := PI (List.replicate (l.length - b.length) 0)) (b := PI b) ?_ rfl).trans (k_plusT (by simp; omega) _)
      refine (d2_ok (a := .tup [.int 0]) (b := .int ((l.length - b.length : Nat) : Int)) rfl rfl).trans ?_
      rw [k_timesT 0 (by omega) (by omega), Int.toNat_natCast]
    · rw [decide_eq_false hge] at ht
      exact ⟨l, Q, x6, x7, rfl, h, by omega, while_end ht⟩
theorem ldiv_ok {p : Int} (hp : pr p) {a b : List Int} (ha : Red p a) (ta : trim a = a) (hb : Red p b) (tb : trim b = b) (nb : b ≠ []) (la : a.length ≤ 100) (lb : b.length ≤ 100) {L : LH} (hL : Low L) : ∃ q r, DivOk p a b q r ∧ m_law_divided [.int p, PI a, PI b] L = .ok (.tup [PI q, PI r]) L := by
  have hl : b.length ≠ 0 := fun e => nb (List.length_eq_zero_iff.mp e)
  have hlp := last_pos hb tb nb
  obtain ⟨M, hM⟩ : ∃ M : Nat, (M : Int) = if (a.length : Int) - b.length + 1 > 1 then (a.length : Int) - b.length + 1 else 1 := by
    by_cases e : (a.length : Int) - b.length + 1 > 1
    · exact ⟨a.length + 1 - b.length, by rw [if_pos e]; omega⟩
    · exact ⟨1, by rw [if_neg e]; rfl⟩
  have hM1 : a.length + 1 ≤ M + b.length ∧ M ≤ 101 := by split at hM <;> omega
  have hI : LInv p a b a (List.replicate M 0) := by
    refine ⟨ha, red_zero (pr_pos hp) _, ta, fun i _ => co_rep0 _ _, fun i => ?_⟩
    have : co (List.replicate M 0) = fun _ => 0 := funext fun i => co_rep0 _ _
    rw [this, mu_zero, Int.zero_add]; exact cg_rfl
  obtain ⟨r, Q, y6, y7, e2, hF, hlt, hloop⟩ := lloop hp hb tb nb (by omega) (some (PI a)) L 100000 a (List.replicate M 0) none none hI (by simp; omega) (by omega) (by omega)
  refine ⟨trim Q, r, ⟨red_trim hF.rq, hF.rl, trim_trim _, hF.tl, fun i => ?_, hlt⟩, ?_⟩
  · rw [show co (trim Q) = co Q from funext (co_trim Q)]; exact hF.eq i
  refine fnD_low (ex := [.lst (LI Q)]) (d := .tup [PI (trim Q), PI r]) ?_ (by simp) (frz_2 _ _ _ _) hL
  refine (seq_nx _ _ (env1 := [some (.int p), some (PI a), some (PI b), none, some (PI a), some (.ref L.length), none, none]) (L1 := L ++ [.lst (LI (List.replicate M 0))]) ?_).trans ?_
  · have := rep_new (f := dL DL.kLst (daCons (dC (.int 0)) daNil)) (g := dL (kI2 fun i j => if j > i then j else i) (daCons (dC (.int 1)) (daCons (d2 kPlus (d2 kSub (dL kLen (daCons (dVar 1) daNil)) (dL kLen (daCons (dVar 2) daNil))) (dC (.int 1))) daNil))) (env := [some (.int p), some (PI a), some (PI b), none, none, none, none, none]) (L := L) (k := (M : Int)) rfl (by
      rw [hM]
      show R.ok (D.int (if (((LI a).length : Int) - ((LI b).length : Int) + 1) > 1 then (((LI a).length : Int) - ((LI b).length : Int) + 1) else 1)) _ = _
      rw [List.length_map, List.length_map]) (by omega) (by omega)
    rw [Int.toNat_natCast] at this
    unfold sParF
    show R.toS (fRep _ _ [some (.int p), some (PI a), some (PI b), none, none, none, none, none] L) _ _ = _
    rw [this]; rfl
  refine (seq_nx _ _ (env1 := [some (.int p), some (PI a), some (PI b), some (.int (inv p (co b (b.length - 1)))), some (PI a), some (.ref L.length), none, none]) (L1 := L ++ [.lst (LI (List.replicate M 0))]) (set_ok ((call_ok (a := [.int p, .int (co b (b.length - 1))]) (L1 := L ++ [.lst (LI (List.replicate M 0))]) (ca_ok (L1 := L ++ [.lst (LI (List.replicate M 0))]) rfl (ca_ok (last_ok nb rfl) cn_ok)) rfl).trans (lundone_ok hp hlp.1 hlp.2 _)))).trans ?_
  refine (seq_nx _ _ hloop).trans ?_
  refine ret_ok ((dL_ok (a := [PI (trim Q), PI r]) (L1 := L ++ [.lst (LI Q)]) (ca_ok (L1 := L ++ [.lst (LI Q)]) ?_ (ca_ok (L1 := L ++ [.lst (LI Q)]) rfl cn_ok))).trans rfl)
  exact (call_ok (a := [.ref L.length]) rfl rfl).trans (ltrimmed_ok (ref_seq (get_app L _ [])) (by rw [e2]; simp; omega))
end Law

set_option Elab.async false
set_option linter.all false
set_option maxRecDepth 100000
set_option maxHeartbeats 1000000
namespace Law
open PySem PySem.Spec L2 DL PM
variable [Tbs]
theorem parts_both {p : Int} (hp : pr p) {a b : List Int} (ha : Red p a) (ta : trim a = a) (hb : Red p b) (tb : trim b = b) (nb : b ≠ []) (la : a.length ≤ 100) (lb : b.length ≤ 100) : ∃ q r, DivOk p a b q r ∧ ∀ L, Low L → m_parts_of_poly [.int p, PI a, PI b] L = .ok (.tup [PI q, PI r]) L ∧ m_law_divided [.int p, PI a, PI b] L = .ok (.tup [PI q, PI r]) L := by
  obtain ⟨q, r, h, _⟩ := parts_ok hp ha hb tb nb la lb (L := []) rfl
  refine ⟨q, r, h, fun L hL => ?_⟩
  obtain ⟨q1, r1, h1, e1⟩ := parts_ok hp ha hb tb nb la lb hL
  obtain ⟨q2, r2, h2, e2⟩ := ldiv_ok hp ha ta hb tb nb la lb hL
  obtain ⟨rfl, rfl⟩ := div_uniq hp hb tb nb h1 h
  obtain ⟨rfl, rfl⟩ := div_uniq hp hb tb nb h2 h1
  exact ⟨e1, e2⟩
theorem ix1_ok {f : DE} {env : DEnv} {L : LH} {x y : D} (h : f env L = .ok (.tup [x, y]) L) : d2 kIx f (dC (.int 1)) env L = .ok y L := (d2_ok h rfl).trans rfl
theorem ix0_ok {f : DE} {env : DEnv} {L : LH} {x y : D} (h : f env L = .ok (.tup [x, y]) L) : d2 kIx f (dC (.int 0)) env L = .ok x L := (d2_ok h rfl).trans rfl
theorem rest_ok {p : Int} {a b q r : List Int} {L : LH} (h : m_parts_of_poly [.int p, PI a, PI b] L = .ok (.tup [PI q, PI r]) L) : m_rest_of_poly [.int p, PI a, PI b] L = .ok (PI r) L :=
  fnD_rt (ret_ok (ix1_ok ((call_ok (a := [.int p, PI a, PI b]) (L1 := L) rfl rfl).trans h)))
theorem emp {l : List Int} (h : l ≠ []) : l.isEmpty = false := by
  cases l with
  | nil => exact absurd rfl h
  | cons a l => rfl
def monicP (p : Int) (l : List Int) : List Int := l.map fun a => inv p (co l (l.length - 1)) * a % p
theorem co_monic (p : Int) (l : List Int) (i : Nat) : co (monicP p l) i = inv p (co l (l.length - 1)) * co l i % p := by
  unfold monicP; rw [co_map (fun a => inv p (co l (l.length - 1)) * a % p) (by simp)]
theorem red_monic {p : Int} (hp : pr p) (l : List Int) : Red p (monicP p l) := fun i => by
  rw [co_monic]; have := mod_small hp (inv p (co l (l.length - 1)) * co l i); omega
theorem trim_monic {p : Int} (hp : pr p) {l : List Int} (h : Red p l) (t : trim l = l) : trim (monicP p l) = monicP p l := by
  by_cases e : l = []
  · subst e; rfl
  · obtain ⟨r, c, hc⟩ : ∃ r c, l = r ++ [c] := ⟨l.dropLast, l.getLast e, (List.dropLast_concat_getLast e).symm⟩
    have hl : co l (l.length - 1) = c := by subst hc; rw [co_app]; simp
    have hlp := last_pos h t e
    rw [hl] at hlp
    unfold monicP
    rw [hl, hc, List.map_append]
    refine trim_snoc _ ?_ _
    have := (inv_ok hp hlp.1 hlp.2).2.2
    rw [Int.mul_comm] at this
    unfold cg at this
    show inv p c * c % p ≠ 0
    rw [this]
    unfold pr at hp
    rcases hp with rfl | rfl | rfl | rfl <;> decide
theorem monic_ok {p : Int} (hp : pr p) {l : List Int} (h : Red p l) (t : trim l = l) (hl : l.length ≤ 1000) (L : LH) : m_made_monic [.int p, PI l] L = .ok (PI (monicP p l)) L := by
  refine fnD_rt ?_
  by_cases e : l = []
  · subst e; rfl
  · have hlp := last_pos h t e
    have hi := inv_ok hp hlp.1 hlp.2
    refine (seq_nx _ _ (env1 := [some (.int p), some (PI l)]) (L1 := L) (if_f ((not_b (truth_b (d := PI l) rfl (tru_PI l L))).trans (by rw [emp e]; rfl)))).trans ?_
    refine ret_ok ((call_ok (a := [.int p, .int (inv p (co l (l.length - 1))), PI l]) (L1 := L) (ca_ok (L1 := L) rfl (ca_ok (L1 := L) ?_ (ca_ok (L1 := L) rfl cn_ok))) rfl).trans (row_times_ok (pr_pos hp) (by omega) (by unfold pr at hp; omega) (by omega) L))
    exact (call_ok (a := [.int p, .int (co l (l.length - 1))]) (L1 := L) (ca_ok (L1 := L) rfl (ca_ok (last_ok e rfl) cn_ok)) rfl).trans (undone_ok hp hlp.1 hlp.2 L)
theorem euclid {p : Int} (hp : pr p) : ∀ (n : Nat) (a b : List Int), b.length ≤ n → Red p a → trim a = a → Red p b → trim b = b → a.length ≤ 100 → b.length ≤ 100 → ∃ g, Red p g ∧ trim g = g ∧ g.length ≤ 100 ∧ (∀ t, Mul p t a → Mul p t b → Mul p t g) ∧ ∀ L, Low L → ∀ fuel, b.length < fuel →
    whileD (dTruth (dVar 2)) (sPar 1 2 (daCons (dVar 2) (daCons (dCall 3 m_rest_of_poly (daCons (dVar 0) (daCons (dVar 1) (daCons (dVar 2) daNil)))) daNil))) fuel [some (.int p), some (PI a), some (PI b)] L = .nx [some (.int p), some (PI g), some (PI [])] L ∧
    whileD (dB (d2 kNe (dVar 2) (dL DL.kTup daNil))) (sPar 1 2 (daCons (dVar 2) (daCons (d2 kIx (dCall 3 m_law_divided (daCons (dVar 0) (daCons (dVar 1) (daCons (dVar 2) daNil)))) (dC (.int 1))) daNil))) fuel [some (.int p), some (PI a), some (PI b), none, none] L = .nx [some (.int p), some (PI g), some (PI []), none, none] L := by
  intro n
  induction n with
  | zero =>
    intro a b hn ha ta hb tb la lb
    obtain rfl : b = [] := List.length_eq_zero_iff.mp (by omega)
    refine ⟨a, ha, ta, la, fun t h _ => h, fun L hL fuel hf => ?_⟩
    cases fuel with
    | zero => exact absurd hf (by omega)
    | succ f => exact ⟨while_end (truth_b (d := PI []) rfl (tru_PI [] L)), while_end (dB_b ((d2_ok (a := PI []) (b := .tup []) (L1 := L) (L2 := L) rfl rfl).trans (ne_nil [] L)))⟩
  | succ n ih =>
    intro a b hn ha ta hb tb la lb
    by_cases e : b = []
    · subst e
      refine ⟨a, ha, ta, la, fun t h _ => h, fun L hL fuel hf => ?_⟩
      cases fuel with
      | zero => exact absurd hf (by omega)
      | succ f => exact ⟨while_end (truth_b (d := PI []) rfl (tru_PI [] L)), while_end (dB_b ((d2_ok (a := PI []) (b := .tup []) (L1 := L) (L2 := L) rfl rfl).trans (ne_nil [] L)))⟩
    · obtain ⟨q, r, hd, hx⟩ := parts_both hp ha ta hb tb e la lb
      have hlt := hd.lt
      obtain ⟨g, g1, g2, g3, g4, g5⟩ := ih b r (by omega) hb tb hd.rr hd.tr lb (by omega)
      refine ⟨g, g1, g2, g3, fun t h1 h2 => g4 t h2 (mul_rest h1 h2 hd.eq), fun L hL fuel hf => ?_⟩
      cases fuel with
      | zero => exact absurd hf (by omega)
      | succ f =>
        have hb' : (!b.isEmpty) = true := by rw [emp e]; rfl
        obtain ⟨x1, x2⟩ := hx L hL
        obtain ⟨w1, w2⟩ := g5 L hL f (by omega)
        refine ⟨(while_go (truth_b (d := PI b) (b := true) rfl (by rw [tru_PI, hb'])) (env2 := [some (.int p), some (PI b), some (PI r)]) (L2 := L) (par_ok (ca_ok (a := PI b) (L1 := L) rfl (ca_ok ((call_ok (a := [.int p, PI a, PI b]) (L1 := L) rfl rfl).trans (rest_ok x1)) cn_ok)))).trans w1, ?_⟩
        exact (while_go (dB_b (b := true) ((d2_ok (a := PI b) (b := .tup []) (L1 := L) (L2 := L) rfl rfl).trans (by rw [ne_nil, hb']))) (env2 := [some (.int p), some (PI b), some (PI r), none, none]) (L2 := L) (par_ok (ca_ok (a := PI b) (L1 := L) rfl (ca_ok (ix1_ok ((call_ok (a := [.int p, PI a, PI b]) (L1 := L) rfl rfl).trans x2)) cn_ok)))).trans w2
theorem shared_ok {p : Int} (hp : pr p) {a b : List Int} (ha : Red p a) (ta : trim a = a) (hb : Red p b) (tb : trim b = b) (la : a.length ≤ 100) (lb : b.length ≤ 100) : ∃ g, Red p g ∧ trim g = g ∧ g.length ≤ 100 ∧ (∀ t, Mul p t a → Mul p t b → Mul p t g) ∧ ∀ L, Low L → m_shared_poly [.int p, PI a, PI b] L = .ok (PI g) L ∧ m_law_shared [.int p, PI a, PI b] L = .ok (PI g) L := by
  obtain ⟨g, g1, g2, g3, g4, g5⟩ := euclid hp b.length a b (Nat.le_refl _) ha ta hb tb la lb
  refine ⟨monicP p g, red_monic hp g, trim_monic hp g1 g2, by simp [monicP]; omega, fun t h1 h2 => mul_scale (g4 t h1 h2) (c := inv p (co g (g.length - 1))) (fun i => by rw [co_monic]; exact cg_mod), fun L hL => ?_⟩
  obtain ⟨w1, w2⟩ := g5 L hL 100000 (by omega)
  refine ⟨fnD_rt ((seq_nx _ _ w1).trans (ret_ok ((call_ok (a := [.int p, PI g]) (L1 := L) rfl rfl).trans (monic_ok hp g1 g2 (by omega) L)))), fnD_rt ((seq_nx _ _ w2).trans ?_)⟩
  by_cases e : g = []
  · subst e
    rfl
  · have hlp := last_pos g1 g2 e
    have hi := inv_ok hp hlp.1 hlp.2
    have hg' : g.isEmpty = false := emp e
    refine (seq_nx _ _ (env1 := [some (.int p), some (PI g), some (PI []), none, none]) (L1 := L) (if_f (dB_b ((d2_ok (a := PI g) (b := .tup []) (L1 := L) (L2 := L) rfl rfl).trans (by rw [eq_nil, hg']))))).trans ?_
    refine (seq_nx _ _ (env1 := [some (.int p), some (PI g), some (PI []), some (.int (inv p (co g (g.length - 1)))), none]) (L1 := L) (set_ok ((call_ok (a := [.int p, .int (co g (g.length - 1))]) (L1 := L) (ca_ok (L1 := L) rfl (ca_ok (last_ok e rfl) cn_ok)) rfl).trans (lundone_ok hp hlp.1 hlp.2 L)))).trans ?_
    refine ret_ok ((dL_ok (a := [.lst (LI (monicP p g))]) (L1 := L) (ca_ok ?_ cn_ok)).trans rfl)
    refine dLc_ok (items := LI g) (L1 := L) rfl (by simp; omega) (lc_int g (fun a _ => ?_))
    refine (d2_ok (a := .int (inv p (co g (g.length - 1)) * a)) (b := .int p) (L1 := L) (L2 := L) ?_ rfl).trans (k_mod _ _ (pr_pos hp))
    exact (d2_ok (a := .int (inv p (co g (g.length - 1)))) (b := .int a) (L1 := L) (L2 := L) rfl rfl).trans (k_times _ _ (mulOk_sm (by omega) (by unfold pr at hp; omega)))
/-- what divides both divides what they share -/
theorem mul_div {p : Int} (hp : pr p) {t g q r : List Int} (ht : Red p t) (tt : trim t = t) (nt : t ≠ []) (hm : Mul p t g) (hd : DivOk p g t q r) : r = [] := by
  obtain ⟨f, N, fn, fe⟩ := hm
  have u := (uniq hp ht tt nt (a := g) (g1 := co q) (g2 := f) (r1 := r) (r2 := []) ⟨⟨q.length, fun i hi => co_ge hi⟩, hd.eq, fun i hi => co_ge (by have := hd.lt; omega)⟩ ⟨⟨N, fn⟩, fun i => by rw [co_nil, Int.add_zero]; exact fe i, fun i _ => co_nil i⟩).2
  refine trim_eq hd.tr rfl (red_eq hd.rr (red_zero (pr_pos hp) 0) u)
end Law

set_option Elab.async false
set_option linter.all false
set_option maxRecDepth 100000
set_option maxHeartbeats 1000000
namespace Law
open PySem PySem.Spec L2 DL PM
variable [Tbs]
/-! draws -/
def Tri (n : Nat) (L : LH) : Prop := Low L ∧ ∃ a b c : Int, L[n]? = some (.lst (LI [a, b, c]))
def Ev (n : Nat) (L L' : LH) : Prop := Tri n L' ∧ L'.length = L.length
theorem Ev.refl {n : Nat} {L : LH} (h : Tri n L) : Ev n L L := ⟨h, rfl⟩
theorem Ev.trans {n : Nat} {L L1 L2 : LH} (h : Ev n L L1) (k : Ev n L1 L2) : Ev n L L2 := ⟨k.1, k.2.trans h.2⟩
theorem low_set {L : LH} (h : Low L) {n : Nat} {x : LO} (hx : ∀ b, lowO b x = true) : Low (L.set n x) := by
  unfold Low at *
  rw [List.length_set, List.all_eq_true]
  intro y hy
  rcases List.mem_or_eq_of_mem_set hy with q | q
  · exact (List.all_eq_true.mp h) y q
  · rw [q]; exact hx _
theorem low_ints (l : List Int) (b : Nat) : lowO b (.lst (LI l)) = true := low_LI b l
theorem ev_set {L : LH} {n : Nat} (h : Tri n L) (a b c : Int) : Ev n L (L.set n (.lst (LI [a, b, c]))) := by
  obtain ⟨h1, x, y, z, h2⟩ := h
  exact ⟨⟨low_set h1 (low_ints _), a, b, c, set_get h2⟩, by simp⟩
theorem pot_ix {L : LH} {n : Nat} {l : List Int} (h : L[n]? = some (.lst (LI l))) (i : Nat) (hi : i < l.length) {f g : DE} {env : DEnv} (hf : f env L = .ok (.ref n) L) (hg : g env L = .ok (.int (i : Int)) L) : d2 kIx f g env L = .ok (.int (co l i)) L := (d2_ok hf hg).trans (seqD_ix (ref_seq h) i hi)
theorem k_divW (i j : Int) (h : 0 < j) (k : j ≤ 100000) (L : LH) : kDivW (.int i) (.int j) L = .ok (.int (i / j)) L := by
  have : j.natAbs.log2 < 9000 := by
    obtain ⟨n, rfl⟩ : ∃ n : Nat, j = (n : Int) := ⟨j.toNat, by omega⟩
    rw [Int.natAbs_natCast]
    have hn : n ≠ 0 := by omega
    exact Nat.lt_of_lt_of_le ((Nat.log2_lt hn).mpr (by show n < 2 ^ 17; omega)) (by omega)
  unfold kDivW k2I
  simp [h, this, orNo]
theorem big_mul {i j : Int} (h : 0 ≤ i) (k : i < 2305843009213693951) : mulOk i j = true := by
  unfold mulOk DL.small64
  have : decide (-(2 ^ 64) < i ∧ i < 2 ^ 64) = true := by simp; omega
  rw [this]; rfl
theorem int_of {f : DE} {env : DEnv} {L L1 : LH} {i : Int} (h : f env L = .ok (.int i) L1) : dL kIntOf (daCons f daNil) env L = .ok (.int i) L1 := (dL_ok (ca_ok h cn_ok)).trans rfl
theorem ladle_ok {n : Nat} {L : LH} (h : Tri n L) {t : Int} (t0 : 0 < t) (t1 : t ≤ 1000) : ∃ r L', m_law_ladle [.ref n, .int t] L = .ok (.int r) L' ∧ (0 ≤ r ∧ r < t) ∧ Ev n L L' := by
  obtain ⟨hL, a, b, c, hp⟩ := h
  have i0 : ∀ {x1 x2 x3 x4 : Option D} {L1 : LH} {a b c : Int}, L1[n]? = some (.lst (LI [a, b, c])) → d2 kIx (dVar 0) (dC (.int 0)) [some (.ref n), x1, x2, x3, x4] L1 = .ok (.int a) L1 := fun h => pot_ix h 0 (by simp) rfl rfl
  have i1 : ∀ {x1 x2 x3 x4 : Option D} {L1 : LH} {a b c : Int}, L1[n]? = some (.lst (LI [a, b, c])) → d2 kIx (dVar 0) (dC (.int 1)) [some (.ref n), x1, x2, x3, x4] L1 = .ok (.int b) L1 := fun h => pot_ix h 1 (by simp) rfl rfl
  have i2 : ∀ {x1 x2 x3 x4 : Option D} {L1 : LH} {a b c : Int}, L1[n]? = some (.lst (LI [a, b, c])) → d2 kIx (dVar 0) (dC (.int 2)) [some (.ref n), x1, x2, x3, x4] L1 = .ok (.int c) L1 := fun h => pot_ix h 2 (by simp) rfl rfl
  have ht : dB (d2 kGt (d2 kIx (dVar 0) (dC (.int 0))) (dC (.int 0))) (startD 5 [.ref n, .int t]) L = .ok (decide (0 < a)) L := dB_b ((d2_ok (a := .int a) (b := .int 0) (L1 := L) (L2 := L) (i0 hp) rfl).trans (k_gt _ _))
  by_cases ha : 0 < a
  · rw [decide_eq_true ha] at ht
    refine ⟨a % t, L.set n (.lst (LI [a / t, b, c])), ?_, ⟨Int.emod_nonneg _ (by omega), Int.emod_lt_of_pos _ t0⟩, ev_set ⟨hL, a, b, c, hp⟩ _ _ _⟩
    refine fnD_rtL (seq_rt _ _ ((if_t ht).trans ?_)) (by simp)
    refine (seq_nx _ _ (env1 := [some (.ref n), some (.int t), none, none, some (.int (a % t))]) (L1 := L) (set_ok ((d2_ok (a := .int a) (b := .int t) (L1 := L) (L2 := L) (int_of (i0 hp)) rfl).trans (k_mod _ _ t0)))).trans ?_
    refine (seq_nx _ _ (env1 := [some (.ref n), some (.int t), none, none, some (.int (a % t))]) (L1 := L.set n (.lst (LI [a / t, b, c]))) (setIx_ok (a := .ref n) (i := .int ((0 : Nat) : Int)) (d := .int (a / t)) ?_ rfl rfl (set_ref hp (by simp)))).trans rfl
    exact (d2_ok (a := .int a) (b := .int t) (L1 := L) (L2 := L) (i0 hp) rfl).trans (k_divW _ _ t0 (by omega) _)
  · rw [decide_eq_false ha] at ht
    have hp' : (L.set n (.lst (LI [a, b, c + 1])))[n]? = some (.lst (LI [a, b, c + 1])) := set_get hp
    refine ⟨(((b + 7368787 * (c + 1)) % 2305843009213693951 * ((b + 7368787 * (c + 1)) % 2305843009213693951) + 163 * (c + 1)) % 2305843009213693951 * 4256249 + (b + 7368787 * (c + 1)) % 2305843009213693951) / 65536 % t, L.set n (.lst (LI [a, b, c + 1])), ?_, ⟨Int.emod_nonneg _ (by omega), Int.emod_lt_of_pos _ t0⟩, ev_set ⟨hL, a, b, c, hp⟩ _ _ _⟩
    refine fnD_rtL ((seq_nx _ _ (if_f ht)).trans ?_) (by simp)
    refine (seq_nx _ _ (env1 := [some (.ref n), some (.int t), none, none, none]) (L1 := L.set n (.lst (LI [a, b, c + 1]))) (setIx_ok (a := .ref n) (i := .int ((2 : Nat) : Int)) (d := .int (c + 1)) ((d2_ok (a := .int c) (b := .int 1) (L1 := L) (L2 := L) (i2 hp) rfl).trans rfl) rfl rfl (set_ref hp (by simp)))).trans ?_
    generalize hL2 : L.set n (.lst (LI [a, b, c + 1])) = L2 at hp' ⊢
    have hone : d2 kMod (dL kIntOf (daCons (d2 kPlus (d2 kIx (dVar 0) (dC (.int 1))) (d2 DL.kTimes (dC (.int 7368787)) (d2 kIx (dVar 0) (dC (.int 2))))) daNil)) (dC (.int 2305843009213693951)) [some (.ref n), some (.int t), none, none, none] L2 = .ok (.int ((b + 7368787 * (c + 1)) % 2305843009213693951)) L2 := by
      refine (d2_ok (int_of ((d2_ok (i1 hp') ((d2_ok rfl (i2 hp')).trans (k_times _ _ (big_mul (by decide) (by decide))))).trans (k_plusI _ _))) rfl).trans (k_mod _ _ (by decide))
    refine (seq_nx _ _ (set_ok hone)).trans ?_
    have o0 : 0 ≤ (b + 7368787 * (c + 1)) % 2305843009213693951 := Int.emod_nonneg _ (by decide)
    have o1 : (b + 7368787 * (c + 1)) % 2305843009213693951 < 2305843009213693951 := Int.emod_lt_of_pos _ (by decide)
    generalize (b + 7368787 * (c + 1)) % 2305843009213693951 = one at o0 o1
    have w0 : 0 ≤ (one * one + 163 * (c + 1)) % 2305843009213693951 := Int.emod_nonneg _ (by decide)
    have w1 : (one * one + 163 * (c + 1)) % 2305843009213693951 < 2305843009213693951 := Int.emod_lt_of_pos _ (by decide)
    have htwo : d2 kPlus (d2 DL.kTimes (d2 kMod (dL kIntOf (daCons (d2 kPlus (d2 DL.kTimes (dVar 2) (dVar 2)) (d2 DL.kTimes (dC (.int 163)) (d2 kIx (dVar 0) (dC (.int 2))))) daNil)) (dC (.int 2305843009213693951))) (dC (.int 4256249))) (dVar 2) [some (.ref n), some (.int t), some (.int one), none, none] L2 = .ok (.int ((one * one + 163 * (c + 1)) % 2305843009213693951 * 4256249 + one)) L2 := by
      refine (d2_ok ((d2_ok ((d2_ok (int_of ((d2_ok ((d2_ok (L1 := L2) (L2 := L2) rfl rfl).trans (k_times one one (big_mul o0 o1))) ((d2_ok rfl (i2 hp')).trans (k_times _ _ (big_mul (by decide) (by decide))))).trans (k_plusI _ _))) rfl).trans (k_mod _ _ (by decide))) rfl).trans (k_times _ _ (big_mul w0 w1))) rfl).trans (k_plusI _ _)
    refine (seq_nx _ _ (set_ok htwo)).trans ?_
    refine ret_ok ((d2_ok (int_of ((d2_ok (L1 := L2) (L2 := L2) rfl rfl).trans (k_divW _ _ (by decide) (by decide) _))) rfl).trans (k_mod _ _ t0))
theorem ladle_call {n : Nat} {L : LH} (h : Tri n L) {t : Int} (t0 : 0 < t) (t1 : t ≤ 1000) {f g : DE} {env : DEnv} (hf : f env L = .ok (.ref n) L) (hg : g env L = .ok (.int t) L) : ∃ r L', dCall 2 m_law_ladle (daCons f (daCons g daNil)) env L = .ok (.int r) L' ∧ (0 ≤ r ∧ r < t) ∧ Ev n L L' := by
  obtain ⟨r, L', e, h1, h2⟩ := ladle_ok h t0 t1
  exact ⟨r, L', (call_ok (a := [.ref n, .int t]) (ca_ok hf (ca_ok hg cn_ok)) rfl).trans e, h1, h2⟩
theorem pick_ok {n : Nat} {L : LH} (h : Tri n L) {l : List Int} (l0 : l ≠ []) (l1 : l.length ≤ 1000) : ∃ i L', i < l.length ∧ m_law_pick [.ref n, .lst (LI l)] L = .ok (.int (co l i)) L' ∧ Ev n L L' := by
  have hl : l.length ≠ 0 := fun e => l0 (List.length_eq_zero_iff.mp e)
  obtain ⟨r, L', e, h1, h2⟩ := ladle_call h (t := (l.length : Int)) (by omega) (by omega) (f := dVar 0) (g := dL kLen (daCons (dVar 1) daNil)) (env := [some (.ref n), some (.lst (LI l))]) rfl (by show R.ok (D.int ((LI l).length : Int)) L = _; rw [List.length_map])
  obtain ⟨i, rfl⟩ : ∃ i : Nat, r = (i : Int) := ⟨r.toNat, by omega⟩
  refine ⟨i, L', by omega, fnD_rtL (ret_ok ((d2_ok (a := .lst (LI l)) (L1 := L) rfl e).trans (seqD_ix (seqL L' l) i (by omega)))) h2.2, h2⟩
theorem lc_draw {n : Nat} {p : Int} (p0 : 0 < p) (p1 : p ≤ 1000) (x2 x3 x4 : Option D) : ∀ (items : List D) (L : LH), Tri n L → ∃ ys L', lcD (gSet 4) [4] dYes (dCall 2 m_law_ladle (daCons (dVar 0) (daCons (dVar 1) daNil))) [some (.ref n), some (.int p), x2, x3, x4] items L = .ok (LI ys) L' ∧ ys.length = items.length ∧ (∀ y ∈ ys, 0 ≤ y ∧ y < p) ∧ Ev n L L'
  | [], L, h => ⟨[], L, rfl, rfl, (fun _ z => nomatch z), Ev.refl h⟩
  | d :: ds, L, h => by
    obtain ⟨r, L1, e, h1, h2⟩ := ladle_call h p0 p1 (f := dVar 0) (g := dVar 1) (env := [some (.ref n), some (.int p), x2, x3, some d]) rfl rfl
    obtain ⟨ys, L2, e2, k1, k2, k3⟩ := lc_draw p0 p1 x2 x3 x4 ds L1 h2.1
    exact ⟨r :: ys, L2, lc_cons (env1 := [some (.ref n), some (.int p), x2, x3, some d]) rfl rfl e e2, by simp [k1], (fun y hy => (List.mem_cons.mp hy).elim (fun q => q ▸ h1) (k2 y)), h2.trans k3⟩
theorem drawn_ok {n : Nat} {L : LH} (h : Tri n L) {p m : Int} (p0 : 0 < p) (p1 : p ≤ 1000) (m0 : 0 ≤ m) (m1 : m ≤ 100) : ∃ l L', m_law_drawn_poly [.ref n, .int p, .int m] L = .ok (PI l) L' ∧ Red p l ∧ trim l = l ∧ (l.length : Int) ≤ m + 1 ∧ Ev n L L' := by
  obtain ⟨r, L1, e, h1, h2⟩ := ladle_call h (t := m + 2) (by omega) (by omega) (f := dVar 0) (g := d2 kPlus (dVar 2) (dC (.int 2))) (env := [some (.ref n), some (.int p), some (.int m), none, none]) rfl rfl
  obtain ⟨k, rfl⟩ : ∃ k : Nat, r = (k : Int) := ⟨r.toNat, by omega⟩
  obtain ⟨ys, L2, e2, k1, k2, k3⟩ := lc_draw p0 p1 (some (.int m)) (some (.int (k : Int))) none (rangeD 0 k) L1 h2.1
  have hk : ys.length = k := by rw [k1]; simp [rangeD]
  have ht := trim_len ys
  refine ⟨trim ys, L2, fnD_rtL ((seq_nx _ _ (set_ok e)).trans (ret_ok ((call_ok (a := [.lst (LI ys)]) (L1 := L2) (ca_ok (dLc_ok (range1_ok rfl (by omega)) (by simp [rangeD]; omega) e2) cn_ok) rfl).trans (ltrimmed_ok (seqL L2 ys) (by omega))))) (h2.trans k3).2, red_trim (red_of_mem p0 k2), trim_trim _, by omega, h2.trans k3⟩
end Law

set_option Elab.async false
set_option linter.all false
set_option maxRecDepth 100000
set_option maxHeartbeats 1000000
namespace Law
open PySem PySem.Spec L2 DL PM
variable [Tbs]
/-! which values are polynomials -/
def Agree (p : Int) (d : D) : Prop := ∃ b, ∀ L, m_is_poly [.int p, d] L = .ok (.bl b) L ∧ m_law_is_due [.int p, d] L = .ok (.bl b) L
theorem is_integer_int (i : Int) (L : LH) : m_is_integer [.int i] L = .ok (.bl true) L := fnD_rt (by rfl)
theorem check_prime_ok {p : Int} (hp : pr p) (L : LH) : m_check_prime [.int p] L = .ok .non L := by
  refine fnD_nx (e := [some (.int p)]) ((if_f ((or_f (not_b (b := true) (truth_b (d := .bl true) ((call_ok (a := [.int p]) (L1 := L) rfl rfl).trans (is_integer_int p L)) rfl))).trans (dB_b ((d2_ok (a := .int p) (b := .tup [.int 2, .int 3, .int 5, .int 7]) (L1 := L) (L2 := L) rfl rfl).trans ?_)))).trans rfl)
  rcases hp with rfl | rfl | rfl | rfl <;> rfl
def inr (p x : Int) : Bool := decide (0 ≤ x) && decide (x < p)
theorem chain_ok {f g h : DE} {env : DEnv} {L : LH} {a b c : Int} (h1 : f env L = .ok (.int a) L) (h2 : g env L = .ok (.int b) L) (h3 : h env L = .ok (.int c) L) : dChain kLe kLt f g h env L = .ok (.bl (decide (a ≤ b) && decide (b < c))) L := by
  unfold dChain
  rw [h1, bind_ok, h2, bind_ok, k_le, bind_ok]
  by_cases e : a ≤ b
  · rw [decide_eq_true e]
    show R.bind (h env L) _ = _
    rw [h3]; rfl
  · rw [decide_eq_false e]; rfl
theorem de_and_t {f g : DE} {env : DEnv} {L L1 : LH} (h : f env L = .ok (.bl true) L1) : deAnd f g env L = g env L1 := by unfold deAnd; rw [h]; rfl
theorem de_and_f {f g : DE} {env : DEnv} {L L1 : LH} (h : f env L = .ok (.bl false) L1) : deAnd f g env L = .ok (.bl false) L1 := by unfold deAnd; rw [h]; rfl
theorem de_or_t {f g : DE} {env : DEnv} {L L1 : LH} (h : f env L = .ok (.bl true) L1) : deOr f g env L = .ok (.bl true) L1 := by unfold deOr; rw [h]; rfl
theorem de_or_f {f g : DE} {env : DEnv} {L L1 : LH} (h : f env L = .ok (.bl false) L1) : deOr f g env L = g env L1 := by unfold deOr; rw [h]; rfl
theorem blsD_map : ∀ bs : List Bool, blsD (bs.map D.bl) = some bs
  | [] => rfl
  | b :: bs => by
    show (blsD (bs.map D.bl)).map (b :: ·) = _
    rw [blsD_map bs]; rfl
/-- one place of a row -/
def cell (p : Int) : D → D
  | .int a => .bl (inr p a)
  | d => .bl false
abbrev cellT : DT := dOr (dNot (dTruth (dL kIsi (daCons (dVar 3) (daCons (dC (.obj (.ty "int"))) daNil))))) (dOr (dB (d2 kIsB (dVar 3) (dC (.bl true)))) (dOr (dB (d2 kIsB (dVar 3) (dC (.bl false)))) (dNot (dB (dChain kLe kLt (dC (.int 0)) (dVar 3) (dVar 0))))))
def Cellish (d : D) : Prop := (∃ a, d = .int a) ∨ (∃ x, d = .bl x) ∨ (∀ L, kIsi [d, .obj (.ty "int")] L = .ok (.bl false) L)
theorem cell_test {p : Int} {d : D} {b : Bool} (h : cell p d = .bl b) (hd : Cellish d) (x1 x2 : Option D) (L : LH) : cellT [some (.int p), x1, x2, some d] L = .ok (!b) L := by
  rcases hd with ⟨a, rfl⟩ | ⟨x, rfl⟩ | hk
  · have e : inr p a = b := D.bl.inj h
    subst e
    exact (or_f (not_b (b := true) (truth_b (d := .bl true) ((dL_ok (ca_ok (a := .int a) rfl (ca_ok (a := .obj (.ty "int")) rfl cn_ok))).trans (by rfl)) rfl))).trans ((or_f (dB_b ((d2_ok (a := .int a) (b := .bl true) (L1 := L) (L2 := L) rfl rfl).trans rfl))).trans ((or_f (dB_b ((d2_ok (a := .int a) (b := .bl false) (L1 := L) (L2 := L) rfl rfl).trans rfl))).trans (not_b (dB_b (chain_ok (a := 0) (b := a) (c := p) rfl rfl rfl)))))
  · have e : false = b := D.bl.inj h
    subst e
    refine (or_f (not_b (b := true) (truth_b (d := .bl true) ((dL_ok (ca_ok (a := .bl x) rfl (ca_ok (a := .obj (.ty "int")) rfl cn_ok))).trans (by rfl)) rfl))).trans ?_
    cases x with
    | true => exact or_t (dB_b ((d2_ok (a := .bl true) (b := .bl true) (L1 := L) (L2 := L) rfl rfl).trans rfl))
    | false => exact (or_f (dB_b ((d2_ok (a := .bl false) (b := .bl true) (L1 := L) (L2 := L) rfl rfl).trans rfl))).trans (or_t (dB_b ((d2_ok (a := .bl false) (b := .bl false) (L1 := L) (L2 := L) rfl rfl).trans rfl)))
  · have e : false = b := by
      cases d with
      | int a => have := hk []; rw [show kIsi [.int a, .obj (.ty "int")] [] = .ok (.bl true) [] from by rfl] at this; cases this
      | _ => exact D.bl.inj h
    subst e
    exact or_t (not_b (b := false) (truth_b (d := .bl false) ((dL_ok (ca_ok (a := d) rfl (ca_ok (a := .obj (.ty "int")) rfl cn_ok))).trans (hk L)) rfl))
theorem cells_loop {p : Int} (x1 x2 : Option D) (L : LH) : ∀ (ds : List D) (bs : List Bool) (x3 : Option D), ds.map (cell p) = bs.map D.bl → (∀ d ∈ ds, Cellish d) →
    (bs.all id = true ∧ ∃ y, forD (gSet 3) (sIf cellT (sRet (dC (.bl false))) sNext) ds [some (.int p), x1, x2, x3] L = .nx [some (.int p), x1, x2, y] L) ∨
    (bs.all id = false ∧ forD (gSet 3) (sIf cellT (sRet (dC (.bl false))) sNext) ds [some (.int p), x1, x2, x3] L = .rt (.bl false) L)
  | [], bs, x3, h, _ => by
    have : bs = [] := by cases bs with
      | nil => rfl
      | cons a b => cases h
    subst this
    exact .inl ⟨rfl, x3, rfl⟩
  | d :: ds, bs, x3, h, hd => by
    cases bs with
    | nil => cases h
    | cons b bs =>
      have h1 : cell p d = .bl b := (List.cons.inj h).1
      have h2 : ds.map (cell p) = bs.map D.bl := (List.cons.inj h).2
      have ht := cell_test h1 (hd d (by simp)) x1 x2 L
      cases b with
      | false =>
        refine .inr ⟨rfl, ?_⟩
        have hb : sIf cellT (sRet (dC (.bl false))) sNext [some (.int p), x1, x2, some d] L = .rt (.bl false) L := (if_t ht).trans rfl
        unfold forD
        rw [show gSet 3 d [some (.int p), x1, x2, x3] = some [some (.int p), x1, x2, some d] from rfl]
        simp only []
        rw [hb]
      | true =>
        have hg := for_go (k := gSet 3) (b := sIf cellT (sRet (dC (.bl false))) sNext) (d := d) (ds := ds) (env := [some (.int p), x1, x2, x3]) (env1 := [some (.int p), x1, x2, some d]) (env2 := [some (.int p), x1, x2, some d]) (L := L) (L2 := L) rfl ((if_f ht).trans rfl)
        rcases cells_loop x1 x2 L ds bs (some d) h2 fun x hx => hd x (by simp [hx]) with ⟨e, y, k⟩ | ⟨e, k⟩
        · exact .inl ⟨by simpa using e, y, hg.trans k⟩
        · exact .inr ⟨by simpa using e, hg.trans k⟩
theorem len_ok {f : DE} {env : DEnv} {L : LH} {ds : List D} (h : f env L = .ok (.tup ds) L) : dL kLen (daCons f daNil) env L = .ok (.int (ds.length : Int)) L := (dL_ok (ca_ok h cn_ok)).trans rfl
theorem isi_tup {f : DE} {env : DEnv} {L : LH} {ds : List D} (h : f env L = .ok (.tup ds) L) : dNot (dTruth (dL kIsi (daCons f (daCons (dC (.obj (.ty "tuple"))) daNil)))) env L = .ok false L :=
  not_b (b := true) (truth_b (d := .bl true) ((dL_ok (ca_ok h (ca_ok (a := .obj (.ty "tuple")) rfl cn_ok))).trans (by rfl)) rfl)
theorem kne_int (i j : Int) (L : LH) : kNe (.int i) (.int j) L = .ok (.bl (!(i == j))) L := by
  have h := eq_int (L := L) i j
  unfold kEq at h
  unfold kNe
  split at h
  · cases h; rfl
  · cases h
theorem is_row_ok {p : Int} {ds : List D} {bs : List Bool} (h : ds.map (cell p) = bs.map D.bl) (hd : ∀ d ∈ ds, Cellish d) (hl : ds.length ≤ 1000) (L : LH) : m_is_row [.int p, .int (ds.length : Int), .tup ds] L = .ok (.bl (bs.all id)) L := by
  refine fnD_rt ((seq_nx _ _ (env1 := [some (.int p), some (.int (ds.length : Int)), some (.tup ds), none]) (L1 := L) ((if_f ((or_f (isi_tup rfl)).trans (dB_b ((d2_ok (a := .int (ds.length : Int)) (b := .int (ds.length : Int)) (L1 := L) (L2 := L) (len_ok rfl) rfl).trans ((kne_int _ _ _).trans (by simp)))))).trans rfl)).trans ?_)
  rcases cells_loop (some (.int (ds.length : Int))) (some (.tup ds)) L ds bs none h hd with ⟨e, y, k⟩ | ⟨e, k⟩
  · rw [e]
    exact (seq_nx _ _ (env1 := [some (.int p), some (.int (ds.length : Int)), some (.tup ds), y]) (L1 := L) k).trans (ret_ok rfl)
  · rw [e]
    exact seq_rt _ _ k
theorem is_int_ix (l : List Int) : ∀ d ∈ LI l, Cellish d := fun d hd => by
  obtain ⟨a, _, rfl⟩ := List.mem_map.mp hd
  exact .inl ⟨a, rfl⟩
theorem gt_ok (n : Nat) (k : Int) (L : LH) : kGt (.int (n : Int)) (.int k) L = .ok (.bl (decide (k < n))) L := rfl
theorem some_poly_long {p : Int} {ds : List D} (h : 13 < ds.length) (L : LH) : m_is_some_poly [.int p, .tup ds, .int 12] L = .ok (.bl false) L := by
  refine fnD_rt (seq_rt _ _ ((if_t ((or_f (isi_tup rfl)).trans (dB_b ((d2_ok (a := .int (ds.length : Int)) (b := .int 13) (L1 := L) (L2 := L) (len_ok rfl) rfl).trans ?_)))).trans rfl))
  rw [gt_ok, decide_eq_true (by omega)]
theorem some_poly_short {p : Int} {ds : List D} (h : ds.length ≤ 13) {b : Bool} {L : LH} (hr : deAnd (dCall 3 m_is_row (daCons (dVar 0) (daCons (dL kLen (daCons (dVar 1) daNil)) (daCons (dVar 1) daNil)))) (deOr (d2 kEq (dVar 1) (dL DL.kTup daNil)) (d2 kNe (d2 kIx (dVar 1) (d1 kNeg (dC (.int 1)))) (dC (.int 0)))) [some (.int p), some (.tup ds), some (.int 12)] L = .ok (.bl b) L) : m_is_some_poly [.int p, .tup ds, .int 12] L = .ok (.bl b) L := by
  refine fnD_rt ((seq_nx _ _ (env1 := [some (.int p), some (.tup ds), some (.int 12)]) (L1 := L) (if_f ((or_f (isi_tup rfl)).trans (dB_b ((d2_ok (a := .int (ds.length : Int)) (b := .int 13) (L1 := L) (L2 := L) (len_ok rfl) rfl).trans ?_))))).trans (ret_ok hr))
  rw [gt_ok, decide_eq_false (by omega)]
theorem is_poly_ok {p : Int} (hp : pr p) {d : D} {b : Bool} {L : LH} (h : m_is_some_poly [.int p, d, .int 12] L = .ok (.bl b) L) : m_is_poly [.int p, d] L = .ok (.bl b) L := by
  refine fnD_rt ((seq_nx _ _ (env1 := [some (.int p), some d]) (L1 := L) (expr_ok ((call_ok (a := [.int p]) (L1 := L) rfl rfl).trans (check_prime_ok hp L)))).trans (ret_ok ((call_ok (a := [.int p, d, .int 12]) (L1 := L) rfl rfl).trans h)))
def lastOk (l : List Int) : Bool := l.isEmpty || !(co l (l.length - 1) == 0)
theorem last_de (l : List Int) {i : Nat} {env : DEnv} {L : LH} (h : dVar i env L = .ok (PI l) L) : deOr (d2 kEq (dVar i) (dL DL.kTup daNil)) (d2 kNe (d2 kIx (dVar i) (d1 kNeg (dC (.int 1)))) (dC (.int 0))) env L = .ok (.bl (lastOk l)) L := by
  have h1 : d2 kEq (dVar i) (dL DL.kTup daNil) env L = .ok (.bl l.isEmpty) L := (d2_ok (b := .tup []) (L2 := L) h rfl).trans (eq_nil l L)
  unfold lastOk
  by_cases e : l = []
  · subst e
    exact de_or_t h1
  · rw [emp e] at h1 ⊢
    refine (de_or_f h1).trans ((d2_ok (b := .int 0) (L2 := L) (last_ok e h) rfl).trans ?_)
    rw [kne_int]; rfl
theorem row_cells (p : Int) (l : List Int) : (LI l).map (cell p) = (l.map (inr p)).map D.bl := by
  simp [LI, List.map_map, Function.comp_def, cell]
def good (p : Int) (l : List Int) : Bool := l.all (inr p) && lastOk l
theorem some_poly_ints {p : Int} {l : List Int} (h : l.length ≤ 13) (L : LH) : m_is_some_poly [.int p, PI l, .int 12] L = .ok (.bl (good p l)) L := by
  refine some_poly_short (by simpa using h) ?_
  have hr : dCall 3 m_is_row (daCons (dVar 0) (daCons (dL kLen (daCons (dVar 1) daNil)) (daCons (dVar 1) daNil))) [some (.int p), some (PI l), some (.int 12)] L = .ok (.bl (l.all (inr p))) L := by
    refine (call_ok (a := [.int p, .int ((LI l).length : Int), PI l]) (L1 := L) (ca_ok (L1 := L) rfl (ca_ok (len_ok rfl) (ca_ok (L1 := L) rfl cn_ok))) rfl).trans ((is_row_ok (row_cells p l) (is_int_ix l) (by simp; omega) L).trans ?_)
    rw [List.all_map]; rfl
  unfold good
  cases hb : l.all (inr p) with
  | true => rw [hb] at hr; exact (de_and_t hr).trans (last_de l rfl)
  | false => rw [hb] at hr; exact de_and_f hr
/-! the law's word -/
theorem due_long {p : Int} {ds : List D} (h : 13 < ds.length) (L : LH) : m_law_is_due [.int p, .tup ds] L = .ok (.bl false) L := by
  refine fnD_rt (seq_rt _ _ ((if_t ((or_f (isi_tup rfl)).trans (dB_b ((d2_ok (a := .int (ds.length : Int)) (b := .int 13) (L1 := L) (L2 := L) (len_ok rfl) rfl).trans ?_)))).trans rfl))
  rw [gt_ok, decide_eq_true (by omega)]
theorem lc_none {k : DG} {vs : List Nat} {t : DT} {e : DE} {env : DEnv} {L : LH} : ∀ (items : List D), (∀ d ∈ items, ∃ env1, k d (wipeD env vs) = some env1 ∧ t env1 L = .ok false L) → lcD k vs t e env items L = .ok [] L
  | [], _ => rfl
  | d :: ds, h => by
    obtain ⟨env1, h1, h2⟩ := h d (by simp)
    exact lc_skip h1 h2 (lc_none ds (fun x hx => h x (by simp [hx])))
theorem not_int {f : DE} {env : DEnv} {L : LH} {a : Int} (h : f env L = .ok (.int a) L) : dOr (dNot (dTruth (dL kIsi (daCons f (daCons (dC (.obj (.ty "int"))) daNil))))) (dTruth (dL kIsi (daCons f (daCons (dC (.obj (.ty "bool"))) daNil)))) env L = .ok false L := by
  refine (or_f (not_b (b := true) (truth_b (d := .bl true) ((dL_ok (ca_ok h (ca_ok (a := .obj (.ty "int")) rfl cn_ok))).trans (by rfl)) rfl))).trans ?_
  exact truth_b (d := .bl false) ((dL_ok (ca_ok h (ca_ok (a := .obj (.ty "bool")) rfl cn_ok))).trans (by rfl)) rfl
theorem lc_filter {env : DEnv} {L : LH} {p : Int} {v : D} : ∀ (l : List Int), lcD (gSet 2) [2] (dNot (dB (dChain kLe kLt (dC (.int 0)) (dVar 2) (dVar 0)))) (dVar 2) [some (.int p), some v, none] (LI l) L = .ok (LI (l.filter fun a => !inr p a)) L
  | [] => rfl
  | a :: l => by
    have ih := lc_filter (env := env) (L := L) (p := p) (v := v) l
    have ht : dNot (dB (dChain kLe kLt (dC (.int 0)) (dVar 2) (dVar 0))) [some (.int p), some v, some (.int a)] L = .ok (!inr p a) L := not_b (dB_b (chain_ok rfl rfl rfl))
    cases hb : inr p a with
    | true => rw [hb] at ht; rw [List.filter_cons_of_neg (by simp [hb])]; exact lc_skip (d := .int a) (ds := LI l) rfl ht ih
    | false => rw [hb] at ht; rw [List.filter_cons_of_pos (by simp [hb])]; exact lc_cons (d := .int a) (ds := LI l) (L2 := L) rfl ht rfl ih
theorem deep_LL (l : List Int) : deep (.lst (LI l)) = some (.list (l.map PyData.int)) := by
  show (deepAll (LI l)).map PyData.list = _
  rw [deep_LI]; rfl
theorem lay_LL (l : List Int) : PyData.canLay0 (.list (l.map PyData.int)) = true := by
  unfold PyData.canLay0; exact lay_LI l
theorem dep_LL (l : List Int) : PyData.depth (.list (l.map PyData.int)) = 1 := by
  unfold PyData.depth; rw [dep_LI]
theorem eqL_nil (l : List Int) (L : LH) : kEq (.lst (LI l)) (.lst []) L = .ok (.bl l.isEmpty) L := by
  have : eqD L (.lst (LI l)) (.lst (LI [])) = some l.isEmpty := by
    unfold eqD
    rw [deepL_of (deep_LL l), deepL_of (deep_LL [])]
    show (if SeqAt.shaped (.list (l.map PyData.int)) && SeqAt.shaped (.list (([] : List Int).map PyData.int)) then some (PyData.eqv (.list (l.map PyData.int)) (.list (([] : List Int).map PyData.int))) else none) = _
    rw [shaped_of (lay_LL l) (by rw [dep_LL]; omega), shaped_of (lay_LL []) (by rw [dep_LL]; omega)]
    cases l <;> rfl
  unfold kEq
  show (match eqD L (.lst (LI l)) (.lst (LI [])) with | some r => R.ok (D.bl r) L | none => .no) = _
  rw [this]
theorem filter_empty (p : Int) (l : List Int) : (l.filter fun a => !inr p a).isEmpty = l.all (inr p) := by
  induction l with
  | nil => rfl
  | cons a l ih =>
    cases hb : inr p a with
    | true => rw [List.filter_cons_of_neg (by simp [hb]), List.all_cons, hb, ih]; rfl
    | false => rw [List.filter_cons_of_pos (by simp [hb]), List.all_cons, hb]; rfl
theorem due_ints {p : Int} {l : List Int} (h : l.length ≤ 13) (L : LH) : m_law_is_due [.int p, PI l] L = .ok (.bl (good p l)) L := by
  refine fnD_rt ((seq_nx _ _ (env1 := [some (.int p), some (PI l), none]) (L1 := L) (if_f ((or_f (isi_tup rfl)).trans (dB_b ((d2_ok (a := .int ((LI l).length : Int)) (b := .int 13) (L1 := L) (L2 := L) (len_ok rfl) rfl).trans ?_))))).trans ?_)
  · rw [gt_ok, decide_eq_false (by simp; omega)]
  refine (seq_nx _ _ (env1 := [some (.int p), some (PI l), none]) (L1 := L) (if_f (dB_b ((d2_ok (a := .lst []) (b := .lst []) (L1 := L) (L2 := L) (dLc_ok (items := LI l) (L1 := L) rfl (by simp; omega) (lc_none (LI l) (fun d hd => ?_))) rfl).trans (by rfl))))).trans ?_
  · obtain ⟨a, _, rfl⟩ := List.mem_map.mp hd
    exact ⟨[some (.int p), some (PI l), some (.int a)], rfl, not_int rfl⟩
  refine ret_ok ?_
  have h1 : d2 kEq (dLc (iVal (dVar 1)) (gSet 2) [2] (dNot (dB (dChain kLe kLt (dC (.int 0)) (dVar 2) (dVar 0)))) (dVar 2)) (dL kLst daNil) [some (.int p), some (PI l), none] L = .ok (.bl (l.all (inr p))) L := by
    refine (d2_ok (a := .lst (LI (l.filter fun a => !inr p a))) (b := .lst []) (L1 := L) (L2 := L) (dLc_ok (items := LI l) (L1 := L) rfl (by simp; omega) (lc_filter (env := []) l)) rfl).trans ?_
    rw [eqL_nil, filter_empty]
  unfold good
  cases hb : l.all (inr p) with
  | true => rw [hb] at h1; exact (de_and_t h1).trans (last_de l rfl)
  | false => rw [hb] at h1; exact de_and_f h1
theorem agree_ints {p : Int} (hp : pr p) (l : List Int) : Agree p (PI l) := by
  by_cases h : l.length ≤ 13
  · exact ⟨good p l, fun L => ⟨is_poly_ok hp (some_poly_ints h L), due_ints h L⟩⟩
  · exact ⟨false, fun L => ⟨is_poly_ok hp (some_poly_long (by simp; omega) L), due_long (by simp; omega) L⟩⟩
theorem agree_not {p : Int} (hp : pr p) {d : D} (h : ∀ L, kIsi [d, .obj (.ty "tuple")] L = .ok (.bl false) L) : Agree p d := by
  have hn : ∀ {f : DE} {env : DEnv} {L : LH}, f env L = .ok d L → dNot (dTruth (dL kIsi (daCons f (daCons (dC (.obj (.ty "tuple"))) daNil)))) env L = .ok true L := fun hf =>
    not_b (b := false) (truth_b (d := .bl false) ((dL_ok (ca_ok hf (ca_ok (a := .obj (.ty "tuple")) rfl cn_ok))).trans (h _)) rfl)
  exact ⟨false, fun L => ⟨is_poly_ok hp (fnD_rt (seq_rt _ _ ((if_t (or_t (hn rfl))).trans rfl))), fnD_rt (seq_rt _ _ ((if_t (or_t (hn rfl))).trans rfl))⟩⟩
theorem cells_bl {p : Int} {d0 : D} (h0 : cell p d0 = .bl false) (l : List Int) : (d0 :: LI l).map (cell p) = (false :: l.map (inr p)).map D.bl := by
  rw [List.map_cons, List.map_cons, h0, row_cells]
/-- a tuple that begins with what is no integer -/
theorem agree_head {p : Int} (hp : pr p) {d0 : D} (h0 : cell p d0 = .bl false) (hk : (∃ x, d0 = .bl x) ∨ (∀ L, kIsi [d0, .obj (.ty "int")] L = .ok (.bl false) L))
    (hd : ∀ L (f : DE) env, f env L = .ok d0 L → dOr (dNot (dTruth (dL kIsi (daCons f (daCons (dC (.obj (.ty "int"))) daNil))))) (dTruth (dL kIsi (daCons f (daCons (dC (.obj (.ty "bool"))) daNil)))) env L = .ok true L)
    (hq : ∀ L, kNe (.lst [d0]) (.lst []) L = .ok (.bl true) L) (l : List Int) : Agree p (.tup (d0 :: LI l)) := by
  by_cases h : (d0 :: LI l).length ≤ 13
  · refine ⟨false, fun L => ⟨is_poly_ok hp (some_poly_short h (de_and_f ((call_ok (a := [.int p, .int ((d0 :: LI l).length : Int), .tup (d0 :: LI l)]) (L1 := L) (ca_ok (L1 := L) rfl (ca_ok (len_ok rfl) (ca_ok (L1 := L) rfl cn_ok))) rfl).trans ((is_row_ok (cells_bl h0 l) (fun d hx => ?_) (by omega) L).trans rfl)))), fnD_rt ((seq_nx _ _ (env1 := [some (.int p), some (.tup (d0 :: LI l)), none]) (L1 := L) (if_f ((or_f (isi_tup rfl)).trans (dB_b ((d2_ok (a := .int ((d0 :: LI l).length : Int)) (b := .int 13) (L1 := L) (L2 := L) (len_ok rfl) rfl).trans ?_))))).trans ?_)⟩⟩
    · rcases List.mem_cons.mp hx with rfl | q
      · exact .inr hk
      · exact is_int_ix l d q
    · rw [gt_ok, decide_eq_false (by omega)]
    · refine seq_rt _ _ ((if_t (dB_b ((d2_ok (a := .lst [d0]) (b := .lst []) (L1 := L) (L2 := L) (dLc_ok (items := d0 :: LI l) (L1 := L) rfl (by omega) (lc_cons (env1 := [some (.int p), some (.tup (d0 :: LI l)), some d0]) (L1 := L) (L2 := L) rfl (hd L _ _ rfl) rfl (lc_none (LI l) (fun d hx => ?_)))) rfl).trans (hq L)))).trans rfl)
      obtain ⟨a, _, rfl⟩ := List.mem_map.mp hx
      exact ⟨[some (.int p), some (.tup (d0 :: LI l)), some (.int a)], rfl, not_int rfl⟩
  · exact ⟨false, fun L => ⟨is_poly_ok hp (some_poly_long (by omega) L), due_long (by omega) L⟩⟩
theorem agree_true {p : Int} (hp : pr p) (l : List Int) : Agree p (.tup (.bl true :: LI l)) :=
  agree_head hp rfl (.inl ⟨_, rfl⟩) (fun L f env hf => (or_f (not_b (b := true) (truth_b (d := .bl true) ((dL_ok (ca_ok hf (ca_ok (a := .obj (.ty "int")) rfl cn_ok))).trans (by rfl)) rfl))).trans (truth_b (d := .bl true) ((dL_ok (ca_ok hf (ca_ok (a := .obj (.ty "bool")) rfl cn_ok))).trans (by rfl)) rfl)) (fun L => by rfl) l
theorem agree_tt {p : Int} (hp : pr p) : Agree p (.tup [.tup [.int 1]]) :=
  agree_head hp rfl (.inr fun L => by rfl) (fun L f env hf => or_t (not_b (b := false) (truth_b (d := .bl false) ((dL_ok (ca_ok hf (ca_ok (a := .obj (.ty "int")) rfl cn_ok))).trans (by rfl)) rfl))) (fun L => by rfl) []
theorem kne_str (L : LH) : kNe (.lst [.str "1"]) (.lst []) L = .ok (.bl true) L := by
  have : eqD L (.lst [.str "1"]) (.lst []) = some false := by
    show (if SeqAt.shaped (.list [.str "1"]) && SeqAt.shaped (.list []) then some (PyData.eqv (.list [.str "1"]) (.list [])) else none) = _
    rw [show SeqAt.shaped (.list [.str "1"]) = true from by decide +kernel, show SeqAt.shaped (.list []) = true from by decide +kernel, show PyData.eqv (.list [.str "1"]) (.list []) = false from by decide +kernel]; rfl
  unfold kNe; rw [this]; rfl
theorem agree_ts {p : Int} (hp : pr p) : Agree p (.tup [.str "1"]) :=
  agree_head hp rfl (.inr fun L => by rfl) (fun L f env hf => or_t (not_b (b := false) (truth_b (d := .bl false) ((dL_ok (ca_ok hf (ca_ok (a := .obj (.ty "int")) rfl cn_ok))).trans (by rfl)) rfl))) (fun L => kne_str L) []
theorem agree_1n {p : Int} (hp : pr p) : Agree p (.tup [.int 1, .non]) := by
  refine ⟨false, fun L => ⟨is_poly_ok hp (some_poly_short (by decide) (de_and_f ((call_ok (a := [.int p, .int (([.int 1, .non] : List D).length : Int), .tup [.int 1, .non]]) (L1 := L) (ca_ok (L1 := L) rfl (ca_ok (len_ok rfl) (ca_ok (L1 := L) rfl cn_ok))) rfl).trans ((is_row_ok (bs := [inr p 1, false]) rfl (fun d hx => ?_) (by decide) L).trans (by simp))))), fnD_rt ((seq_nx _ _ (env1 := [some (.int p), some (.tup [.int 1, .non]), none]) (L1 := L) (if_f ((or_f (isi_tup rfl)).trans rfl))).trans ?_)⟩⟩
  · rcases List.mem_cons.mp hx with rfl | q
    · exact .inl ⟨1, rfl⟩
    · rcases List.mem_cons.mp q with rfl | q
      · exact .inr (.inr fun L => by rfl)
      · cases q
  · refine seq_rt _ _ ((if_t (dB_b ((d2_ok (a := .lst [.non]) (b := .lst []) (L1 := L) (L2 := L) (dLc_ok (items := [.int 1, .non]) (L1 := L) rfl (by decide) (lc_skip (env1 := [some (.int p), some (.tup [.int 1, .non]), some (.int 1)]) (L1 := L) rfl (not_int rfl) (lc_cons (env1 := [some (.int p), some (.tup [.int 1, .non]), some .non]) (L1 := L) (L2 := L) (L3 := L) rfl (or_t (not_b (b := false) (truth_b (d := .bl false) (L1 := L) (by rfl) rfl))) rfl rfl))) rfl).trans (by rfl)))).trans rfl)
end Law

set_option Elab.async false
set_option linter.all false
set_option maxRecDepth 100000
set_option maxHeartbeats 1000000
namespace Law
open PySem PySem.Spec L2 DL PM
variable [Tbs]
/-! values near a polynomial -/
theorem k_plusLD {a b : List D} (h : a.length + b.length ≤ 1000) (L : LH) : kPlus (.lst a) (.lst b) L = .ok (.lst (a ++ b)) L := by
  show plusSeq L (.lst a) (.lst b) = _
  unfold plusSeq
  simp only [tupD, lstD]
  rw [if_pos (fits_le (m := 1000) (by omega) h)]
theorem k_plusTD {a b : List D} (h : a.length + b.length ≤ 1000) (L : LH) : kPlus (.tup a) (.tup b) L = .ok (.tup (a ++ b)) L := by
  show plusSeq L (.tup a) (.tup b) = _
  unfold plusSeq
  simp only [tupD]
  rw [if_pos (fits_le (m := 1000) (by omega) h)]
theorem cut_LI (l : List Int) (lo hi : Option Int) : ∃ l', cutD (LI l) lo hi = LI l' ∧ ∀ x ∈ l', x ∈ l := by
  unfold cutD
  refine ⟨(l.drop (HT.sIx (LI l).length 0 lo)).take (HT.sIx (LI l).length (LI l).length hi - HT.sIx (LI l).length 0 lo), ?_, fun x hx => List.mem_of_mem_drop (List.mem_of_mem_take hx)⟩
  simp only [LI, List.map_take, List.map_drop]
theorem cut_5 (l : List Int) : ∃ l', cutD (LI l) none (some 5) = LI l' ∧ l'.length ≤ 5 ∧ ∀ x ∈ l', x ∈ l := by
  have h1 : HT.sIx (LI l).length 0 none = 0 := rfl
  have h2 : HT.sIx (LI l).length (LI l).length (some 5) = min 5 l.length := by
    have hl : (LI l).length = l.length := by simp
    rw [hl]; unfold HT.sIx; simp only []; split <;> omega
  refine ⟨l.take (min 5 l.length), ?_, by simp; omega, fun x hx => List.mem_of_mem_take hx⟩
  unfold cutD
  rw [h1, h2]
  simp [LI, List.map_take]
theorem plus1 {p : Int} {l r : List Int} (h : l.length ≤ 100) (h2 : r.length ≤ 100) {f g : DE} {env : DEnv} {L : LH} (hf : f env L = .ok (PI l) L) (hg : g env L = .ok (PI r) L) : d2 kPlus f g env L = .ok (PI (l ++ r)) L := (d2_ok hf hg).trans (k_plusT (by omega) L)
theorem rep1 (c k : Int) (h : -100000 ≤ k) (k' : k ≤ 100000) {env : DEnv} {L : LH} : d2 DL.kTimes (dL DL.kTup (daCons (dC (.int c)) daNil)) (dC (.int k)) env L = .ok (PI (List.replicate k.toNat c)) L := (d2_ok (a := .tup [.int c]) (b := .int k) (L1 := L) (L2 := L) rfl rfl).trans (k_timesT c h k' L)
theorem near_ok {p : Int} (hp : pr p) {n : Nat} {L : LH} (h : Tri n L) {l : List Int} (hl : l.length ≤ 13) : ∃ items L', m_law_near [.ref n, .int p, PI l] L = .ok (.lst items) L' ∧ items.length ≤ 1000 ∧ (∀ d ∈ items, Agree p d) ∧ Ev n L L' := by
  obtain ⟨l1, c1, _⟩ := cut_LI l none (some (-1))
  obtain ⟨l2, c2, _⟩ := cut_LI l (some 1) none
  obtain ⟨r1, L1, e1, _, v1⟩ := ladle_call h (t := 9) (by decide) (by decide) (f := dVar 0) (g := dC (.int 9)) (env := [some (.ref n), some (.int p), some (PI l), some (.lst (((([PI l, .lst (LI l), PI (l ++ [0]), PI (l ++ [1]), PI (l ++ [p]), PI (l ++ [-1]), .tup (.bl true :: LI l), .non] : List D) ++ [.int 0, .str "1", .dic [], PI [0], PI (List.replicate 13 1), PI (List.replicate 14 1), PI (List.replicate 12 0 ++ [1]), PI (List.replicate 13 0 ++ [1])]) ++ [PI [10 ^ 60 + 1], .tup [.tup [.int 1]], .tup [.str "1"]]) ++ [PI l1, PI l2, PI [p - 1], PI [p + 1], .tup [.int 1, .non]]))]) rfl rfl
  obtain ⟨r2, L2, e2, _, v2⟩ := ladle_call v1.1 (t := 9) (by decide) (by decide) (f := dVar 0) (g := dC (.int 9)) (env := [some (.ref n), some (.int p), some (PI l), some (.lst (((([PI l, .lst (LI l), PI (l ++ [0]), PI (l ++ [1]), PI (l ++ [p]), PI (l ++ [-1]), .tup (.bl true :: LI l), .non] : List D) ++ [.int 0, .str "1", .dic [], PI [0], PI (List.replicate 13 1), PI (List.replicate 14 1), PI (List.replicate 12 0 ++ [1]), PI (List.replicate 13 0 ++ [1])]) ++ [PI [10 ^ 60 + 1], .tup [.tup [.int 1]], .tup [.str "1"]]) ++ [PI l1, PI l2, PI [p - 1], PI [p + 1], .tup [.int 1, .non]]))]) rfl rfl
  refine ⟨((((([PI l, .lst (LI l), PI (l ++ [0]), PI (l ++ [1]), PI (l ++ [p]), PI (l ++ [-1]), .tup (.bl true :: LI l), .non] : List D) ++ [.int 0, .str "1", .dic [], PI [0], PI (List.replicate 13 1), PI (List.replicate 14 1), PI (List.replicate 12 0 ++ [1]), PI (List.replicate 13 0 ++ [1])]) ++ [PI [10 ^ 60 + 1], .tup [.tup [.int 1]], .tup [.str "1"]]) ++ [PI l1, PI l2, PI [p - 1], PI [p + 1], .tup [.int 1, .non]]) ++ [PI [r1, r2]]), L2, ?_, by simp, ?_, v1.trans v2⟩
  · refine fnD_rtL ?_ (v1.trans v2).2
    refine (seq_nx _ _ (env1 := [some (.ref n), some (.int p), some (PI l), some (.lst [PI l, .lst (LI l), PI (l ++ [0]), PI (l ++ [1]), PI (l ++ [p]), PI (l ++ [-1]), .tup (.bl true :: LI l), .non])]) (L1 := L) (set_ok ((dL_ok (a := [PI l, .lst (LI l), PI (l ++ [0]), PI (l ++ [1]), PI (l ++ [p]), PI (l ++ [-1]), .tup (.bl true :: LI l), .non]) (L1 := L)
      (ca_ok (L1 := L) rfl (ca_ok (L1 := L) rfl (ca_ok (plus1 (p := p) (r := [0]) (by omega) (by simp) rfl rfl) (ca_ok (plus1 (p := p) (r := [1]) (by omega) (by simp) rfl rfl) (ca_ok (plus1 (p := p) (r := [p]) (by omega) (by simp) rfl rfl) (ca_ok (plus1 (p := p) (r := [-1]) (by omega) (by simp) rfl rfl) (ca_ok ((d2_ok (a := .tup [.bl true]) (b := PI l) (L1 := L) (L2 := L) rfl rfl).trans (k_plusTD (by simp; omega) L)) (ca_ok (L1 := L) rfl cn_ok))))))))).trans rfl))).trans ?_
    refine (seq_nx _ _ (env1 := [some (.ref n), some (.int p), some (PI l), some (.lst (([PI l, .lst (LI l), PI (l ++ [0]), PI (l ++ [1]), PI (l ++ [p]), PI (l ++ [-1]), .tup (.bl true :: LI l), .non] : List D) ++ [.int 0, .str "1", .dic [], PI [0], PI (List.replicate 13 1), PI (List.replicate 14 1), PI (List.replicate 12 0 ++ [1]), PI (List.replicate 13 0 ++ [1])]))]) (L1 := L) (set_ok ((d2_ok (L1 := L) (L2 := L) (b := .lst [.int 0, .str "1", .dic [], PI [0], PI (List.replicate 13 1), PI (List.replicate 14 1), PI (List.replicate 12 0 ++ [1]), PI (List.replicate 13 0 ++ [1])]) rfl ((dL_ok (a := [.int 0, .str "1", .dic [], PI [0], PI (List.replicate 13 1), PI (List.replicate 14 1), PI (List.replicate 12 0 ++ [1]), PI (List.replicate 13 0 ++ [1])]) (L1 := L)
      (ca_ok (L1 := L) rfl (ca_ok (L1 := L) rfl (ca_ok (L1 := L) rfl (ca_ok (L1 := L) rfl (ca_ok (rep1 1 13 (by decide) (by decide)) (ca_ok (rep1 1 14 (by decide) (by decide)) (ca_ok (plus1 (p := p) (r := [1]) (by simp) (by simp) (rep1 0 12 (by decide) (by decide)) rfl) (ca_ok (plus1 (p := p) (r := [1]) (by simp) (by simp) (rep1 0 13 (by decide) (by decide)) rfl) cn_ok))))))))).trans rfl)).trans (k_plusLD (by simp) L)))).trans ?_
    refine (seq_nx _ _ (env1 := [some (.ref n), some (.int p), some (PI l), some (.lst ((([PI l, .lst (LI l), PI (l ++ [0]), PI (l ++ [1]), PI (l ++ [p]), PI (l ++ [-1]), .tup (.bl true :: LI l), .non] : List D) ++ [.int 0, .str "1", .dic [], PI [0], PI (List.replicate 13 1), PI (List.replicate 14 1), PI (List.replicate 12 0 ++ [1]), PI (List.replicate 13 0 ++ [1])]) ++ [PI [10 ^ 60 + 1], .tup [.tup [.int 1]], .tup [.str "1"]]))]) (L1 := L) (set_ok ((d2_ok (L1 := L) (L2 := L) (b := .lst [PI [10 ^ 60 + 1], .tup [.tup [.int 1]], .tup [.str "1"]]) rfl ((dL_ok (a := [PI [10 ^ 60 + 1], .tup [.tup [.int 1]], .tup [.str "1"]]) (L1 := L)
      (ca_ok (L1 := L) ((dL_ok (a := [.int (10 ^ 60 + 1)]) (L1 := L) (ca_ok ((d2_ok (a := .int (10 ^ 60)) (b := .int 1) (L1 := L) (L2 := L) ((d2_ok (a := .int 10) (b := .int 60) (L1 := L) (L2 := L) rfl rfl).trans (by unfold kPow k2I; simp only []; rw [if_pos (by decide)]; rfl)) rfl).trans (k_plusI _ _)) cn_ok)).trans rfl) (ca_ok (L1 := L) rfl (ca_ok (L1 := L) rfl cn_ok)))).trans rfl)).trans (k_plusLD (by simp) L)))).trans ?_
    refine (seq_nx _ _ (env1 := [some (.ref n), some (.int p), some (PI l), some (.lst (((([PI l, .lst (LI l), PI (l ++ [0]), PI (l ++ [1]), PI (l ++ [p]), PI (l ++ [-1]), .tup (.bl true :: LI l), .non] : List D) ++ [.int 0, .str "1", .dic [], PI [0], PI (List.replicate 13 1), PI (List.replicate 14 1), PI (List.replicate 12 0 ++ [1]), PI (List.replicate 13 0 ++ [1])]) ++ [PI [10 ^ 60 + 1], .tup [.tup [.int 1]], .tup [.str "1"]]) ++ [PI l1, PI l2, PI [p - 1], PI [p + 1], .tup [.int 1, .non]]))]) (L1 := L) (set_ok ((d2_ok (L1 := L) (L2 := L) (b := .lst [PI l1, PI l2, PI [p - 1], PI [p + 1], .tup [.int 1, .non]]) rfl ((dL_ok (a := [PI l1, PI l2, PI [p - 1], PI [p + 1], .tup [.int 1, .non]]) (L1 := L)
      (ca_ok (L1 := L) ((slice_ok (a := PI l) (lo := none) (hi := some (-1)) rfl rfl rfl).trans (by show R.ok (D.tup (cutD (LI l) none (some (-1)))) L = _; rw [c1])) (ca_ok (L1 := L) ((slice_ok (a := PI l) (lo := some 1) (hi := none) rfl rfl rfl).trans (by show R.ok (D.tup (cutD (LI l) (some 1) none)) L = _; rw [c2])) (ca_ok (L1 := L) rfl (ca_ok (L1 := L) rfl (ca_ok (L1 := L) rfl cn_ok)))))).trans rfl)).trans (k_plusLD (by simp) L)))).trans ?_
    refine ret_ok ((d2_ok (L1 := L) (L2 := L2) (b := .lst [PI [r1, r2]]) rfl ((dL_ok (a := [PI [r1, r2]]) (L1 := L2) (ca_ok ((dL_ok (a := [.int r1, .int r2]) (L1 := L2) (ca_ok e1 (ca_ok e2 cn_ok))).trans rfl) cn_ok)).trans rfl)).trans (k_plusLD (by simp) L2))
  · simp only [List.forall_mem_append, List.forall_mem_cons]
    refine ⟨⟨⟨⟨⟨agree_ints hp _, agree_not hp (fun L => by rfl), agree_ints hp _, agree_ints hp _, agree_ints hp _, agree_ints hp _, agree_true hp _, agree_not hp (fun L => by rfl), fun _ z => nomatch z⟩, agree_not hp (fun L => by rfl), agree_not hp (fun L => by rfl), agree_not hp (fun L => by rfl), agree_ints hp [0], agree_ints hp _, agree_ints hp _, agree_ints hp _, agree_ints hp _, fun _ z => nomatch z⟩, agree_ints hp [10 ^ 60 + 1], agree_tt hp, agree_ts hp, fun _ z => nomatch z⟩, agree_ints hp _, agree_ints hp _, agree_ints hp [p - 1], agree_ints hp [p + 1], agree_1n hp, fun _ z => nomatch z⟩, agree_ints hp [r1, r2], fun _ z => nomatch z⟩
/-! the functions that are passed polynomials -/
structure Pol (p : Int) (l : List Int) : Prop where
  r : Red p l
  t : trim l = l
  n : l.length ≤ 13
theorem Pol.small {p : Int} (hp : pr p) {l : List Int} (h : Pol p l) : ∀ x ∈ l, -100 < x ∧ x < 100 := fun x hx => by
  have := mem_of_red h.r x hx
  unfold pr at hp
  omega
theorem Pol.good {p : Int} {l : List Int} (h : Pol p l) : good p l = true := by
  unfold Law.good
  have h1 : l.all (inr p) = true := List.all_eq_true.mpr fun x hx => by
    have := mem_of_red h.r x hx
    unfold inr
    rw [decide_eq_true this.1, decide_eq_true this.2]; rfl
  rw [h1]
  unfold lastOk
  by_cases e : l = []
  · subst e; rfl
  · rw [emp e]
    have := trim_top h.t e
    simp [this]
theorem check_poly_ok {p : Int} {l : List Int} (h : Pol p l) (L : LH) : m_check_poly [.int p, PI l] L = .ok .non L := by
  refine fnD_nx (e := [some (.int p), some (PI l)]) ((if_f (not_b (b := true) (truth_b (d := .bl true) ((call_ok (a := [.int p, PI l, .int 12]) (L1 := L) rfl rfl).trans ?_) rfl))).trans rfl)
  rw [some_poly_ints h.n, h.good]
theorem check_polys_ok {p : Int} (hp : pr p) {a b : List Int} (ha : Pol p a) (hb : Pol p b) (L : LH) : m_check_polys [.int p, PI a, PI b] L = .ok .non L := by
  refine fnD_nx (e := [some (.int p), some (PI a), some (PI b)]) ?_
  refine (seq_nx _ _ (env1 := [some (.int p), some (PI a), some (PI b)]) (L1 := L) (expr_ok ((call_ok (a := [.int p]) (L1 := L) rfl rfl).trans (check_prime_ok hp L)))).trans ?_
  refine (seq_nx _ _ (env1 := [some (.int p), some (PI a), some (PI b)]) (L1 := L) (expr_ok ((call_ok (a := [.int p, PI a]) (L1 := L) rfl rfl).trans (check_poly_ok ha L)))).trans ?_
  exact expr_ok ((call_ok (a := [.int p, PI b]) (L1 := L) rfl rfl).trans (check_poly_ok hb L))
theorem checked {p : Int} (hp : pr p) {a b : List Int} (ha : Pol p a) (hb : Pol p b) (L : LH) {g : DS} {x : SR} (h : g [some (.int p), some (PI a), some (PI b)] L = x) : sSeq (sExpr (dCall 3 m_check_polys (daCons (dVar 0) (daCons (dVar 1) (daCons (dVar 2) daNil))))) g [some (.int p), some (PI a), some (PI b)] L = x :=
  (seq_nx _ _ (env1 := [some (.int p), some (PI a), some (PI b)]) (L1 := L) (expr_ok ((call_ok (a := [.int p, PI a, PI b]) (L1 := L) rfl rfl).trans (check_polys_ok hp ha hb L)))).trans h
theorem poly_sum_ok {p : Int} (hp : pr p) {a b : List Int} (ha : Pol p a) (hb : Pol p b) (L : LH) : m_poly_sum [.int p, PI a, PI b] L = .ok (PI (addP p a b)) L :=
  fnD_rt (checked hp ha hb L (ret_ok ((call_ok (a := [.int p, PI a, PI b]) (L1 := L) rfl rfl).trans (sum_ok (pr_pos hp) (by have := ha.n; omega) (by have := hb.n; omega) L))))
theorem poly_less_ok {p : Int} (hp : pr p) {a b : List Int} (ha : Pol p a) (hb : Pol p b) (L : LH) : m_poly_less [.int p, PI a, PI b] L = .ok (PI (subP p a b)) L :=
  fnD_rt (checked hp ha hb L (ret_ok ((call_ok (a := [.int p, PI a, PI b]) (L1 := L) rfl rfl).trans (less_ok (pr_pos hp) (by have := ha.n; omega) (by have := hb.n; omega) L))))
theorem poly_product_ok {p : Int} (hp : pr p) {a b : List Int} (ha : Pol p a) (hb : Pol p b) (L : LH) : m_poly_product [.int p, PI a, PI b] L = .ok (PI (timesP p a b)) L :=
  fnD_rt (checked hp ha hb L (ret_ok ((call_ok (a := [.int p, PI a, PI b]) (L1 := L) rfl rfl).trans (by rw [prod_ok (pr_pos hp) (by have := ha.n; omega) (by have := hb.n; omega) (ha.small hp), prod_times (pr_pos hp)]))))
theorem poly_parts_ok {p : Int} (hp : pr p) {a b : List Int} (ha : Pol p a) (hb : Pol p b) (nb : b ≠ []) {L : LH} {d : D} (h : m_parts_of_poly [.int p, PI a, PI b] L = .ok d L) : m_poly_parts [.int p, PI a, PI b] L = .ok d L :=
  fnD_rt (checked hp ha hb L ((seq_nx _ _ (env1 := [some (.int p), some (PI a), some (PI b)]) (L1 := L) ((if_f (not_b (b := true) (truth_b (d := PI b) rfl (by rw [tru_PI, emp nb]; rfl)))).trans rfl)).trans (ret_ok ((call_ok (a := [.int p, PI a, PI b]) (L1 := L) rfl rfl).trans h))))
theorem poly_shared_ok {p : Int} (hp : pr p) {a b : List Int} (ha : Pol p a) (hb : Pol p b) {L : LH} {d : D} (h : m_shared_poly [.int p, PI a, PI b] L = .ok d L) : m_poly_shared [.int p, PI a, PI b] L = .ok d L :=
  fnD_rt (checked hp ha hb L (ret_ok ((call_ok (a := [.int p, PI a, PI b]) (L1 := L) rfl rfl).trans h)))
/-! what sums, differences and products are -/
theorem red_mod {p : Int} (hp : 0 < p) {l : List Int} {f : Nat → Int} (h : ∀ i, co l i = f i % p) : Red p l := fun i => by
  rw [h]; exact ⟨Int.emod_nonneg _ (by omega), Int.emod_lt_of_pos _ hp⟩
theorem plus_len (p f : Int) (a b : List Int) : (plusP p f a b).length ≤ maxl a b := by
  have := trim_len (List.zipWith (fun a b => (a + f * b) % p) (wide a (maxl a b)) (wide b (maxl a b)))
  rw [List.length_zipWith, wl, wr] at this
  unfold plusP; omega
theorem Pol.plus {p : Int} (hp : pr p) {a b : List Int} (ha : Pol p a) (hb : Pol p b) (f : Int) : Pol p (plusP p f a b) :=
  ⟨red_mod (pr_pos hp) (co_plusP p f a b), trim_trim _, by have := plus_len p f a b; have := ha.n; have := hb.n; unfold maxl at *; omega⟩
theorem add_plus (p : Int) (a b : List Int) : addP p a b = plusP p 1 a b := trim_eq (trim_trim _) (trim_trim _) fun i => by rw [co_addP, co_plusP, Int.one_mul]
theorem sub_plus (p : Int) (a b : List Int) : subP p a b = plusP p (-1) a b := trim_eq (trim_trim _) (trim_trim _) fun i => by rw [co_subP, co_plusP, Int.neg_mul, Int.one_mul, Int.sub_eq_add_neg]
theorem plus_back {p : Int} (hp : pr p) {a b : List Int} (ha : Pol p a) (f : Int) : plusP p (-f) (plusP p f a b) b = a := by
  refine trim_eq (trim_trim _) ha.t (red_eq (p := p) (red_mod (pr_pos hp) (co_plusP p (-f) _ b)) ha.r fun i => ?_)
  rw [co_plusP, co_plusP]
  refine cg_trans cg_mod (cg_trans (cg_add cg_mod cg_rfl) (cg_of ?_))
  rw [Int.neg_mul]; omega
theorem times_nil {p : Int} (hp : 0 < p) (a : List Int) : timesP p a [] = [] := by
  rw [times_comm hp]
  exact trim_zero _ (fun i => co_rep0 _ i)
theorem times_len (p : Int) (a b : List Int) : (timesP p a b).length ≤ a.length + b.length := by
  have := trim_len (outer p b (List.replicate (a.length + b.length) 0) 0 a)
  rw [outer_len, List.length_replicate] at this
  exact this
theorem div_back {p : Int} (hp : pr p) {a b q r : List Int} (ha : Pol p a) (h : DivOk p a b q r) : plusP p 1 (timesP p q b) r = a := by
  refine trim_eq (trim_trim _) ha.t (red_eq (p := p) (red_mod (pr_pos hp) (co_plusP p 1 _ r)) ha.r fun i => ?_)
  rw [co_plusP, Int.one_mul]
  exact cg_trans cg_mod (cg_trans (cg_add (cg_trans (co_timesP q b i) (cg_of (mu_comm q b i))) cg_rfl) (cg_sym (h.eq i)))
theorem quot_len {p : Int} (hp : pr p) {a b q r : List Int} (hb : Red p b) (tb : trim b = b) (nb : b ≠ []) (h : DivOk p a b q r) (hr : r.length ≤ 100) (ha : a.length ≤ 13) : q.length ≤ 100 := by
  by_cases e : q = []
  · subst e; simp
  · have hq := trim_top h.tq e
    have hl : b.length ≠ 0 := fun z => nb (List.length_eq_zero_iff.mp z)
    have hql : q.length ≠ 0 := fun z => e (List.length_eq_zero_iff.mp z)
    have hb1 := last_pos hb tb nb
    have h1 := mu_top (p := p) (f := co q) (n := q.length - 1) (fun i hi => cg_of (co_ge (by omega))) b nb
    have h2 := h.eq (q.length - 1 + b.length - 1)
    rcases Nat.lt_or_ge (q.length - 1 + b.length - 1) a.length with z | z
    · omega
    · exfalso
      rw [co_ge z, co_ge (l := r) (by have := h.lt; omega), Int.add_zero] at h2
      have h3 := cg_trans (cg_sym h1) (cg_sym h2)
      have hr2 := h.rq (q.length - 1)
      have h4 := no_div hp hb1.1 hb1.2 h3
      exact hq (cg_eq h4 hr2.1 hr2.2 (Int.le_refl 0) (pr_pos hp))
theorem shp_2 (l r : List Int) : Shp (.tup [PI l, PI r]) := by
  refine ⟨.tuple [.tuple (l.map PyData.int), .tuple (r.map PyData.int)], ?_, ?_, ?_⟩
  · show (deepAll [PI l, PI r]).map PyData.tuple = _
    unfold deepAll deepAll deepAll
    rw [deep_PI, deep_PI]; rfl
  · unfold PyData.canLay0 PyData.canLayAll0 PyData.canLayAll0 PyData.canLayAll0
    rw [lay_PI, lay_PI]; rfl
  · unfold PyData.depth PyData.depthAll PyData.depthAll PyData.depthAll
    rw [dep_PI, dep_PI]; decide
end Law

set_option Elab.async false
set_option linter.all false
set_option maxRecDepth 100000
set_option maxHeartbeats 4000000
namespace Law
open PySem PySem.Spec L2 DL PM
variable [Tbs]
theorem ne_both {f g : DE} {env : DEnv} {L L1 L2 : LH} {d : D} (hf : f env L = .ok d L1) (hg : g env L1 = .ok d L2) (s : Shp d) : dB (d2 kNe f g) env L = .ok false L2 := dB_b ((d2_ok hf hg).trans (ne_same s L2))
theorem chk {t : DT} {f g : DS} {env : DEnv} {L L1 : LH} (h : t env L = .ok false L1) : sSeq (sIf t f sNext) g env L = g env L1 := seq_nx _ _ ((if_f h).trans rfl)
theorem ca3 {f g h : DE} {env : DEnv} {L L1 L2 L3 : LH} {a b c : D} (h1 : f env L = .ok a L1) (h2 : g env L1 = .ok b L2) (h3 : h env L2 = .ok c L3) : daCons f (daCons g (daCons h daNil)) env L = .ok [a, b, c] L3 := ca_ok h1 (ca_ok h2 (ca_ok h3 cn_ok))
theorem call3 {F : List D → LH → R D} {f g h : DE} {env : DEnv} {L L1 : LH} {a b c d : D} (h1 : f env L = .ok a L) (h2 : g env L = .ok b L) (h3 : h env L = .ok c L) (k : F [a, b, c] L = .ok d L1) : dCall 3 F (daCons f (daCons g (daCons h daNil))) env L = .ok d L1 := (call_ok (ca3 h1 h2 h3) rfl).trans k
theorem call4 {F : List D → LH → R D} {f g h e : DE} {env : DEnv} {L L1 : LH} {a b c x d : D} (h1 : f env L = .ok a L) (h2 : g env L = .ok b L) (h3 : h env L = .ok c L) (h4 : e env L = .ok x L) (k : F [a, b, c, x] L = .ok d L1) : dCall 4 F (daCons f (daCons g (daCons h (daCons e daNil)))) env L = .ok d L1 := (call_ok (ca_ok h1 (ca_ok h2 (ca_ok h3 (ca_ok h4 cn_ok)))) rfl).trans k
theorem pr_of : ∀ i : Nat, i < 4 → pr (co [2, 3, 5, 7] i)
  | 0, _ => .inl rfl
  | 1, _ => .inr (.inl rfl)
  | 2, _ => .inr (.inr (.inl rfl))
  | 3, _ => .inr (.inr (.inr rfl))
  | n + 4, h => absurd h (by omega)
theorem most_of : ∀ i : Nat, i < 4 → 0 ≤ co [1, 3, 6, 12] i ∧ co [1, 3, 6, 12] i ≤ 12
  | 0, _ => by decide
  | 1, _ => by decide
  | 2, _ => by decide
  | 3, _ => by decide
  | n + 4, h => absurd h (by omega)
/-- the slots of the law's main def -/
abbrev En (n : Nat) (p : Int) (x2 : Option D) (a b : List Int) (x5 x6 x7 x8 x9 : Option D) : DEnv := [some (.ref n), some (.int p), x2, some (PI a), some (PI b), x5, x6, x7, x8, x9, none]
section
variable {p : Int} (hp : pr p) {n : Nat} {a b : List Int} {L : LH}
include hp
theorem plus_call (ha : Pol p a) (hb : Pol p b) {f : Int} (f0 : -100 < f) (f1 : f < 100) (L : LH) : m_law_plus [.int p, PI a, PI b, .int f] L = .ok (PI (plusP p f a b)) L := lplus_ok (pr_pos hp) f0 f1 (by have := ha.n; omega) (by have := hb.n; omega) L
theorem times_call (ha : Pol p a) (hb : Pol p b) (hL : Low L) : m_law_times [.int p, PI a, PI b] L = .ok (PI (timesP p a b)) L := ltimes_ok (pr_pos hp) (by have := ha.n; omega) (by have := hb.n; omega) (ha.small hp) hL
theorem pol_nil : Pol p [] := ⟨red_zero (pr_pos hp) 0, rfl, by simp⟩
/-- quotient and rest -/
theorem right_parts (ha : Pol p a) (hb : Pol p b) (hL : Low L) (x2 x5 x6 x7 x8 x9 : Option D) : ∃ y7,
    sIf (dB (d2 kNe (dVar 4) (dL DL.kTup daNil))) (sSeq (sSet 7 (dCall 3 m_poly_parts (daCons (dVar 1) (daCons (dVar 3) (daCons (dVar 4) daNil))))) (sSeq (sIf (dOr (dB (d2 kNe (dVar 7) (dCall 3 m_law_divided (daCons (dVar 1) (daCons (dVar 3) (daCons (dVar 4) daNil)))))) (dB (d2 kGe (dL kLen (daCons (d2 kIx (dVar 7) (dC (.int 1))) daNil)) (dL kLen (daCons (dVar 4) daNil))))) (sRet (dC (.bl false))) sNext) (sIf (dB (d2 kNe (dCall 4 m_law_plus (daCons (dVar 1) (daCons (dCall 3 m_law_times (daCons (dVar 1) (daCons (d2 kIx (dVar 7) (dC (.int 0))) (daCons (dVar 4) daNil)))) (daCons (d2 kIx (dVar 7) (dC (.int 1))) (daCons (dC (.int 1)) daNil))))) (dVar 3))) (sRet (dC (.bl false))) sNext))) sNext (En n p x2 a b x5 x6 x7 x8 x9) L = .nx (En n p x2 a b x5 x6 y7 x8 x9) L := by
  have hq : dB (d2 kNe (dVar 4) (dL DL.kTup daNil)) (En n p x2 a b x5 x6 x7 x8 x9) L = .ok (!b.isEmpty) L := dB_b ((d2_ok (a := PI b) (b := .tup []) (L1 := L) (L2 := L) rfl rfl).trans (ne_nil b L))
  by_cases e : b = []
  · subst e
    exact ⟨x7, (if_f hq).trans rfl⟩
  · rw [emp e] at hq
    obtain ⟨q, r, hd, hw⟩ := parts_both hp ha.r ha.t hb.r hb.t e (by have := ha.n; omega) (by have := hb.n; omega)
    obtain ⟨w1, w2⟩ := hw L hL
    have hl := hd.lt
    have hbn := hb.n
    have hqn := quot_len hp hb.r hb.t e hd (by omega) ha.n
    refine ⟨some (.tup [PI q, PI r]), (if_t hq).trans ?_⟩
    refine (seq_nx _ _ (env1 := En n p x2 a b x5 x6 (some (.tup [PI q, PI r])) x8 x9) (L1 := L) (set_ok (call3 rfl rfl rfl (poly_parts_ok hp ha hb e w1)))).trans ?_
    refine (chk (L1 := L) ((or_f (ne_both (d := .tup [PI q, PI r]) rfl (call3 rfl rfl rfl w2) (shp_2 q r))).trans (dB_b ((d2_ok (a := .int ((LI r).length : Int)) (b := .int ((LI b).length : Int)) (L1 := L) (L2 := L) (len_ok (ix1_ok rfl)) (len_ok rfl)).trans ?_)))).trans ?_
    · rw [k_ge, List.length_map, List.length_map, decide_eq_false (by omega)]
    refine (if_f (ne_both (d := PI a) (L1 := L) (L2 := L) (call4 rfl (call3 rfl (ix0_ok rfl) rfl (ltimes_ok (pr_pos hp) hqn (by omega) (fun x hx => ?_) hL)) (ix1_ok rfl) rfl ((lplus_ok (pr_pos hp) (by decide) (by decide) (by have := times_len p q b; omega) (by omega) L).trans ?_)) rfl (shp_PI a))).trans rfl
    · have := mem_of_red hd.rq x hx
      unfold pr at hp
      omega
    · rw [div_back hp ha hd]
/-- what both share with a third one -/
theorem right_third (ha : Pol p a) (hb : Pol p b) {t a' b' : List Int} (ht : Pol p t) (t5 : t.length ≤ 5) (a5 : a'.length ≤ 5) (b5 : b'.length ≤ 5) (sa : ∀ x ∈ a', x ∈ a) (sb : ∀ x ∈ b', x ∈ b) (hL : Low L) (x5 x6 x7 : Option D) :
    m_law_times [.int p, PI a', PI t] L = .ok (PI (timesP p a' t)) L ∧ m_law_times [.int p, PI b', PI t] L = .ok (PI (timesP p b' t)) L ∧
    dAnd (dB (d2 kNe (dVar 2) (dL DL.kTup daNil))) (dB (d2 kNe (d2 kIx (dCall 3 m_law_divided (daCons (dVar 1) (daCons (dCall 3 m_poly_shared (daCons (dVar 1) (daCons (dVar 8) (daCons (dVar 9) daNil)))) (daCons (dVar 2) daNil)))) (dC (.int 1))) (dL DL.kTup daNil))) (En n p (some (PI t)) a b x5 x6 x7 (some (PI (timesP p a' t))) (some (PI (timesP p b' t)))) L = .ok false L := by
  refine ⟨ltimes_ok (pr_pos hp) (by omega) (by omega) (fun x hx => ha.small hp x (sa x hx)) hL, ltimes_ok (pr_pos hp) (by omega) (by omega) (fun x hx => hb.small hp x (sb x hx)) hL, ?_⟩
  have hq : dB (d2 kNe (dVar 2) (dL DL.kTup daNil)) (En n p (some (PI t)) a b x5 x6 x7 (some (PI (timesP p a' t))) (some (PI (timesP p b' t)))) L = .ok (!t.isEmpty) L := dB_b ((d2_ok (a := PI t) (b := .tup []) (L1 := L) (L2 := L) rfl rfl).trans (ne_nil t L))
  by_cases e : t = []
  · subst e
    exact and_f hq
  · rw [emp e] at hq
    refine (and_t hq).trans ?_
    have p1 : Pol p (timesP p a' t) := ⟨red_timesP (pr_pos hp) _ _, trim_trim _, by have := times_len p a' t; omega⟩
    have p2 : Pol p (timesP p b' t) := ⟨red_timesP (pr_pos hp) _ _, trim_trim _, by have := times_len p b' t; omega⟩
    obtain ⟨g, g1, g2, g3, g4, g5⟩ := shared_ok hp p1.r p1.t p2.r p2.t (by have := p1.n; omega) (by have := p2.n; omega)
    have hm := g4 t (mul_prod (x := a') (fun i => co_timesP a' t i)) (mul_prod (x := b') (fun i => co_timesP b' t i))
    obtain ⟨q, r, hd, hw⟩ := parts_both hp g1 g2 ht.r ht.t e g3 (by omega)
    have hr := mul_div hp ht.r ht.t e hm hd
    subst hr
    exact ne_both (d := .tup []) (L1 := L) (ix1_ok (y := PI []) (call3 rfl (call3 rfl rfl rfl (poly_shared_ok hp p1 p2 (g5 L hL).1)) rfl (hw L hL).2)) rfl (shp_PI [])
end
theorem right_ok {n : Nat} {L : LH} (h : Tri n L) : ∃ L', m_law_right [.ref n] L = .ok (.bl true) L' ∧ Ev n L L' := by
  obtain ⟨i, L1, hi, e1, v1⟩ := pick_ok h (l := [2, 3, 5, 7]) (by simp) (by simp)
  have hp := pr_of i hi
  generalize co [2, 3, 5, 7] i = p at e1 hp
  have hpp := pr_pos hp
  have hp9 : p ≤ 1000 := by unfold pr at hp; omega
  obtain ⟨a, L2, e2, ra, ta, na, v2⟩ := drawn_ok v1.1 hpp hp9 (m := 12) (by decide) (by decide)
  obtain ⟨j, L3, hj, e3, v3⟩ := pick_ok v2.1 (l := [1, 3, 6, 12]) (by simp) (by simp)
  have hm := most_of j hj
  generalize co [1, 3, 6, 12] j = m at e3 hm
  obtain ⟨b, L4, e4, rb, tb, nb, v4⟩ := drawn_ok v3.1 hpp hp9 (m := m) hm.1 (by omega)
  have ha : Pol p a := ⟨ra, ta, by omega⟩
  have hb : Pol p b := ⟨rb, tb, by omega⟩
  have hL := v4.1.1
  obtain ⟨t, L5, e5, rt, tt, nt, v5⟩ := drawn_ok v4.1 hpp hp9 (m := 4) (by decide) (by decide)
  have ht : Pol p t := ⟨rt, tt, by omega⟩
  obtain ⟨a', ca, a5, sa⟩ := cut_5 a
  obtain ⟨b', cb, b5, sb⟩ := cut_5 b
  obtain ⟨items, L6, e6, i1, i2, v6⟩ := near_ok hp v5.1 ha.n
  have hv : Ev n L L6 := ((((v1.trans v2).trans v3).trans v4).trans v5).trans v6
  refine ⟨L6, fnD_rtL ?_ hv.2, hv⟩
  have p1 := Pol.plus hp ha hb 1
  have p2 := Pol.plus hp ha hb (-1)
  refine (seq_nx _ _ (env1 := [some (.ref n), some (.int p), none, none, none, none, none, none, none, none, none]) (L1 := L1) (set_ok ((call_ok (a := [.ref n, .lst (LI [2, 3, 5, 7])]) (L1 := L) rfl rfl).trans e1))).trans ?_
  refine (seq_nx _ _ (env1 := En n p none a b none none none none none) (L1 := L4) (par_ok (ca_ok (call3 rfl rfl rfl e2) (ca_ok ((call_ok (a := [.ref n, .int p, .int m]) (ca3 (L1 := L2) (L2 := L2) rfl rfl ((call_ok (a := [.ref n, .lst (LI [1, 3, 6, 12])]) (L1 := L2) rfl rfl).trans e3)) rfl).trans e4) cn_ok)))).trans ?_
  refine (seq_nx _ _ (env1 := En n p none a b (some (PI (plusP p 1 a b))) (some (PI (plusP p (-1) a b))) none none none) (L1 := L4) (par_ok (ca_ok (call4 rfl rfl rfl rfl (plus_call hp ha hb (by decide) (by decide) L4)) (ca_ok (call4 rfl rfl rfl rfl (plus_call hp ha hb (by decide) (by decide) L4)) cn_ok)))).trans ?_
  refine (chk (L1 := L4) ((or_f (ne_both (L1 := L4) (d := PI (plusP p 1 a b)) (call3 rfl rfl rfl ((poly_sum_ok hp ha hb L4).trans (by rw [add_plus]))) rfl (shp_PI _))).trans (ne_both (L1 := L4) (d := PI (plusP p (-1) a b)) (call3 rfl rfl rfl ((poly_less_ok hp ha hb L4).trans (by rw [sub_plus]))) rfl (shp_PI _)))).trans ?_
  refine (chk (L1 := L4) ((or_f (ne_both (L1 := L4) (d := PI a) (call3 rfl rfl rfl ((poly_less_ok hp p1 hb L4).trans (by rw [sub_plus, plus_back hp ha 1]))) rfl (shp_PI _))).trans (ne_both (L1 := L4) (d := PI a) (call3 rfl rfl rfl ((poly_sum_ok hp p2 hb L4).trans (by have hb1 := plus_back hp (b := b) ha (-1); rw [show (- -1 : Int) = 1 from rfl] at hb1; rw [add_plus, hb1]))) rfl (shp_PI _)))).trans ?_
  refine (chk (L1 := L4) (ne_both (L1 := L4) (d := PI (timesP p a b)) (call3 rfl rfl rfl (poly_product_ok hp ha hb L4)) (call3 rfl rfl rfl (times_call hp ha hb hL)) (shp_PI _))).trans ?_
  refine (chk (L1 := L4) ((or_f (ne_both (L1 := L4) (d := PI (timesP p a b)) (call3 rfl rfl rfl ((poly_product_ok hp hb ha L4).trans (by rw [times_comm hpp]))) (call3 rfl rfl rfl (times_call hp ha hb hL)) (shp_PI _))).trans (ne_both (L1 := L4) (d := PI []) (call3 (c := PI []) rfl rfl rfl ((poly_product_ok hp ha (pol_nil hp) L4).trans (by rw [times_nil hpp]))) rfl (shp_PI _)))).trans ?_
  obtain ⟨g, _, _, _, _, g5⟩ := shared_ok hp ha.r ha.t hb.r hb.t (by have := ha.n; omega) (by have := hb.n; omega)
  obtain ⟨g', _, _, _, _, g5'⟩ := shared_ok hp ha.r ha.t (pol_nil hp).r (pol_nil hp).t (by have := ha.n; omega) (by simp)
  refine (chk (L1 := L4) (ne_both (L1 := L4) (d := PI g) (call3 rfl rfl rfl (poly_shared_ok hp ha hb (g5 L4 hL).1)) (call3 rfl rfl rfl (g5 L4 hL).2) (shp_PI _))).trans ?_
  refine (chk (L1 := L4) (ne_both (L1 := L4) (d := PI g') (call3 (c := PI []) rfl rfl rfl (poly_shared_ok hp ha (pol_nil hp) (g5' L4 hL).1)) (call3 (c := PI []) rfl rfl rfl (g5' L4 hL).2) (shp_PI _))).trans ?_
  obtain ⟨y7, e7⟩ := right_parts hp ha hb hL (n := n) none (some (PI (plusP p 1 a b))) (some (PI (plusP p (-1) a b))) none none none
  refine (seq_nx _ _ e7).trans ?_
  obtain ⟨w1, w2, w3⟩ := right_third hp ha hb ht (by omega) a5 b5 sa sb v5.1.1 (n := n) (some (PI (plusP p 1 a b))) (some (PI (plusP p (-1) a b))) y7
  refine (seq_nx _ _ (env1 := En n p (some (PI t)) a b (some (PI (plusP p 1 a b))) (some (PI (plusP p (-1) a b))) y7 none none) (L1 := L5) (set_ok (call3 rfl rfl rfl e5))).trans ?_
  refine (seq_nx _ _ (env1 := En n p (some (PI t)) a b (some (PI (plusP p 1 a b))) (some (PI (plusP p (-1) a b))) y7 (some (PI (timesP p a' t))) (some (PI (timesP p b' t)))) (L1 := L5) (par_ok (ca_ok (call3 (b := PI a') rfl ((slice_ok (a := PI a) (lo := none) (hi := some 5) rfl rfl rfl).trans (by show R.ok (D.tup (cutD (LI a) none (some 5))) L5 = _; rw [ca])) rfl w1) (ca_ok (call3 (b := PI b') rfl ((slice_ok (a := PI b) (lo := none) (hi := some 5) rfl rfl rfl).trans (by show R.ok (D.tup (cutD (LI b) none (some 5))) L5 = _; rw [cb])) rfl w2) cn_ok)))).trans ?_
  refine (chk w3).trans ?_
  refine ret_ok ((d2_ok (a := .lst []) (b := .lst []) (L1 := L6) (L2 := L6) ?_ rfl).trans (by rfl))
  refine dLc_ok (items := items) (L1 := L6) ?_ (by omega) (lc_none items (fun d hd => ?_))
  · show R.bind (dCall 3 m_law_near _ _ L5) _ = _
    rw [call3 rfl rfl rfl e6]; rfl
  · obtain ⟨c, hc⟩ := i2 d hd
    refine ⟨[some (.ref n), some (.int p), some (PI t), some (PI a), some (PI b), some (PI (plusP p 1 a b)), some (PI (plusP p (-1) a b)), y7, some (PI (timesP p a' t)), some (PI (timesP p b' t)), some d], rfl, ?_⟩
    refine ne_both (d := .bl c) (L1 := L6) ((call_ok (a := [.int p, d]) (L1 := L6) rfl rfl).trans (hc L6).1) ((call_ok (a := [.int p, d]) (L1 := L6) rfl rfl).trans (hc L6).2) ⟨.bool c, rfl, by rfl, by cases c <;> decide⟩
end Law

set_option Elab.async false
set_option linter.all false
set_option maxRecDepth 100000
set_option maxHeartbeats 4000000
namespace Law
open PySem PySem.Spec L2 DL PM
variable [Tbs]
theorem fnF_rf {N : Nat} {body : DS} {ds xs : List D} {L : LH} (h : body (startD N ds) L = .rf xs L) : fnF N body ds L = .ok xs L := by
  unfold fnF; rw [h]
theorem retF_ok {f : DF} {env : DEnv} {L L1 : LH} {d : List D} (h : f env L = .ok d L1) : sRetF f env L = .rf d L1 := by unfold sRetF; rw [h]; rfl
theorem if_dt {t : DT} {f g : DE} {env : DEnv} {L L1 : LH} (h : t env L = .ok true L1) : dIf t f g env L = f env L1 := by simp [h]
theorem if_df {t : DT} {f g : DE} {env : DEnv} {L L1 : LH} (h : t env L = .ok false L1) : dIf t f g env L = g env L1 := by simp [h]
theorem pot_ok (ns : List Int) (k : Nat) (L : LH) : ∃ A B : Int, m_law_pot [.frl (LI ns), .int (k : Int)] L = .ok (LI [A, B, 0]) L := by
  have hc : ∃ c, dIf (dB (d2 kLt (dVar 1) (dL kLen (daCons (dVar 0) daNil)))) (dL kIntOf (daCons (d2 kIx (dVar 0) (dVar 1)) daNil)) (d2 kPlus (d2 DL.kTimes (dC (.int 157)) (dVar 1)) (dC (.int 83))) [some (.frl (LI ns)), some (.int (k : Int)), none, none] L = .ok (.int c) L := by
    have ht : dB (d2 kLt (dVar 1) (dL kLen (daCons (dVar 0) daNil))) [some (.frl (LI ns)), some (.int (k : Int)), none, none] L = .ok (decide ((k : Int) < ((LI ns).length : Int))) L := dB_b ((d2_ok (a := .int (k : Int)) (b := .int ((LI ns).length : Int)) (L1 := L) (L2 := L) rfl rfl).trans (k_lt _ _))
    by_cases h : (k : Int) < ((LI ns).length : Int)
    · rw [decide_eq_true h] at ht
      rw [List.length_map] at h
      exact ⟨co ns k, (if_dt ht).trans (int_of ((d2_ok (a := .frl (LI ns)) (b := .int (k : Int)) (L1 := L) (L2 := L) rfl rfl).trans (seqD_ix (b := false) rfl k (by omega))))⟩
    · rw [decide_eq_false h] at ht
      exact ⟨157 * (k : Int) + 83, (if_df ht).trans ((d2_ok ((d2_ok (L1 := L) (L2 := L) rfl rfl).trans (k_times _ _ (big_mul (by decide) (by decide)))) rfl).trans (k_plusI _ _))⟩
  obtain ⟨c, hc⟩ := hc
  have hg : d2 kMod (dL kIntOf (daCons (dL (kI1 fun i => if i < 0 then -i else i) (daCons (dVar 2) daNil)) daNil)) (d2 kPow (d2 kPow (dC (.int 10)) (dC (.int 53))) (dC (.int 6))) [some (.frl (LI ns)), some (.int (k : Int)), some (.int c), none] L = .ok (.int ((if c < 0 then -c else c) % ((10 ^ 53) ^ 6))) L := by
    refine (d2_ok (int_of ((dL_ok (ca_ok (a := .int c) (L1 := L) rfl cn_ok)).trans rfl)) ((d2_ok (a := .int (10 ^ 53)) (b := .int 6) (L1 := L) (L2 := L) ((d2_ok (a := .int 10) (b := .int 53) (L1 := L) (L2 := L) rfl rfl).trans (by unfold kPow k2I; simp only []; rw [if_pos (by decide)]; rfl)) rfl).trans (by unfold kPow k2I; simp only []; rw [if_pos (by decide +kernel)]; rfl))).trans (k_mod _ _ (by decide +kernel))
  generalize (if c < 0 then -c else c) % ((10 ^ 53) ^ 6) = g at hg
  refine ⟨if g - 10 ^ 16 > 0 then g - 10 ^ 16 else 0, g % 2147483489 * 97 + 619 * (k : Int) + 37 * (if decide (c < 0) then 1 else 0) + 19, fnF_rf ((seq_nx _ _ (set_ok hc)).trans ((seq_nx _ _ (set_ok hg)).trans (retF_ok ?_)))⟩
  have hx : daCons (dL (kI2 fun i j => if j > i then j else i) (daCons (dC (.int 0)) (daCons (d2 kSub (dVar 3) (d2 kPow (dC (.int 10)) (dC (.int 16)))) daNil))) (daCons (d2 kPlus (d2 kPlus (d2 kPlus (d2 DL.kTimes (d2 kMod (dL kIntOf (daCons (dVar 3) daNil)) (dC (.int 2147483489))) (dC (.int 97))) (d2 DL.kTimes (dC (.int 619)) (dVar 1))) (d2 DL.kTimes (dC (.int 37)) (dL kIntOf (daCons (d2 kLt (dVar 2) (dC (.int 0))) daNil)))) (dC (.int 19))) (daCons (dC (.int 0)) daNil)) [some (.frl (LI ns)), some (.int (k : Int)), some (.int c), some (.int g)] L = .ok (LI [if g - 10 ^ 16 > 0 then g - 10 ^ 16 else 0, g % 2147483489 * 97 + 619 * (k : Int) + 37 * (if decide (c < 0) then 1 else 0) + 19, 0]) L := by
    refine ca_ok ((dL_ok (ca_ok (a := .int 0) (L1 := L) rfl (ca_ok ((d2_ok (a := .int g) (b := .int (10 ^ 16)) (L1 := L) (L2 := L) rfl ((d2_ok (a := .int 10) (b := .int 16) (L1 := L) (L2 := L) rfl rfl).trans (by unfold kPow k2I; simp only []; rw [if_pos (by decide)]; rfl))).trans (k_sub _ _)) cn_ok))).trans rfl) (ca_ok ?_ (ca_ok (L1 := L) rfl cn_ok))
    have m0 : 0 ≤ g % 2147483489 := Int.emod_nonneg _ (by decide)
    have m1 : g % 2147483489 < 2147483489 := Int.emod_lt_of_pos _ (by decide)
    refine (d2_ok ((d2_ok ((d2_ok ((d2_ok ((d2_ok (int_of (i := g) (L1 := L) rfl) rfl).trans (k_mod _ _ (by decide))) rfl).trans (k_times _ _ (big_mul m0 (by omega)))) ((d2_ok (L1 := L) (L2 := L) rfl rfl).trans (k_times _ _ (big_mul (by decide) (by decide))))).trans (k_plusI _ _)) ((d2_ok (L1 := L) rfl ((dL_ok (ca_ok ((d2_ok (a := .int c) (b := .int 0) (L1 := L) (L2 := L) rfl rfl).trans (k_lt _ _)) cn_ok)).trans rfl)).trans (k_times _ _ (big_mul (by decide) (by decide))))).trans (k_plusI _ _)) rfl).trans (k_plusI _ _)
  exact (congrArg (fun r => R.bind r fun ds L1 => if fits ds.length = true then R.ok ds L1 else R.no) hx).trans rfl
theorem one_case (ns : List Int) (k : Nat) (x2 x3 : Option D) {L : LH} (hL : Low (L ++ [.lst (LI [0, 0, 0])])) : ∃ (L' : LH), L'.length = L.length + 1 ∧ Tri L.length L' ∧
    sSeq (sNew 3 (dCallF 2 m_law_pot (daCons (dVar 0) (daCons (dVar 1) daNil)))) (sIf (dOr (dNot (dTruth (dCall 1 m_law_right (daCons (dVar 3) daNil)))) (dNot (dTruth (dCall 1 m_law_right (daCons (dVar 3) daNil))))) (sRet (dC (.bl false))) sNext) [some (.frl (LI ns)), some (.int (k : Int)), x2, x3] L = .nx [some (.frl (LI ns)), some (.int (k : Int)), x2, some (.ref L.length)] L' := by
  obtain ⟨A, B, hp⟩ := pot_ok ns k L
  have hT : Tri L.length (L ++ [.lst (LI [A, B, 0])]) := by
    refine ⟨?_, A, B, 0, get_app L _ []⟩
    unfold Low at hL ⊢
    rw [List.all_append, List.length_append] at hL ⊢
    rw [Bool.and_eq_true] at hL ⊢
    exact ⟨hL.1, by rw [List.all_cons, low_ints]; rfl⟩
  obtain ⟨L1, e1, v1⟩ := right_ok hT
  obtain ⟨L2, e2, v2⟩ := right_ok v1.1
  refine ⟨L2, by rw [v2.2, v1.2]; simp, v2.1, ?_⟩
  refine (seq_nx _ _ (env1 := [some (.frl (LI ns)), some (.int (k : Int)), x2, some (.ref L.length)]) (L1 := L ++ [.lst (LI [A, B, 0])]) ?_).trans ?_
  · unfold sNew dCallF
    show R.toS (m_law_pot [.frl (LI ns), .int (k : Int)] L) _ _ = _
    rw [hp]; rfl
  · exact (if_f ((or_f (not_b (b := true) (truth_b (d := .bl true) ((call_ok (a := [.ref L.length]) rfl rfl).trans e1) rfl))).trans (not_b (b := true) (truth_b (d := .bl true) ((call_ok (a := [.ref L.length]) rfl rfl).trans e2) rfl)))).trans rfl
theorem pol_of {p : Int} (hp : pr p) {l : List Int} (h : ∀ x ∈ l, 0 ≤ x ∧ x < p) (t : trim l = l) (n : l.length ≤ 13) : Pol p l := ⟨red_of_mem (pr_pos hp) h, t, n⟩
theorem parts_const (L : LH) (hL : Low L) : m_poly_parts [.int 2, PI [1, 0, 1, 1], PI [1, 1]] L = .ok (.tup [PI [0, 0, 1], PI [1]]) L := by
  have hp : pr 2 := .inl rfl
  have ha : Pol 2 [1, 0, 1, 1] := pol_of hp (by decide) (by decide) (by decide)
  have hb : Pol 2 [1, 1] := pol_of hp (by decide) (by decide) (by decide)
  obtain ⟨q, r, _, h⟩ := parts_both hp ha.r ha.t hb.r hb.t (by simp) (by decide) (by decide)
  have h0 := (h [] rfl).1
  have h1 : m_parts_of_poly [.int 2, PI [1, 0, 1, 1], PI [1, 1]] [] = .ok (.tup [PI [0, 0, 1], PI [1]]) [] := by kernel_rfl
  have h2 := h0.symm.trans h1
  have h3 : (D.tup [PI q, PI r]) = .tup [PI [0, 0, 1], PI [1]] := by injection h2
  have := (h L hL).1
  rw [h3] at this
  exact poly_parts_ok hp ha hb (by simp) this
theorem shared_const1 (L : LH) (hL : Low L) : m_poly_shared [.int 3, PI [2, 0, 1], PI [1, 1]] L = .ok (PI [1, 1]) L := by
  have hp : pr 3 := .inr (.inl rfl)
  have ha : Pol 3 [2, 0, 1] := pol_of hp (by decide) (by decide) (by decide)
  have hb : Pol 3 [1, 1] := pol_of hp (by decide) (by decide) (by decide)
  obtain ⟨g, _, _, _, _, h⟩ := shared_ok hp ha.r ha.t hb.r hb.t (by decide) (by decide)
  have h0 := (h [] rfl).1
  have h1 : m_shared_poly [.int 3, PI [2, 0, 1], PI [1, 1]] [] = .ok (PI [1, 1]) [] := by kernel_rfl
  have h2 := h0.symm.trans h1
  have h3 : PI g = PI [1, 1] := by injection h2
  have := (h L hL).1
  rw [h3] at this
  exact poly_shared_ok hp ha hb this
theorem shared_const2 (L : LH) (hL : Low L) : m_poly_shared [.int 5, PI [], PI []] L = .ok (PI []) L := by
  have hp : pr 5 := .inr (.inr (.inl rfl))
  have ha : Pol 5 [] := pol_of hp (by decide) (by decide) (by decide)
  obtain ⟨g, _, _, _, _, h⟩ := shared_ok hp ha.r ha.t ha.r ha.t (by decide) (by decide)
  have h0 := (h [] rfl).1
  have h1 : m_shared_poly [.int 5, PI [], PI []] [] = .ok (PI []) [] := by kernel_rfl
  have h2 := h0.symm.trans h1
  have h3 : PI g = PI [] := by injection h2
  have := (h L hL).1
  rw [h3] at this
  exact poly_shared_ok hp ha ha this
theorem law_end (ns : List Int) (x1 x2 x3 : Option D) (L : LH) (hL : Low L) : ∃ body, m_law = fnD 4 (sSeq (sFor (iRange1 (daCons (dL (kI2 fun i j => if j > i then j else i) (daCons (dC (.int 1)) (daCons (dL (kI2 fun i j => if j < i then j else i) (daCons (dC (.int 2)) (daCons (dL kLen (daCons (dVar 0) daNil)) daNil))) daNil))) daNil)) (gSet 1) (sSeq (sNew 3 (dCallF 2 m_law_pot (daCons (dVar 0) (daCons (dVar 1) daNil)))) (sIf (dOr (dNot (dTruth (dCall 1 m_law_right (daCons (dVar 3) daNil)))) (dNot (dTruth (dCall 1 m_law_right (daCons (dVar 3) daNil))))) (sRet (dC (.bl false))) sNext))) body) ∧ body [some (.frl (LI ns)), x1, x2, x3] L = .rt (.bl true) L := by
  have hp2 : pr 2 := .inl rfl
  have hp7 : pr 7 := .inr (.inr (.inr rfl))
  refine ⟨_, rfl, ?_⟩
  refine (seq_nx _ _ (env1 := [some (.frl (LI ns)), x1, some (.lst [.tup [PI [0, 0, 1], PI [1]], PI [1, 1], PI []]), x3]) (L1 := L) (set_ok ((dL_ok (ca3 (call3 (a := .int 2) (b := PI [1, 0, 1, 1]) (c := PI [1, 1]) rfl rfl rfl (parts_const L hL)) (call3 (a := .int 3) (b := PI [2, 0, 1]) (c := PI [1, 1]) rfl rfl rfl (shared_const1 L hL)) (call3 (a := .int 5) (b := PI []) (c := PI []) rfl rfl rfl (shared_const2 L hL)))).trans rfl))).trans ?_
  refine (chk (L1 := L) ((or_f (ne_both (L1 := L) (L2 := L) (d := .lst [.tup [PI [0, 0, 1], PI [1]], PI [1, 1], PI []]) rfl rfl ⟨_, rfl, by decide +kernel, by decide +kernel⟩)).trans (ne_both (L1 := L) (L2 := L) (d := PI [1]) (call3 (a := .int 7) (b := PI [3]) (c := PI [5]) rfl rfl rfl ((poly_product_ok hp7 (pol_of hp7 (by decide) (by decide) (by decide)) (pol_of hp7 (by decide) (by decide) (by decide)) L).trans (by rw [show timesP 7 [3] [5] = [1] from by decide]))) rfl (shp_PI _)))).trans ?_
  refine ret_ok ((de_and_t ((d2_ok (a := PI [1]) (b := PI [1]) (L1 := L) (L2 := L) (call3 (a := .int 2) (b := PI [1, 1]) (c := PI [0, 1]) rfl rfl rfl ((poly_sum_ok hp2 (pol_of hp2 (by decide) (by decide) (by decide)) (pol_of hp2 (by decide) (by decide) (by decide)) L).trans (by rw [show addP 2 [1, 1] [0, 1] = [1] from by decide]))) rfl).trans (eq_same (shp_PI _) L))).trans ((d2_ok (a := PI [6, 1]) (b := PI [6, 1]) (L1 := L) (L2 := L) (call3 (a := .int 7) (b := PI []) (c := PI [1, 6]) rfl rfl rfl ((poly_less_ok hp7 (pol_of hp7 (by decide) (by decide) (by decide)) (pol_of hp7 (by decide) (by decide) (by decide)) L).trans (by rw [show subP 7 [] [1, 6] = [6, 1] from by decide]))) rfl).trans (eq_same (shp_PI _) L)))
theorem law_true : ∀ ns : List Int, ns.length ≤ 63 → ∃ L', m_law [.frl (ns.map D.int)] [] = .ok (.bl true) L' := by
  intro ns _
  have hr : ∃ k : Nat, (k = 1 ∨ k = 2) ∧ iRange1 (daCons (dL (kI2 fun i j => if j > i then j else i) (daCons (dC (.int 1)) (daCons (dL (kI2 fun i j => if j < i then j else i) (daCons (dC (.int 2)) (daCons (dL kLen (daCons (dVar 0) daNil)) daNil))) daNil))) daNil) [some (.frl (LI ns)), none, none, none] [] = .ok (rangeD 0 k) [] := by
    obtain ⟨k, hk, e⟩ : ∃ k : Nat, (k = 1 ∨ k = 2) ∧ (if (if ((LI ns).length : Int) < 2 then ((LI ns).length : Int) else 2) > 1 then (if ((LI ns).length : Int) < 2 then ((LI ns).length : Int) else 2) else 1) = (k : Int) := by
      by_cases h : ((LI ns).length : Int) < 2
      · exact ⟨1, .inl rfl, by rw [if_pos h, if_neg (by omega)]; rfl⟩
      · exact ⟨2, .inr rfl, by rw [if_neg h]; rfl⟩
    refine ⟨k, hk, range1_ok ?_ (by omega)⟩
    rw [← e]; rfl
  obtain ⟨k, hk, hr⟩ := hr
  obtain ⟨L1, n1, t1, e1⟩ := one_case ns 0 none none (L := []) (by rfl)
  obtain ⟨f1, a, b, c, g1⟩ := t1
  have hL1 : L1 = [.lst (LI [a, b, c])] := by
    match L1, n1, g1 with
    | [x], _, g1 => simpa using g1
  have fin : ∀ (L : LH) (x1 x2 x3 : Option D), L ≠ [] → Low L → forD (gSet 1) (sSeq (sNew 3 (dCallF 2 m_law_pot (daCons (dVar 0) (daCons (dVar 1) daNil)))) (sIf (dOr (dNot (dTruth (dCall 1 m_law_right (daCons (dVar 3) daNil)))) (dNot (dTruth (dCall 1 m_law_right (daCons (dVar 3) daNil))))) (sRet (dC (.bl false))) sNext)) (rangeD 0 k) [some (.frl (LI ns)), none, none, none] [] = .nx [some (.frl (LI ns)), x1, x2, x3] L → ∃ L', m_law [.frl (ns.map D.int)] [] = .ok (.bl true) L' := by
    intro L x1 x2 x3 hn hL hf
    obtain ⟨body, hb, he⟩ := law_end ns x1 x2 x3 L hL
    refine ⟨[], ?_⟩
    rw [hb]
    refine fnD_low (L := []) (ex := L) (d := .bl true) ((seq_nx _ _ ?_).trans he) hn rfl rfl
    rw [ev_for]
    show R.toS (iRange1 _ [some (.frl (LI ns)), none, none, none] []) _ _ = _
    rw [hr, toS_ok]
    exact hf
  rcases hk with rfl | rfl
  · refine fin L1 (some (.int 0)) none (some (.ref 0)) (by rw [hL1]; simp) f1 ?_
    exact (for_go (d := .int 0) (ds := []) (env1 := [some (.frl (LI ns)), some (.int 0), none, none]) rfl e1).trans rfl
  · obtain ⟨L2, n2, t2, e2⟩ := one_case ns 1 none (some (.ref 0)) (L := L1) (by rw [hL1]; rfl)
    refine fin L2 (some (.int 1)) none (some (.ref L1.length)) (by intro z; rw [z] at n2; simp at n2) t2.1 ?_
    exact (for_go (d := .int 0) (ds := [.int 1]) (env1 := [some (.frl (LI ns)), some (.int 0), none, none]) rfl e1).trans ((for_go (d := .int 1) (ds := []) (env1 := [some (.frl (LI ns)), some (.int 1), none, some (.ref 0)]) rfl e2).trans rfl)
end Law

set_option Elab.async false
set_option linter.all false
set_option maxRecDepth 100000
set_option maxHeartbeats 4000000
namespace Law
open PySem PySem.Spec L2 DL
open PyProof.Rows (envOfC)
theorem sp_in [Tbs] {K : PySem.W.Frag} {ct : Nat → Option Addr} {H : Hp} {a : Addr} {ns : List Int} (ht : ∀ p ∈ Tbs.T, LamX.TabS H p.1 p.2) (hm : ∃ L', m_law [.frl (ns.map D.int)] [] = .ok (.bl true) L') (hS : SqL K H a (ns.map V.int)) : spD ⟨K, ct⟩ 1 m_law [.ref a] H (fun v _ => v = .bl true) fun _ _ _ => False := by
  obtain ⟨L', e⟩ := hm
  refine ⟨[.frl (ns.map D.int)], [], ⟨[], []⟩, rfl, ⟨.ref a, [], rfl, ⟨a, ns.map V.int, rfl, ?_, RepAll.of_ints ns⟩, rfl⟩, ⟨rfl, List.nodup_nil, fun n a o z => by simp at z, fun _ z => (nomatch z), ht⟩, ?_⟩
  · rcases hS with h | h
    · exact .inl ⟨h, List.not_mem_nil, List.not_mem_nil⟩
    · exact .inr h
  · rw [e]
    exact fun _ _ _ _ _ r => r
section
theorem all_mk {l : PySem.W.OpenLaw} {w : World} {K : PySem.W.Frag} {h : Heap} {mg : Str → Option Value} {fa : Addr}
    {f_zero_row : Addr} {od_zero_row an_zero_row : Option Addr} {sl_zero_row : Array (Option Value)} {oc_zero_row kV_zero_row dc_zero_row pm_zero_row cd_zero_row ct_zero_row : Value}
    {f_row_sum : Addr} {od_row_sum an_row_sum : Option Addr} {sl_row_sum : Array (Option Value)} {oc_row_sum kV_row_sum dc_row_sum pm_row_sum cd_row_sum ct_row_sum : Value}
    {f_row_less : Addr} {od_row_less an_row_less : Option Addr} {sl_row_less : Array (Option Value)} {oc_row_less kV_row_less dc_row_less pm_row_less cd_row_less ct_row_less : Value}
    {f_row_times : Addr} {od_row_times an_row_times : Option Addr} {sl_row_times : Array (Option Value)} {oc_row_times kV_row_times dc_row_times pm_row_times cd_row_times ct_row_times : Value}
    {f_combined : Addr} {od_combined an_combined : Option Addr} {sl_combined : Array (Option Value)} {oc_combined kV_combined dc_combined pm_combined cd_combined ct_combined : Value}
    {f_is_integer : Addr} {od_is_integer an_is_integer : Option Addr} {sl_is_integer : Array (Option Value)} {oc_is_integer kV_is_integer dc_is_integer pm_is_integer cd_is_integer ct_is_integer : Value}
    {f_is_row : Addr} {od_is_row an_is_row : Option Addr} {sl_is_row : Array (Option Value)} {oc_is_row kV_is_row dc_is_row pm_is_row cd_is_row ct_is_row : Value}
    {f_check_prime : Addr} {od_check_prime an_check_prime : Option Addr} {sl_check_prime : Array (Option Value)} {oc_check_prime kV_check_prime dc_check_prime pm_check_prime cd_check_prime ct_check_prime : Value}
    {f_undone_number : Addr} {od_undone_number an_undone_number : Option Addr} {sl_undone_number : Array (Option Value)} {oc_undone_number kV_undone_number dc_undone_number pm_undone_number cd_undone_number ct_undone_number : Value}
    {f_is_some_poly : Addr} {od_is_some_poly an_is_some_poly : Option Addr} {sl_is_some_poly : Array (Option Value)} {oc_is_some_poly kV_is_some_poly dc_is_some_poly pm_is_some_poly cd_is_some_poly ct_is_some_poly : Value}
    {f_trimmed : Addr} {od_trimmed an_trimmed : Option Addr} {sl_trimmed : Array (Option Value)} {oc_trimmed kV_trimmed dc_trimmed pm_trimmed cd_trimmed ct_trimmed : Value}
    {f_widened : Addr} {od_widened an_widened : Option Addr} {sl_widened : Array (Option Value)} {oc_widened kV_widened dc_widened pm_widened cd_widened ct_widened : Value}
    {f_sum_of_polys : Addr} {od_sum_of_polys an_sum_of_polys : Option Addr} {sl_sum_of_polys : Array (Option Value)} {oc_sum_of_polys kV_sum_of_polys dc_sum_of_polys pm_sum_of_polys cd_sum_of_polys ct_sum_of_polys : Value}
    {f_poly_less_other : Addr} {od_poly_less_other an_poly_less_other : Option Addr} {sl_poly_less_other : Array (Option Value)} {oc_poly_less_other kV_poly_less_other dc_poly_less_other pm_poly_less_other cd_poly_less_other ct_poly_less_other : Value}
    {f_product_of_polys : Addr} {od_product_of_polys an_product_of_polys : Option Addr} {sl_product_of_polys : Array (Option Value)} {oc_product_of_polys kV_product_of_polys dc_product_of_polys pm_product_of_polys cd_product_of_polys ct_product_of_polys : Value}
    {f_parts_of_poly : Addr} {od_parts_of_poly an_parts_of_poly : Option Addr} {sl_parts_of_poly : Array (Option Value)} {oc_parts_of_poly kV_parts_of_poly dc_parts_of_poly pm_parts_of_poly cd_parts_of_poly ct_parts_of_poly : Value}
    {f_rest_of_poly : Addr} {od_rest_of_poly an_rest_of_poly : Option Addr} {sl_rest_of_poly : Array (Option Value)} {oc_rest_of_poly kV_rest_of_poly dc_rest_of_poly pm_rest_of_poly cd_rest_of_poly ct_rest_of_poly : Value}
    {f_made_monic : Addr} {od_made_monic an_made_monic : Option Addr} {sl_made_monic : Array (Option Value)} {oc_made_monic kV_made_monic dc_made_monic pm_made_monic cd_made_monic ct_made_monic : Value}
    {f_shared_poly : Addr} {od_shared_poly an_shared_poly : Option Addr} {sl_shared_poly : Array (Option Value)} {oc_shared_poly kV_shared_poly dc_shared_poly pm_shared_poly cd_shared_poly ct_shared_poly : Value}
    {f_check_poly : Addr} {od_check_poly an_check_poly : Option Addr} {sl_check_poly : Array (Option Value)} {oc_check_poly kV_check_poly dc_check_poly pm_check_poly cd_check_poly ct_check_poly : Value}
    {f_check_polys : Addr} {od_check_polys an_check_polys : Option Addr} {sl_check_polys : Array (Option Value)} {oc_check_polys kV_check_polys dc_check_polys pm_check_polys cd_check_polys ct_check_polys : Value}
    {f_is_poly : Addr} {od_is_poly an_is_poly : Option Addr} {sl_is_poly : Array (Option Value)} {oc_is_poly kV_is_poly dc_is_poly pm_is_poly cd_is_poly ct_is_poly : Value}
    {f_poly_sum : Addr} {od_poly_sum an_poly_sum : Option Addr} {sl_poly_sum : Array (Option Value)} {oc_poly_sum kV_poly_sum dc_poly_sum pm_poly_sum cd_poly_sum ct_poly_sum : Value}
    {f_poly_less : Addr} {od_poly_less an_poly_less : Option Addr} {sl_poly_less : Array (Option Value)} {oc_poly_less kV_poly_less dc_poly_less pm_poly_less cd_poly_less ct_poly_less : Value}
    {f_poly_product : Addr} {od_poly_product an_poly_product : Option Addr} {sl_poly_product : Array (Option Value)} {oc_poly_product kV_poly_product dc_poly_product pm_poly_product cd_poly_product ct_poly_product : Value}
    {f_poly_parts : Addr} {od_poly_parts an_poly_parts : Option Addr} {sl_poly_parts : Array (Option Value)} {oc_poly_parts kV_poly_parts dc_poly_parts pm_poly_parts cd_poly_parts ct_poly_parts : Value}
    {f_poly_shared : Addr} {od_poly_shared an_poly_shared : Option Addr} {sl_poly_shared : Array (Option Value)} {oc_poly_shared kV_poly_shared dc_poly_shared pm_poly_shared cd_poly_shared ct_poly_shared : Value}
    {f_law_pot : Addr} {od_law_pot an_law_pot : Option Addr} {sl_law_pot : Array (Option Value)} {oc_law_pot kV_law_pot dc_law_pot pm_law_pot cd_law_pot ct_law_pot : Value}
    {f_law_ladle : Addr} {od_law_ladle an_law_ladle : Option Addr} {sl_law_ladle : Array (Option Value)} {oc_law_ladle kV_law_ladle dc_law_ladle pm_law_ladle cd_law_ladle ct_law_ladle : Value}
    {f_law_pick : Addr} {od_law_pick an_law_pick : Option Addr} {sl_law_pick : Array (Option Value)} {oc_law_pick kV_law_pick dc_law_pick pm_law_pick cd_law_pick ct_law_pick : Value}
    {f_law_trimmed : Addr} {od_law_trimmed an_law_trimmed : Option Addr} {sl_law_trimmed : Array (Option Value)} {oc_law_trimmed kV_law_trimmed dc_law_trimmed pm_law_trimmed cd_law_trimmed ct_law_trimmed : Value}
    {f_law_plus : Addr} {od_law_plus an_law_plus : Option Addr} {sl_law_plus : Array (Option Value)} {oc_law_plus kV_law_plus dc_law_plus pm_law_plus cd_law_plus ct_law_plus : Value}
    {f_law_times : Addr} {od_law_times an_law_times : Option Addr} {sl_law_times : Array (Option Value)} {oc_law_times kV_law_times dc_law_times pm_law_times cd_law_times ct_law_times : Value}
    {f_law_undone : Addr} {od_law_undone an_law_undone : Option Addr} {sl_law_undone : Array (Option Value)} {oc_law_undone kV_law_undone dc_law_undone pm_law_undone cd_law_undone ct_law_undone : Value}
    {f_law_divided : Addr} {od_law_divided an_law_divided : Option Addr} {sl_law_divided : Array (Option Value)} {oc_law_divided kV_law_divided dc_law_divided pm_law_divided cd_law_divided ct_law_divided : Value}
    {f_law_shared : Addr} {od_law_shared an_law_shared : Option Addr} {sl_law_shared : Array (Option Value)} {oc_law_shared kV_law_shared dc_law_shared pm_law_shared cd_law_shared ct_law_shared : Value}
    {f_law_drawn_poly : Addr} {od_law_drawn_poly an_law_drawn_poly : Option Addr} {sl_law_drawn_poly : Array (Option Value)} {oc_law_drawn_poly kV_law_drawn_poly dc_law_drawn_poly pm_law_drawn_poly cd_law_drawn_poly ct_law_drawn_poly : Value}
    {f_law_is_due : Addr} {od_law_is_due an_law_is_due : Option Addr} {sl_law_is_due : Array (Option Value)} {oc_law_is_due kV_law_is_due dc_law_is_due pm_law_is_due cd_law_is_due ct_law_is_due : Value}
    {f_law_near : Addr} {od_law_near an_law_near : Option Addr} {sl_law_near : Array (Option Value)} {oc_law_near kV_law_near dc_law_near pm_law_near cd_law_near ct_law_near : Value}
    {f_law_right : Addr} {od_law_right an_law_right : Option Addr} {sl_law_right : Array (Option Value)} {oc_law_right kV_law_right dc_law_right pm_law_right cd_law_right ct_law_right : Value}
    {f_law : Addr} {od_law an_law : Option Addr} {sl_law : Array (Option Value)} {oc_law kV_law dc_law pm_law cd_law ct_law : Value}
    {t_MAX_DEGREE : Tok}
    {q_PRIMES : Addr} {n_PRIMES : Nat} {sl_PRIMES : Array (Option Value)} {t_PRIMES_0 t_PRIMES_1 t_PRIMES_2 t_PRIMES_3 : Tok}
    {C_Refused I_Refused : Addr} {od_Refused an_Refused : Option Addr} {sl_Refused : Array (Option Value)} {oc_Refused dc_Refused pm_Refused cd_Refused ct_Refused : Value}
    (X : K.In h) (G : h.Ns mainGlobals mg) (hfa : mg "law" = some (.ref fa)) 
    (a_zero_row : PySem.W.nsIn K mainGlobals "zero_row" = some (some (.ref f_zero_row)))
    (l_zero_row : K.lookup f_zero_row = some ⟨oc_zero_row, od_zero_row, .func (PySem.W.fnOf "zero_row" "zero_row" (defArgs s_zero_row) (defBody s_zero_row) (defScope s_zero_row) .none kV_zero_row dc_zero_row pm_zero_row an_zero_row cd_zero_row ct_zero_row), sl_zero_row⟩)
    (c_zero_row : PySem.W.codeIn K cd_zero_row "zero_row" = true)
    (k_zero_row : PySem.W.keepIn K (.ref f_zero_row) = true)
    (a_row_sum : PySem.W.nsIn K mainGlobals "row_sum" = some (some (.ref f_row_sum)))
    (l_row_sum : K.lookup f_row_sum = some ⟨oc_row_sum, od_row_sum, .func (PySem.W.fnOf "row_sum" "row_sum" (defArgs s_row_sum) (defBody s_row_sum) (defScope s_row_sum) .none kV_row_sum dc_row_sum pm_row_sum an_row_sum cd_row_sum ct_row_sum), sl_row_sum⟩)
    (c_row_sum : PySem.W.codeIn K cd_row_sum "row_sum" = true)
    (k_row_sum : PySem.W.keepIn K (.ref f_row_sum) = true)
    (a_row_less : PySem.W.nsIn K mainGlobals "row_less" = some (some (.ref f_row_less)))
    (l_row_less : K.lookup f_row_less = some ⟨oc_row_less, od_row_less, .func (PySem.W.fnOf "row_less" "row_less" (defArgs s_row_less) (defBody s_row_less) (defScope s_row_less) .none kV_row_less dc_row_less pm_row_less an_row_less cd_row_less ct_row_less), sl_row_less⟩)
    (c_row_less : PySem.W.codeIn K cd_row_less "row_less" = true)
    (k_row_less : PySem.W.keepIn K (.ref f_row_less) = true)
    (a_row_times : PySem.W.nsIn K mainGlobals "row_times" = some (some (.ref f_row_times)))
    (l_row_times : K.lookup f_row_times = some ⟨oc_row_times, od_row_times, .func (PySem.W.fnOf "row_times" "row_times" (defArgs s_row_times) (defBody s_row_times) (defScope s_row_times) .none kV_row_times dc_row_times pm_row_times an_row_times cd_row_times ct_row_times), sl_row_times⟩)
    (c_row_times : PySem.W.codeIn K cd_row_times "row_times" = true)
    (k_row_times : PySem.W.keepIn K (.ref f_row_times) = true)
    (a_combined : PySem.W.nsIn K mainGlobals "combined" = some (some (.ref f_combined)))
    (l_combined : K.lookup f_combined = some ⟨oc_combined, od_combined, .func (PySem.W.fnOf "combined" "combined" (defArgs s_combined) (defBody s_combined) (defScope s_combined) .none kV_combined dc_combined pm_combined an_combined cd_combined ct_combined), sl_combined⟩)
    (c_combined : PySem.W.codeIn K cd_combined "combined" = true)
    (k_combined : PySem.W.keepIn K (.ref f_combined) = true)
    (a_is_integer : PySem.W.nsIn K mainGlobals "is_integer" = some (some (.ref f_is_integer)))
    (l_is_integer : K.lookup f_is_integer = some ⟨oc_is_integer, od_is_integer, .func (PySem.W.fnOf "is_integer" "is_integer" (defArgs s_is_integer) (defBody s_is_integer) (defScope s_is_integer) .none kV_is_integer dc_is_integer pm_is_integer an_is_integer cd_is_integer ct_is_integer), sl_is_integer⟩)
    (c_is_integer : PySem.W.codeIn K cd_is_integer "is_integer" = true)
    (k_is_integer : PySem.W.keepIn K (.ref f_is_integer) = true)
    (a_is_row : PySem.W.nsIn K mainGlobals "is_row" = some (some (.ref f_is_row)))
    (l_is_row : K.lookup f_is_row = some ⟨oc_is_row, od_is_row, .func (PySem.W.fnOf "is_row" "is_row" (defArgs s_is_row) (defBody s_is_row) (defScope s_is_row) .none kV_is_row dc_is_row pm_is_row an_is_row cd_is_row ct_is_row), sl_is_row⟩)
    (c_is_row : PySem.W.codeIn K cd_is_row "is_row" = true)
    (k_is_row : PySem.W.keepIn K (.ref f_is_row) = true)
    (a_check_prime : PySem.W.nsIn K mainGlobals "check_prime" = some (some (.ref f_check_prime)))
    (l_check_prime : K.lookup f_check_prime = some ⟨oc_check_prime, od_check_prime, .func (PySem.W.fnOf "check_prime" "check_prime" (defArgs s_check_prime) (defBody s_check_prime) (defScope s_check_prime) .none kV_check_prime dc_check_prime pm_check_prime an_check_prime cd_check_prime ct_check_prime), sl_check_prime⟩)
    (c_check_prime : PySem.W.codeIn K cd_check_prime "check_prime" = true)
    (k_check_prime : PySem.W.keepIn K (.ref f_check_prime) = true)
    (a_undone_number : PySem.W.nsIn K mainGlobals "undone_number" = some (some (.ref f_undone_number)))
    (l_undone_number : K.lookup f_undone_number = some ⟨oc_undone_number, od_undone_number, .func (PySem.W.fnOf "undone_number" "undone_number" (defArgs s_undone_number) (defBody s_undone_number) (defScope s_undone_number) .none kV_undone_number dc_undone_number pm_undone_number an_undone_number cd_undone_number ct_undone_number), sl_undone_number⟩)
    (c_undone_number : PySem.W.codeIn K cd_undone_number "undone_number" = true)
    (k_undone_number : PySem.W.keepIn K (.ref f_undone_number) = true)
    (a_is_some_poly : PySem.W.nsIn K mainGlobals "is_some_poly" = some (some (.ref f_is_some_poly)))
    (l_is_some_poly : K.lookup f_is_some_poly = some ⟨oc_is_some_poly, od_is_some_poly, .func (PySem.W.fnOf "is_some_poly" "is_some_poly" (defArgs s_is_some_poly) (defBody s_is_some_poly) (defScope s_is_some_poly) .none kV_is_some_poly dc_is_some_poly pm_is_some_poly an_is_some_poly cd_is_some_poly ct_is_some_poly), sl_is_some_poly⟩)
    (c_is_some_poly : PySem.W.codeIn K cd_is_some_poly "is_some_poly" = true)
    (k_is_some_poly : PySem.W.keepIn K (.ref f_is_some_poly) = true)
    (a_trimmed : PySem.W.nsIn K mainGlobals "trimmed" = some (some (.ref f_trimmed)))
    (l_trimmed : K.lookup f_trimmed = some ⟨oc_trimmed, od_trimmed, .func (PySem.W.fnOf "trimmed" "trimmed" (defArgs s_trimmed) (defBody s_trimmed) (defScope s_trimmed) .none kV_trimmed dc_trimmed pm_trimmed an_trimmed cd_trimmed ct_trimmed), sl_trimmed⟩)
    (c_trimmed : PySem.W.codeIn K cd_trimmed "trimmed" = true)
    (k_trimmed : PySem.W.keepIn K (.ref f_trimmed) = true)
    (a_widened : PySem.W.nsIn K mainGlobals "widened" = some (some (.ref f_widened)))
    (l_widened : K.lookup f_widened = some ⟨oc_widened, od_widened, .func (PySem.W.fnOf "widened" "widened" (defArgs s_widened) (defBody s_widened) (defScope s_widened) .none kV_widened dc_widened pm_widened an_widened cd_widened ct_widened), sl_widened⟩)
    (c_widened : PySem.W.codeIn K cd_widened "widened" = true)
    (k_widened : PySem.W.keepIn K (.ref f_widened) = true)
    (a_sum_of_polys : PySem.W.nsIn K mainGlobals "sum_of_polys" = some (some (.ref f_sum_of_polys)))
    (l_sum_of_polys : K.lookup f_sum_of_polys = some ⟨oc_sum_of_polys, od_sum_of_polys, .func (PySem.W.fnOf "sum_of_polys" "sum_of_polys" (defArgs s_sum_of_polys) (defBody s_sum_of_polys) (defScope s_sum_of_polys) .none kV_sum_of_polys dc_sum_of_polys pm_sum_of_polys an_sum_of_polys cd_sum_of_polys ct_sum_of_polys), sl_sum_of_polys⟩)
    (c_sum_of_polys : PySem.W.codeIn K cd_sum_of_polys "sum_of_polys" = true)
    (k_sum_of_polys : PySem.W.keepIn K (.ref f_sum_of_polys) = true)
    (a_poly_less_other : PySem.W.nsIn K mainGlobals "poly_less_other" = some (some (.ref f_poly_less_other)))
    (l_poly_less_other : K.lookup f_poly_less_other = some ⟨oc_poly_less_other, od_poly_less_other, .func (PySem.W.fnOf "poly_less_other" "poly_less_other" (defArgs s_poly_less_other) (defBody s_poly_less_other) (defScope s_poly_less_other) .none kV_poly_less_other dc_poly_less_other pm_poly_less_other an_poly_less_other cd_poly_less_other ct_poly_less_other), sl_poly_less_other⟩)
    (c_poly_less_other : PySem.W.codeIn K cd_poly_less_other "poly_less_other" = true)
    (k_poly_less_other : PySem.W.keepIn K (.ref f_poly_less_other) = true)
    (a_product_of_polys : PySem.W.nsIn K mainGlobals "product_of_polys" = some (some (.ref f_product_of_polys)))
    (l_product_of_polys : K.lookup f_product_of_polys = some ⟨oc_product_of_polys, od_product_of_polys, .func (PySem.W.fnOf "product_of_polys" "product_of_polys" (defArgs s_product_of_polys) (defBody s_product_of_polys) (defScope s_product_of_polys) .none kV_product_of_polys dc_product_of_polys pm_product_of_polys an_product_of_polys cd_product_of_polys ct_product_of_polys), sl_product_of_polys⟩)
    (c_product_of_polys : PySem.W.codeIn K cd_product_of_polys "product_of_polys" = true)
    (k_product_of_polys : PySem.W.keepIn K (.ref f_product_of_polys) = true)
    (a_parts_of_poly : PySem.W.nsIn K mainGlobals "parts_of_poly" = some (some (.ref f_parts_of_poly)))
    (l_parts_of_poly : K.lookup f_parts_of_poly = some ⟨oc_parts_of_poly, od_parts_of_poly, .func (PySem.W.fnOf "parts_of_poly" "parts_of_poly" (defArgs s_parts_of_poly) (defBody s_parts_of_poly) (defScope s_parts_of_poly) .none kV_parts_of_poly dc_parts_of_poly pm_parts_of_poly an_parts_of_poly cd_parts_of_poly ct_parts_of_poly), sl_parts_of_poly⟩)
    (c_parts_of_poly : PySem.W.codeIn K cd_parts_of_poly "parts_of_poly" = true)
    (k_parts_of_poly : PySem.W.keepIn K (.ref f_parts_of_poly) = true)
    (a_rest_of_poly : PySem.W.nsIn K mainGlobals "rest_of_poly" = some (some (.ref f_rest_of_poly)))
    (l_rest_of_poly : K.lookup f_rest_of_poly = some ⟨oc_rest_of_poly, od_rest_of_poly, .func (PySem.W.fnOf "rest_of_poly" "rest_of_poly" (defArgs s_rest_of_poly) (defBody s_rest_of_poly) (defScope s_rest_of_poly) .none kV_rest_of_poly dc_rest_of_poly pm_rest_of_poly an_rest_of_poly cd_rest_of_poly ct_rest_of_poly), sl_rest_of_poly⟩)
    (c_rest_of_poly : PySem.W.codeIn K cd_rest_of_poly "rest_of_poly" = true)
    (k_rest_of_poly : PySem.W.keepIn K (.ref f_rest_of_poly) = true)
    (a_made_monic : PySem.W.nsIn K mainGlobals "made_monic" = some (some (.ref f_made_monic)))
    (l_made_monic : K.lookup f_made_monic = some ⟨oc_made_monic, od_made_monic, .func (PySem.W.fnOf "made_monic" "made_monic" (defArgs s_made_monic) (defBody s_made_monic) (defScope s_made_monic) .none kV_made_monic dc_made_monic pm_made_monic an_made_monic cd_made_monic ct_made_monic), sl_made_monic⟩)
    (c_made_monic : PySem.W.codeIn K cd_made_monic "made_monic" = true)
    (k_made_monic : PySem.W.keepIn K (.ref f_made_monic) = true)
    (a_shared_poly : PySem.W.nsIn K mainGlobals "shared_poly" = some (some (.ref f_shared_poly)))
    (l_shared_poly : K.lookup f_shared_poly = some ⟨oc_shared_poly, od_shared_poly, .func (PySem.W.fnOf "shared_poly" "shared_poly" (defArgs s_shared_poly) (defBody s_shared_poly) (defScope s_shared_poly) .none kV_shared_poly dc_shared_poly pm_shared_poly an_shared_poly cd_shared_poly ct_shared_poly), sl_shared_poly⟩)
    (c_shared_poly : PySem.W.codeIn K cd_shared_poly "shared_poly" = true)
    (k_shared_poly : PySem.W.keepIn K (.ref f_shared_poly) = true)
    (a_check_poly : PySem.W.nsIn K mainGlobals "check_poly" = some (some (.ref f_check_poly)))
    (l_check_poly : K.lookup f_check_poly = some ⟨oc_check_poly, od_check_poly, .func (PySem.W.fnOf "check_poly" "check_poly" (defArgs s_check_poly) (defBody s_check_poly) (defScope s_check_poly) .none kV_check_poly dc_check_poly pm_check_poly an_check_poly cd_check_poly ct_check_poly), sl_check_poly⟩)
    (c_check_poly : PySem.W.codeIn K cd_check_poly "check_poly" = true)
    (k_check_poly : PySem.W.keepIn K (.ref f_check_poly) = true)
    (a_check_polys : PySem.W.nsIn K mainGlobals "check_polys" = some (some (.ref f_check_polys)))
    (l_check_polys : K.lookup f_check_polys = some ⟨oc_check_polys, od_check_polys, .func (PySem.W.fnOf "check_polys" "check_polys" (defArgs s_check_polys) (defBody s_check_polys) (defScope s_check_polys) .none kV_check_polys dc_check_polys pm_check_polys an_check_polys cd_check_polys ct_check_polys), sl_check_polys⟩)
    (c_check_polys : PySem.W.codeIn K cd_check_polys "check_polys" = true)
    (k_check_polys : PySem.W.keepIn K (.ref f_check_polys) = true)
    (a_is_poly : PySem.W.nsIn K mainGlobals "is_poly" = some (some (.ref f_is_poly)))
    (l_is_poly : K.lookup f_is_poly = some ⟨oc_is_poly, od_is_poly, .func (PySem.W.fnOf "is_poly" "is_poly" (defArgs s_is_poly) (defBody s_is_poly) (defScope s_is_poly) .none kV_is_poly dc_is_poly pm_is_poly an_is_poly cd_is_poly ct_is_poly), sl_is_poly⟩)
    (c_is_poly : PySem.W.codeIn K cd_is_poly "is_poly" = true)
    (k_is_poly : PySem.W.keepIn K (.ref f_is_poly) = true)
    (a_poly_sum : PySem.W.nsIn K mainGlobals "poly_sum" = some (some (.ref f_poly_sum)))
    (l_poly_sum : K.lookup f_poly_sum = some ⟨oc_poly_sum, od_poly_sum, .func (PySem.W.fnOf "poly_sum" "poly_sum" (defArgs s_poly_sum) (defBody s_poly_sum) (defScope s_poly_sum) .none kV_poly_sum dc_poly_sum pm_poly_sum an_poly_sum cd_poly_sum ct_poly_sum), sl_poly_sum⟩)
    (c_poly_sum : PySem.W.codeIn K cd_poly_sum "poly_sum" = true)
    (k_poly_sum : PySem.W.keepIn K (.ref f_poly_sum) = true)
    (a_poly_less : PySem.W.nsIn K mainGlobals "poly_less" = some (some (.ref f_poly_less)))
    (l_poly_less : K.lookup f_poly_less = some ⟨oc_poly_less, od_poly_less, .func (PySem.W.fnOf "poly_less" "poly_less" (defArgs s_poly_less) (defBody s_poly_less) (defScope s_poly_less) .none kV_poly_less dc_poly_less pm_poly_less an_poly_less cd_poly_less ct_poly_less), sl_poly_less⟩)
    (c_poly_less : PySem.W.codeIn K cd_poly_less "poly_less" = true)
    (k_poly_less : PySem.W.keepIn K (.ref f_poly_less) = true)
    (a_poly_product : PySem.W.nsIn K mainGlobals "poly_product" = some (some (.ref f_poly_product)))
    (l_poly_product : K.lookup f_poly_product = some ⟨oc_poly_product, od_poly_product, .func (PySem.W.fnOf "poly_product" "poly_product" (defArgs s_poly_product) (defBody s_poly_product) (defScope s_poly_product) .none kV_poly_product dc_poly_product pm_poly_product an_poly_product cd_poly_product ct_poly_product), sl_poly_product⟩)
    (c_poly_product : PySem.W.codeIn K cd_poly_product "poly_product" = true)
    (k_poly_product : PySem.W.keepIn K (.ref f_poly_product) = true)
    (a_poly_parts : PySem.W.nsIn K mainGlobals "poly_parts" = some (some (.ref f_poly_parts)))
    (l_poly_parts : K.lookup f_poly_parts = some ⟨oc_poly_parts, od_poly_parts, .func (PySem.W.fnOf "poly_parts" "poly_parts" (defArgs s_poly_parts) (defBody s_poly_parts) (defScope s_poly_parts) .none kV_poly_parts dc_poly_parts pm_poly_parts an_poly_parts cd_poly_parts ct_poly_parts), sl_poly_parts⟩)
    (c_poly_parts : PySem.W.codeIn K cd_poly_parts "poly_parts" = true)
    (k_poly_parts : PySem.W.keepIn K (.ref f_poly_parts) = true)
    (a_poly_shared : PySem.W.nsIn K mainGlobals "poly_shared" = some (some (.ref f_poly_shared)))
    (l_poly_shared : K.lookup f_poly_shared = some ⟨oc_poly_shared, od_poly_shared, .func (PySem.W.fnOf "poly_shared" "poly_shared" (defArgs s_poly_shared) (defBody s_poly_shared) (defScope s_poly_shared) .none kV_poly_shared dc_poly_shared pm_poly_shared an_poly_shared cd_poly_shared ct_poly_shared), sl_poly_shared⟩)
    (c_poly_shared : PySem.W.codeIn K cd_poly_shared "poly_shared" = true)
    (k_poly_shared : PySem.W.keepIn K (.ref f_poly_shared) = true)
    (a_law_pot : PySem.W.nsIn K mainGlobals "_law_pot" = some (some (.ref f_law_pot)))
    (l_law_pot : K.lookup f_law_pot = some ⟨oc_law_pot, od_law_pot, .func (PySem.W.fnOf "_law_pot" "_law_pot" (defArgs s_law_pot) (defBody s_law_pot) (defScope s_law_pot) .none kV_law_pot dc_law_pot pm_law_pot an_law_pot cd_law_pot ct_law_pot), sl_law_pot⟩)
    (c_law_pot : PySem.W.codeIn K cd_law_pot "_law_pot" = true)
    (k_law_pot : PySem.W.keepIn K (.ref f_law_pot) = true)
    (a_law_ladle : PySem.W.nsIn K mainGlobals "_law_ladle" = some (some (.ref f_law_ladle)))
    (l_law_ladle : K.lookup f_law_ladle = some ⟨oc_law_ladle, od_law_ladle, .func (PySem.W.fnOf "_law_ladle" "_law_ladle" (defArgs s_law_ladle) (defBody s_law_ladle) (defScope s_law_ladle) .none kV_law_ladle dc_law_ladle pm_law_ladle an_law_ladle cd_law_ladle ct_law_ladle), sl_law_ladle⟩)
    (c_law_ladle : PySem.W.codeIn K cd_law_ladle "_law_ladle" = true)
    (k_law_ladle : PySem.W.keepIn K (.ref f_law_ladle) = true)
    (a_law_pick : PySem.W.nsIn K mainGlobals "_law_pick" = some (some (.ref f_law_pick)))
    (l_law_pick : K.lookup f_law_pick = some ⟨oc_law_pick, od_law_pick, .func (PySem.W.fnOf "_law_pick" "_law_pick" (defArgs s_law_pick) (defBody s_law_pick) (defScope s_law_pick) .none kV_law_pick dc_law_pick pm_law_pick an_law_pick cd_law_pick ct_law_pick), sl_law_pick⟩)
    (c_law_pick : PySem.W.codeIn K cd_law_pick "_law_pick" = true)
    (k_law_pick : PySem.W.keepIn K (.ref f_law_pick) = true)
    (a_law_trimmed : PySem.W.nsIn K mainGlobals "_law_trimmed" = some (some (.ref f_law_trimmed)))
    (l_law_trimmed : K.lookup f_law_trimmed = some ⟨oc_law_trimmed, od_law_trimmed, .func (PySem.W.fnOf "_law_trimmed" "_law_trimmed" (defArgs s_law_trimmed) (defBody s_law_trimmed) (defScope s_law_trimmed) .none kV_law_trimmed dc_law_trimmed pm_law_trimmed an_law_trimmed cd_law_trimmed ct_law_trimmed), sl_law_trimmed⟩)
    (c_law_trimmed : PySem.W.codeIn K cd_law_trimmed "_law_trimmed" = true)
    (k_law_trimmed : PySem.W.keepIn K (.ref f_law_trimmed) = true)
    (a_law_plus : PySem.W.nsIn K mainGlobals "_law_plus" = some (some (.ref f_law_plus)))
    (l_law_plus : K.lookup f_law_plus = some ⟨oc_law_plus, od_law_plus, .func (PySem.W.fnOf "_law_plus" "_law_plus" (defArgs s_law_plus) (defBody s_law_plus) (defScope s_law_plus) .none kV_law_plus dc_law_plus pm_law_plus an_law_plus cd_law_plus ct_law_plus), sl_law_plus⟩)
    (c_law_plus : PySem.W.codeIn K cd_law_plus "_law_plus" = true)
    (k_law_plus : PySem.W.keepIn K (.ref f_law_plus) = true)
    (a_law_times : PySem.W.nsIn K mainGlobals "_law_times" = some (some (.ref f_law_times)))
    (l_law_times : K.lookup f_law_times = some ⟨oc_law_times, od_law_times, .func (PySem.W.fnOf "_law_times" "_law_times" (defArgs s_law_times) (defBody s_law_times) (defScope s_law_times) .none kV_law_times dc_law_times pm_law_times an_law_times cd_law_times ct_law_times), sl_law_times⟩)
    (c_law_times : PySem.W.codeIn K cd_law_times "_law_times" = true)
    (k_law_times : PySem.W.keepIn K (.ref f_law_times) = true)
    (a_law_undone : PySem.W.nsIn K mainGlobals "_law_undone" = some (some (.ref f_law_undone)))
    (l_law_undone : K.lookup f_law_undone = some ⟨oc_law_undone, od_law_undone, .func (PySem.W.fnOf "_law_undone" "_law_undone" (defArgs s_law_undone) (defBody s_law_undone) (defScope s_law_undone) .none kV_law_undone dc_law_undone pm_law_undone an_law_undone cd_law_undone ct_law_undone), sl_law_undone⟩)
    (c_law_undone : PySem.W.codeIn K cd_law_undone "_law_undone" = true)
    (k_law_undone : PySem.W.keepIn K (.ref f_law_undone) = true)
    (a_law_divided : PySem.W.nsIn K mainGlobals "_law_divided" = some (some (.ref f_law_divided)))
    (l_law_divided : K.lookup f_law_divided = some ⟨oc_law_divided, od_law_divided, .func (PySem.W.fnOf "_law_divided" "_law_divided" (defArgs s_law_divided) (defBody s_law_divided) (defScope s_law_divided) .none kV_law_divided dc_law_divided pm_law_divided an_law_divided cd_law_divided ct_law_divided), sl_law_divided⟩)
    (c_law_divided : PySem.W.codeIn K cd_law_divided "_law_divided" = true)
    (k_law_divided : PySem.W.keepIn K (.ref f_law_divided) = true)
    (a_law_shared : PySem.W.nsIn K mainGlobals "_law_shared" = some (some (.ref f_law_shared)))
    (l_law_shared : K.lookup f_law_shared = some ⟨oc_law_shared, od_law_shared, .func (PySem.W.fnOf "_law_shared" "_law_shared" (defArgs s_law_shared) (defBody s_law_shared) (defScope s_law_shared) .none kV_law_shared dc_law_shared pm_law_shared an_law_shared cd_law_shared ct_law_shared), sl_law_shared⟩)
    (c_law_shared : PySem.W.codeIn K cd_law_shared "_law_shared" = true)
    (k_law_shared : PySem.W.keepIn K (.ref f_law_shared) = true)
    (a_law_drawn_poly : PySem.W.nsIn K mainGlobals "_law_drawn_poly" = some (some (.ref f_law_drawn_poly)))
    (l_law_drawn_poly : K.lookup f_law_drawn_poly = some ⟨oc_law_drawn_poly, od_law_drawn_poly, .func (PySem.W.fnOf "_law_drawn_poly" "_law_drawn_poly" (defArgs s_law_drawn_poly) (defBody s_law_drawn_poly) (defScope s_law_drawn_poly) .none kV_law_drawn_poly dc_law_drawn_poly pm_law_drawn_poly an_law_drawn_poly cd_law_drawn_poly ct_law_drawn_poly), sl_law_drawn_poly⟩)
    (c_law_drawn_poly : PySem.W.codeIn K cd_law_drawn_poly "_law_drawn_poly" = true)
    (k_law_drawn_poly : PySem.W.keepIn K (.ref f_law_drawn_poly) = true)
    (a_law_is_due : PySem.W.nsIn K mainGlobals "_law_is_due" = some (some (.ref f_law_is_due)))
    (l_law_is_due : K.lookup f_law_is_due = some ⟨oc_law_is_due, od_law_is_due, .func (PySem.W.fnOf "_law_is_due" "_law_is_due" (defArgs s_law_is_due) (defBody s_law_is_due) (defScope s_law_is_due) .none kV_law_is_due dc_law_is_due pm_law_is_due an_law_is_due cd_law_is_due ct_law_is_due), sl_law_is_due⟩)
    (c_law_is_due : PySem.W.codeIn K cd_law_is_due "_law_is_due" = true)
    (k_law_is_due : PySem.W.keepIn K (.ref f_law_is_due) = true)
    (a_law_near : PySem.W.nsIn K mainGlobals "_law_near" = some (some (.ref f_law_near)))
    (l_law_near : K.lookup f_law_near = some ⟨oc_law_near, od_law_near, .func (PySem.W.fnOf "_law_near" "_law_near" (defArgs s_law_near) (defBody s_law_near) (defScope s_law_near) .none kV_law_near dc_law_near pm_law_near an_law_near cd_law_near ct_law_near), sl_law_near⟩)
    (c_law_near : PySem.W.codeIn K cd_law_near "_law_near" = true)
    (k_law_near : PySem.W.keepIn K (.ref f_law_near) = true)
    (a_law_right : PySem.W.nsIn K mainGlobals "_law_right" = some (some (.ref f_law_right)))
    (l_law_right : K.lookup f_law_right = some ⟨oc_law_right, od_law_right, .func (PySem.W.fnOf "_law_right" "_law_right" (defArgs s_law_right) (defBody s_law_right) (defScope s_law_right) .none kV_law_right dc_law_right pm_law_right an_law_right cd_law_right ct_law_right), sl_law_right⟩)
    (c_law_right : PySem.W.codeIn K cd_law_right "_law_right" = true)
    (k_law_right : PySem.W.keepIn K (.ref f_law_right) = true)
    (a_law : PySem.W.nsIn K mainGlobals "law" = some (some (.ref f_law)))
    (l_law : K.lookup f_law = some ⟨oc_law, od_law, .func (PySem.W.fnOf "law" "law" (defArgs s_law) (defBody s_law) (defScope s_law) .none kV_law dc_law pm_law an_law cd_law ct_law), sl_law⟩)
    (c_law : PySem.W.codeIn K cd_law "law" = true)
    (k_law : PySem.W.keepIn K (.ref f_law) = true)
    (z_abs : PySem.W.nsIn K mainGlobals "abs" = some none)
    (z_bool : PySem.W.nsIn K mainGlobals "bool" = some none)
    (z_enumerate : PySem.W.nsIn K mainGlobals "enumerate" = some none)
    (z_int : PySem.W.nsIn K mainGlobals "int" = some none)
    (z_isinstance : PySem.W.nsIn K mainGlobals "isinstance" = some none)
    (z_len : PySem.W.nsIn K mainGlobals "len" = some none)
    (z_list : PySem.W.nsIn K mainGlobals "list" = some none)
    (z_max : PySem.W.nsIn K mainGlobals "max" = some none)
    (z_min : PySem.W.nsIn K mainGlobals "min" = some none)
    (z_range : PySem.W.nsIn K mainGlobals "range" = some none)
    (z_reversed : PySem.W.nsIn K mainGlobals "reversed" = some none)
    (z_tuple : PySem.W.nsIn K mainGlobals "tuple" = some none)
    (z_zip : PySem.W.nsIn K mainGlobals "zip" = some none)
    (g_MAX_DEGREE : PySem.W.nsIn K mainGlobals "MAX_DEGREE" = some (some (.int 12 t_MAX_DEGREE)))
    (g_PRIMES : PySem.W.nsIn K mainGlobals "PRIMES" = some (some (.ref q_PRIMES)))
    (o_PRIMES : K.lookup q_PRIMES = some ⟨.type "tuple", none, .seq #[.int 2 t_PRIMES_0, .int 3 t_PRIMES_1, .int 5 t_PRIMES_2, .int 7 t_PRIMES_3] n_PRIMES, sl_PRIMES⟩)
    (xa_Refused : PySem.W.nsIn K mainGlobals "Refused" = some (some (.ref C_Refused)))
    (xi_Refused : PySem.W.excInitIn K C_Refused ErrR.bmB "ArithmeticError.__new__" = true)
    (xo_Refused : PySem.W.excOver K C_Refused ErrR.bmB = true)
    (xt_Refused : PySem.W.takerIn K C_Refused "reason" = some none)
    (xs_Refused : PySem.W.findIn K (.ref C_Refused) "__setattr__" = some (some (.builtin "object.__setattr__")))
    (xg_Refused : PySem.W.findIn K (.ref C_Refused) "__getattribute__" = some (some (.builtin "BaseException.__getattribute__")))
    (xh_Refused : PySem.W.findIn K (.ref C_Refused) "__getattr__" = some none)
    (xn_Refused : PySem.W.findIn K (.ref C_Refused) "reason" = some none)
    (xc_Refused : PySem.W.findIn K (.ref C_Refused) "__init__" = some (some (.ref I_Refused)))
    (xy_Refused : PySem.W.typeIn K (.ref I_Refused) = some (.type "function"))
    (xk_Refused : PySem.W.keepIn K (.ref C_Refused) = true)
    (xe_Refused : PySem.W.subIn K (.ref C_Refused) (.type "BaseException") = some true)
    (xz_Refused : PySem.W.typeIn K (.ref C_Refused) = some (.type "type"))
    (xd_Refused : PySem.W.hasDictIn K C_Refused = true)
    (xl_Refused : K.lookup I_Refused = some ⟨oc_Refused, od_Refused, .func (PySem.W.fnOf "__init__" "Refused.__init__" (ErrR.iA ⟨27, 17, 27, 21⟩ ⟨27, 23, 27, 29⟩) (ErrR.iB ⟨28, 8, 28, 12⟩ ⟨28, 8, 28, 19⟩ ⟨28, 22, 28, 28⟩ ⟨28, 8, 28, 28⟩) ErrR.iS .none .none dc_Refused pm_Refused an_Refused cd_Refused ct_Refused), sl_Refused⟩)
    (xf_Refused : PySem.W.codeIn K cd_Refused "Refused.__init__" = true)
    (xx_Refused_Refused : PySem.W.exmOne K (.ref C_Refused) (.ref C_Refused) = some true) :
    LawG l w K 7 63 "_law_script" mg fa h := by
  have e := hfa.symm.trans (PySem.W.mg_of X G a_law)
  cases e
  let ct : Nat → Option Addr := fun n => if n = 100 then some C_Refused else none
  have xis : ∀ m n C D, ct m = some C → ct n = some D → PySem.W.exmOne K (.ref C) (.ref D) = some (isA_ m n) := by
    intro m n C D hm hn
    have hm1 : (m = 100 ∧ C = C_Refused) := by
      have e : (if m = 100 then some C_Refused else none) = some C := hm
      revert e
      repeat' split
      all_goals intro e
      all_goals first | (cases e; done) | (cases e; simp_all; done)
    have hn1 : (n = 100 ∧ D = C_Refused) := by
      have e : (if n = 100 then some C_Refused else none) = some D := hn
      revert e
      repeat' split
      all_goals intro e
      all_goals first | (cases e; done) | (cases e; simp_all; done)
    rcases hm1 with ⟨rfl, rfl⟩ <;> rcases hn1 with ⟨rfl, rfl⟩
    · exact xx_Refused_Refused
  letI : Tbs := ⟨[], fun n =>  none, fun n =>  none, l.prog, w⟩
  have T : Txt K mg ct := ⟨⟨C_Refused, I_Refused, { gC := PySem.W.mg_of X G xa_Refused, ini := xi_Refused, ovr := xo_Refused, tak := xt_Refused, sa := xs_Refused, ga := xg_Refused, gg := xh_Refused, noN := xn_Refused, iC := xc_Refused, tC := xy_Refused, kC := xk_Refused, exC := xe_Refused, tyC := xz_Refused, hdC := xd_Refused, te := xx_Refused_Refused, fn := ⟨_, _, _, _, _, _, _, _, _, _, _, _, _, _, xl_Refused, xf_Refused⟩ }, by first | rfl | exact if_pos rfl | simp⟩,
    xis,
    PySem.W.mg_none_of X G z_abs,
    PySem.W.mg_none_of X G z_bool,
    PySem.W.mg_none_of X G z_enumerate,
    PySem.W.mg_none_of X G z_int,
    PySem.W.mg_none_of X G z_isinstance,
    PySem.W.mg_none_of X G z_len,
    PySem.W.mg_none_of X G z_list,
    PySem.W.mg_none_of X G z_max,
    PySem.W.mg_none_of X G z_min,
    PySem.W.mg_none_of X G z_range,
    PySem.W.mg_none_of X G z_reversed,
    PySem.W.mg_none_of X G z_tuple,
    PySem.W.mg_none_of X G z_zip,
    ⟨t_MAX_DEGREE, PySem.W.mg_of X G g_MAX_DEGREE⟩,
    ⟨q_PRIMES, PySem.W.mg_of X G g_PRIMES, ⟨⟨_, _, _, o_PRIMES, rfl, rfl, rfl, small_tup rfl (by exact (show ((4 : Nat) ≤ 16777216) from by decide)), vals_ints (.cons ⟨_, rfl⟩ (.cons ⟨_, rfl⟩ (.cons ⟨_, rfl⟩ (.cons ⟨_, rfl⟩ (.nil)))))⟩⟩⟩⟩
  refine ⟨PySem.W.fnOf "law" "law" (defArgs s_law) (defBody s_law) (defScope s_law) .none kV_law dc_law pm_law an_law cd_law ct_law, [], spD ⟨K, ct⟩ 1 m_law, (fun _ z => nomatch z), (fun _ z => nomatch z), (fun _ z => nomatch z), fun s v => .of_eq rfl, fun H a ns hl hH hS => sp_in (fun p hp => ?_) (law_true ns hl) hS, fun base _ _ TB => ?_⟩
  · exact nomatch hp
  have F_zero_row := fun_mk (st := s_zero_row) l_zero_row c_zero_row k_zero_row
  have O_zero_row := ok_zero_row (base := base) (ct := ct) F_zero_row T
  have D_zero_row : DefAt K mg base ct "zero_row" 1 1 ["width"] m_zero_row := ⟨f_zero_row, _, PySem.W.mg_of X G a_zero_row, k_zero_row, F_zero_row.binds (ps := ["width"]) (fun _ _ _ _ _ _ us hl => match us, hl with | [_], _ => rfl), O_zero_row⟩
  have F_row_sum := fun_mk (st := s_row_sum) l_row_sum c_row_sum k_row_sum
  have O_row_sum := ok_row_sum (base := base) (ct := ct) F_row_sum T
  have D_row_sum : DefAt K mg base ct "row_sum" 1 3 ["prime", "one", "other"] m_row_sum := ⟨f_row_sum, _, PySem.W.mg_of X G a_row_sum, k_row_sum, F_row_sum.binds (ps := ["prime", "one", "other"]) (fun _ _ _ _ _ _ us hl => match us, hl with | [_, _, _], _ => rfl), O_row_sum⟩
  have F_row_less := fun_mk (st := s_row_less) l_row_less c_row_less k_row_less
  have O_row_less := ok_row_less (base := base) (ct := ct) F_row_less T
  have D_row_less : DefAt K mg base ct "row_less" 1 3 ["prime", "one", "other"] m_row_less := ⟨f_row_less, _, PySem.W.mg_of X G a_row_less, k_row_less, F_row_less.binds (ps := ["prime", "one", "other"]) (fun _ _ _ _ _ _ us hl => match us, hl with | [_, _, _], _ => rfl), O_row_less⟩
  have F_row_times := fun_mk (st := s_row_times) l_row_times c_row_times k_row_times
  have O_row_times := ok_row_times (base := base) (ct := ct) F_row_times T
  have D_row_times : DefAt K mg base ct "row_times" 1 3 ["prime", "number", "row"] m_row_times := ⟨f_row_times, _, PySem.W.mg_of X G a_row_times, k_row_times, F_row_times.binds (ps := ["prime", "number", "row"]) (fun _ _ _ _ _ _ us hl => match us, hl with | [_, _, _], _ => rfl), O_row_times⟩
  have F_combined := fun_mk (st := s_combined) l_combined c_combined k_combined
  have O_combined := ok_combined (base := base) (ct := ct) F_combined T
  have D_combined : DefAt K mg base ct "combined" 1 4 ["prime", "width", "numbers", "rows"] m_combined := ⟨f_combined, _, PySem.W.mg_of X G a_combined, k_combined, F_combined.binds (ps := ["prime", "width", "numbers", "rows"]) (fun _ _ _ _ _ _ us hl => match us, hl with | [_, _, _, _], _ => rfl), O_combined⟩
  have F_is_integer := fun_mk (st := s_is_integer) l_is_integer c_is_integer k_is_integer
  have O_is_integer := ok_is_integer (base := base) (ct := ct) F_is_integer T
  have D_is_integer : DefAt K mg base ct "is_integer" 1 1 ["value"] m_is_integer := ⟨f_is_integer, _, PySem.W.mg_of X G a_is_integer, k_is_integer, F_is_integer.binds (ps := ["value"]) (fun _ _ _ _ _ _ us hl => match us, hl with | [_], _ => rfl), O_is_integer⟩
  have F_is_row := fun_mk (st := s_is_row) l_is_row c_is_row k_is_row
  have O_is_row := ok_is_row (base := base) (ct := ct) F_is_row T
  have D_is_row : DefAt K mg base ct "is_row" 1 3 ["prime", "width", "value"] m_is_row := ⟨f_is_row, _, PySem.W.mg_of X G a_is_row, k_is_row, F_is_row.binds (ps := ["prime", "width", "value"]) (fun _ _ _ _ _ _ us hl => match us, hl with | [_, _, _], _ => rfl), O_is_row⟩
  have F_check_prime := fun_mk (st := s_check_prime) l_check_prime c_check_prime k_check_prime
  have O_check_prime := ok_check_prime (base := base) (ct := ct) F_check_prime T D_is_integer
  have D_check_prime : DefAt K mg base ct "check_prime" 2 1 ["prime"] m_check_prime := ⟨f_check_prime, _, PySem.W.mg_of X G a_check_prime, k_check_prime, F_check_prime.binds (ps := ["prime"]) (fun _ _ _ _ _ _ us hl => match us, hl with | [_], _ => rfl), O_check_prime⟩
  have F_undone_number := fun_mk (st := s_undone_number) l_undone_number c_undone_number k_undone_number
  have O_undone_number := ok_undone_number (base := base) (ct := ct) F_undone_number T
  have D_undone_number : DefAt K mg base ct "undone_number" 1 2 ["prime", "number"] m_undone_number := ⟨f_undone_number, _, PySem.W.mg_of X G a_undone_number, k_undone_number, F_undone_number.binds (ps := ["prime", "number"]) (fun _ _ _ _ _ _ us hl => match us, hl with | [_, _], _ => rfl), O_undone_number⟩
  have F_is_some_poly := fun_mk (st := s_is_some_poly) l_is_some_poly c_is_some_poly k_is_some_poly
  have O_is_some_poly := ok_is_some_poly (base := base) (ct := ct) F_is_some_poly T D_is_row
  have D_is_some_poly : DefAt K mg base ct "is_some_poly" 2 3 ["prime", "value", "most"] m_is_some_poly := ⟨f_is_some_poly, _, PySem.W.mg_of X G a_is_some_poly, k_is_some_poly, F_is_some_poly.binds (ps := ["prime", "value", "most"]) (fun _ _ _ _ _ _ us hl => match us, hl with | [_, _, _], _ => rfl), O_is_some_poly⟩
  have F_trimmed := fun_mk (st := s_trimmed) l_trimmed c_trimmed k_trimmed
  have O_trimmed := ok_trimmed (base := base) (ct := ct) F_trimmed T
  have D_trimmed : DefAt K mg base ct "trimmed" 1 1 ["row"] m_trimmed := ⟨f_trimmed, _, PySem.W.mg_of X G a_trimmed, k_trimmed, F_trimmed.binds (ps := ["row"]) (fun _ _ _ _ _ _ us hl => match us, hl with | [_], _ => rfl), O_trimmed⟩
  have F_widened := fun_mk (st := s_widened) l_widened c_widened k_widened
  have O_widened := ok_widened (base := base) (ct := ct) F_widened T D_zero_row
  have D_widened : DefAt K mg base ct "widened" 2 2 ["poly", "width"] m_widened := ⟨f_widened, _, PySem.W.mg_of X G a_widened, k_widened, F_widened.binds (ps := ["poly", "width"]) (fun _ _ _ _ _ _ us hl => match us, hl with | [_, _], _ => rfl), O_widened⟩
  have F_sum_of_polys := fun_mk (st := s_sum_of_polys) l_sum_of_polys c_sum_of_polys k_sum_of_polys
  have O_sum_of_polys := ok_sum_of_polys (base := base) (ct := ct) F_sum_of_polys T D_row_sum D_trimmed D_widened
  have D_sum_of_polys : DefAt K mg base ct "sum_of_polys" 3 3 ["prime", "one", "other"] m_sum_of_polys := ⟨f_sum_of_polys, _, PySem.W.mg_of X G a_sum_of_polys, k_sum_of_polys, F_sum_of_polys.binds (ps := ["prime", "one", "other"]) (fun _ _ _ _ _ _ us hl => match us, hl with | [_, _, _], _ => rfl), O_sum_of_polys⟩
  have F_poly_less_other := fun_mk (st := s_poly_less_other) l_poly_less_other c_poly_less_other k_poly_less_other
  have O_poly_less_other := ok_poly_less_other (base := base) (ct := ct) F_poly_less_other T D_row_less D_trimmed D_widened
  have D_poly_less_other : DefAt K mg base ct "poly_less_other" 3 3 ["prime", "one", "other"] m_poly_less_other := ⟨f_poly_less_other, _, PySem.W.mg_of X G a_poly_less_other, k_poly_less_other, F_poly_less_other.binds (ps := ["prime", "one", "other"]) (fun _ _ _ _ _ _ us hl => match us, hl with | [_, _, _], _ => rfl), O_poly_less_other⟩
  have F_product_of_polys := fun_mk (st := s_product_of_polys) l_product_of_polys c_product_of_polys k_product_of_polys
  have O_product_of_polys := ok_product_of_polys (base := base) (ct := ct) F_product_of_polys T D_combined D_trimmed D_zero_row
  have D_product_of_polys : DefAt K mg base ct "product_of_polys" 2 3 ["prime", "one", "other"] m_product_of_polys := ⟨f_product_of_polys, _, PySem.W.mg_of X G a_product_of_polys, k_product_of_polys, F_product_of_polys.binds (ps := ["prime", "one", "other"]) (fun _ _ _ _ _ _ us hl => match us, hl with | [_, _, _], _ => rfl), O_product_of_polys⟩
  have F_parts_of_poly := fun_mk (st := s_parts_of_poly) l_parts_of_poly c_parts_of_poly k_parts_of_poly
  have O_parts_of_poly := ok_parts_of_poly (base := base) (ct := ct) F_parts_of_poly T D_trimmed D_undone_number
  have D_parts_of_poly : DefAt K mg base ct "parts_of_poly" 2 3 ["prime", "one", "other"] m_parts_of_poly := ⟨f_parts_of_poly, _, PySem.W.mg_of X G a_parts_of_poly, k_parts_of_poly, F_parts_of_poly.binds (ps := ["prime", "one", "other"]) (fun _ _ _ _ _ _ us hl => match us, hl with | [_, _, _], _ => rfl), O_parts_of_poly⟩
  have F_rest_of_poly := fun_mk (st := s_rest_of_poly) l_rest_of_poly c_rest_of_poly k_rest_of_poly
  have O_rest_of_poly := ok_rest_of_poly (base := base) (ct := ct) F_rest_of_poly T D_parts_of_poly
  have D_rest_of_poly : DefAt K mg base ct "rest_of_poly" 3 3 ["prime", "one", "other"] m_rest_of_poly := ⟨f_rest_of_poly, _, PySem.W.mg_of X G a_rest_of_poly, k_rest_of_poly, F_rest_of_poly.binds (ps := ["prime", "one", "other"]) (fun _ _ _ _ _ _ us hl => match us, hl with | [_, _, _], _ => rfl), O_rest_of_poly⟩
  have F_made_monic := fun_mk (st := s_made_monic) l_made_monic c_made_monic k_made_monic
  have O_made_monic := ok_made_monic (base := base) (ct := ct) F_made_monic T D_row_times D_undone_number
  have D_made_monic : DefAt K mg base ct "made_monic" 2 2 ["prime", "poly"] m_made_monic := ⟨f_made_monic, _, PySem.W.mg_of X G a_made_monic, k_made_monic, F_made_monic.binds (ps := ["prime", "poly"]) (fun _ _ _ _ _ _ us hl => match us, hl with | [_, _], _ => rfl), O_made_monic⟩
  have F_shared_poly := fun_mk (st := s_shared_poly) l_shared_poly c_shared_poly k_shared_poly
  have O_shared_poly := ok_shared_poly (base := base) (ct := ct) F_shared_poly T D_made_monic D_rest_of_poly
  have D_shared_poly : DefAt K mg base ct "shared_poly" 4 3 ["prime", "one", "other"] m_shared_poly := ⟨f_shared_poly, _, PySem.W.mg_of X G a_shared_poly, k_shared_poly, F_shared_poly.binds (ps := ["prime", "one", "other"]) (fun _ _ _ _ _ _ us hl => match us, hl with | [_, _, _], _ => rfl), O_shared_poly⟩
  have F_check_poly := fun_mk (st := s_check_poly) l_check_poly c_check_poly k_check_poly
  have O_check_poly := ok_check_poly (base := base) (ct := ct) F_check_poly T D_is_some_poly
  have D_check_poly : DefAt K mg base ct "check_poly" 3 2 ["prime", "poly"] m_check_poly := ⟨f_check_poly, _, PySem.W.mg_of X G a_check_poly, k_check_poly, F_check_poly.binds (ps := ["prime", "poly"]) (fun _ _ _ _ _ _ us hl => match us, hl with | [_, _], _ => rfl), O_check_poly⟩
  have F_check_polys := fun_mk (st := s_check_polys) l_check_polys c_check_polys k_check_polys
  have O_check_polys := ok_check_polys (base := base) (ct := ct) F_check_polys T D_check_poly D_check_prime
  have D_check_polys : DefAt K mg base ct "check_polys" 4 3 ["prime", "one", "other"] m_check_polys := ⟨f_check_polys, _, PySem.W.mg_of X G a_check_polys, k_check_polys, F_check_polys.binds (ps := ["prime", "one", "other"]) (fun _ _ _ _ _ _ us hl => match us, hl with | [_, _, _], _ => rfl), O_check_polys⟩
  have F_is_poly := fun_mk (st := s_is_poly) l_is_poly c_is_poly k_is_poly
  have O_is_poly := ok_is_poly (base := base) (ct := ct) F_is_poly T D_check_prime D_is_some_poly
  have D_is_poly : DefAt K mg base ct "is_poly" 3 2 ["prime", "value"] m_is_poly := ⟨f_is_poly, _, PySem.W.mg_of X G a_is_poly, k_is_poly, F_is_poly.binds (ps := ["prime", "value"]) (fun _ _ _ _ _ _ us hl => match us, hl with | [_, _], _ => rfl), O_is_poly⟩
  have F_poly_sum := fun_mk (st := s_poly_sum) l_poly_sum c_poly_sum k_poly_sum
  have O_poly_sum := ok_poly_sum (base := base) (ct := ct) F_poly_sum T D_check_polys D_sum_of_polys
  have D_poly_sum : DefAt K mg base ct "poly_sum" 5 3 ["prime", "one", "other"] m_poly_sum := ⟨f_poly_sum, _, PySem.W.mg_of X G a_poly_sum, k_poly_sum, F_poly_sum.binds (ps := ["prime", "one", "other"]) (fun _ _ _ _ _ _ us hl => match us, hl with | [_, _, _], _ => rfl), O_poly_sum⟩
  have F_poly_less := fun_mk (st := s_poly_less) l_poly_less c_poly_less k_poly_less
  have O_poly_less := ok_poly_less (base := base) (ct := ct) F_poly_less T D_check_polys D_poly_less_other
  have D_poly_less : DefAt K mg base ct "poly_less" 5 3 ["prime", "one", "other"] m_poly_less := ⟨f_poly_less, _, PySem.W.mg_of X G a_poly_less, k_poly_less, F_poly_less.binds (ps := ["prime", "one", "other"]) (fun _ _ _ _ _ _ us hl => match us, hl with | [_, _, _], _ => rfl), O_poly_less⟩
  have F_poly_product := fun_mk (st := s_poly_product) l_poly_product c_poly_product k_poly_product
  have O_poly_product := ok_poly_product (base := base) (ct := ct) F_poly_product T D_check_polys D_product_of_polys
  have D_poly_product : DefAt K mg base ct "poly_product" 5 3 ["prime", "one", "other"] m_poly_product := ⟨f_poly_product, _, PySem.W.mg_of X G a_poly_product, k_poly_product, F_poly_product.binds (ps := ["prime", "one", "other"]) (fun _ _ _ _ _ _ us hl => match us, hl with | [_, _, _], _ => rfl), O_poly_product⟩
  have F_poly_parts := fun_mk (st := s_poly_parts) l_poly_parts c_poly_parts k_poly_parts
  have O_poly_parts := ok_poly_parts (base := base) (ct := ct) F_poly_parts T D_check_polys D_parts_of_poly
  have D_poly_parts : DefAt K mg base ct "poly_parts" 5 3 ["prime", "one", "other"] m_poly_parts := ⟨f_poly_parts, _, PySem.W.mg_of X G a_poly_parts, k_poly_parts, F_poly_parts.binds (ps := ["prime", "one", "other"]) (fun _ _ _ _ _ _ us hl => match us, hl with | [_, _, _], _ => rfl), O_poly_parts⟩
  have F_poly_shared := fun_mk (st := s_poly_shared) l_poly_shared c_poly_shared k_poly_shared
  have O_poly_shared := ok_poly_shared (base := base) (ct := ct) F_poly_shared T D_check_polys D_shared_poly
  have D_poly_shared : DefAt K mg base ct "poly_shared" 5 3 ["prime", "one", "other"] m_poly_shared := ⟨f_poly_shared, _, PySem.W.mg_of X G a_poly_shared, k_poly_shared, F_poly_shared.binds (ps := ["prime", "one", "other"]) (fun _ _ _ _ _ _ us hl => match us, hl with | [_, _, _], _ => rfl), O_poly_shared⟩
  have F_law_pot := fun_mk (st := s_law_pot) l_law_pot c_law_pot k_law_pot
  have O_law_pot := ok_law_pot (base := base) (ct := ct) F_law_pot T
  have D_law_pot : DefAtF K mg base ct "_law_pot" 1 2 ["_law_script", "_law_spot"] m_law_pot := ⟨f_law_pot, _, PySem.W.mg_of X G a_law_pot, k_law_pot, F_law_pot.binds (ps := ["_law_script", "_law_spot"]) (fun _ _ _ _ _ _ us hl => match us, hl with | [_, _], _ => rfl), O_law_pot⟩
  have F_law_ladle := fun_mk (st := s_law_ladle) l_law_ladle c_law_ladle k_law_ladle
  have O_law_ladle := ok_law_ladle (base := base) (ct := ct) F_law_ladle T
  have D_law_ladle : DefAt K mg base ct "_law_ladle" 1 2 ["_law_pot_here", "_law_total"] m_law_ladle := ⟨f_law_ladle, _, PySem.W.mg_of X G a_law_ladle, k_law_ladle, F_law_ladle.binds (ps := ["_law_pot_here", "_law_total"]) (fun _ _ _ _ _ _ us hl => match us, hl with | [_, _], _ => rfl), O_law_ladle⟩
  have F_law_pick := fun_mk (st := s_law_pick) l_law_pick c_law_pick k_law_pick
  have O_law_pick := ok_law_pick (base := base) (ct := ct) F_law_pick T D_law_ladle
  have D_law_pick : DefAt K mg base ct "_law_pick" 2 2 ["_law_pot_here", "_law_items"] m_law_pick := ⟨f_law_pick, _, PySem.W.mg_of X G a_law_pick, k_law_pick, F_law_pick.binds (ps := ["_law_pot_here", "_law_items"]) (fun _ _ _ _ _ _ us hl => match us, hl with | [_, _], _ => rfl), O_law_pick⟩
  have F_law_trimmed := fun_mk (st := s_law_trimmed) l_law_trimmed c_law_trimmed k_law_trimmed
  have O_law_trimmed := ok_law_trimmed (base := base) (ct := ct) F_law_trimmed T
  have D_law_trimmed : DefAt K mg base ct "_law_trimmed" 1 1 ["_law_numbers"] m_law_trimmed := ⟨f_law_trimmed, _, PySem.W.mg_of X G a_law_trimmed, k_law_trimmed, F_law_trimmed.binds (ps := ["_law_numbers"]) (fun _ _ _ _ _ _ us hl => match us, hl with | [_], _ => rfl), O_law_trimmed⟩
  have F_law_plus := fun_mk (st := s_law_plus) l_law_plus c_law_plus k_law_plus
  have O_law_plus := ok_law_plus (base := base) (ct := ct) F_law_plus T D_law_trimmed
  have D_law_plus : DefAt K mg base ct "_law_plus" 2 4 ["_law_prime", "_law_one", "_law_other", "_law_factor"] m_law_plus := ⟨f_law_plus, _, PySem.W.mg_of X G a_law_plus, k_law_plus, F_law_plus.binds (ps := ["_law_prime", "_law_one", "_law_other", "_law_factor"]) (fun _ _ _ _ _ _ us hl => match us, hl with | [_, _, _, _], _ => rfl), O_law_plus⟩
  have F_law_times := fun_mk (st := s_law_times) l_law_times c_law_times k_law_times
  have O_law_times := ok_law_times (base := base) (ct := ct) F_law_times T D_law_trimmed
  have D_law_times : DefAt K mg base ct "_law_times" 2 3 ["_law_prime", "_law_one", "_law_other"] m_law_times := ⟨f_law_times, _, PySem.W.mg_of X G a_law_times, k_law_times, F_law_times.binds (ps := ["_law_prime", "_law_one", "_law_other"]) (fun _ _ _ _ _ _ us hl => match us, hl with | [_, _, _], _ => rfl), O_law_times⟩
  have F_law_undone := fun_mk (st := s_law_undone) l_law_undone c_law_undone k_law_undone
  have O_law_undone := ok_law_undone (base := base) (ct := ct) F_law_undone T
  have D_law_undone : DefAt K mg base ct "_law_undone" 1 2 ["_law_prime", "_law_number"] m_law_undone := ⟨f_law_undone, _, PySem.W.mg_of X G a_law_undone, k_law_undone, F_law_undone.binds (ps := ["_law_prime", "_law_number"]) (fun _ _ _ _ _ _ us hl => match us, hl with | [_, _], _ => rfl), O_law_undone⟩
  have F_law_divided := fun_mk (st := s_law_divided) l_law_divided c_law_divided k_law_divided
  have O_law_divided := ok_law_divided (base := base) (ct := ct) F_law_divided T D_law_plus D_law_trimmed D_law_undone
  have D_law_divided : DefAt K mg base ct "_law_divided" 3 3 ["_law_prime", "_law_one", "_law_other"] m_law_divided := ⟨f_law_divided, _, PySem.W.mg_of X G a_law_divided, k_law_divided, F_law_divided.binds (ps := ["_law_prime", "_law_one", "_law_other"]) (fun _ _ _ _ _ _ us hl => match us, hl with | [_, _, _], _ => rfl), O_law_divided⟩
  have F_law_shared := fun_mk (st := s_law_shared) l_law_shared c_law_shared k_law_shared
  have O_law_shared := ok_law_shared (base := base) (ct := ct) F_law_shared T D_law_divided D_law_undone
  have D_law_shared : DefAt K mg base ct "_law_shared" 4 3 ["_law_prime", "_law_one", "_law_other"] m_law_shared := ⟨f_law_shared, _, PySem.W.mg_of X G a_law_shared, k_law_shared, F_law_shared.binds (ps := ["_law_prime", "_law_one", "_law_other"]) (fun _ _ _ _ _ _ us hl => match us, hl with | [_, _, _], _ => rfl), O_law_shared⟩
  have F_law_drawn_poly := fun_mk (st := s_law_drawn_poly) l_law_drawn_poly c_law_drawn_poly k_law_drawn_poly
  have O_law_drawn_poly := ok_law_drawn_poly (base := base) (ct := ct) F_law_drawn_poly T D_law_ladle D_law_trimmed
  have D_law_drawn_poly : DefAt K mg base ct "_law_drawn_poly" 2 3 ["_law_pot_here", "_law_prime", "_law_most"] m_law_drawn_poly := ⟨f_law_drawn_poly, _, PySem.W.mg_of X G a_law_drawn_poly, k_law_drawn_poly, F_law_drawn_poly.binds (ps := ["_law_pot_here", "_law_prime", "_law_most"]) (fun _ _ _ _ _ _ us hl => match us, hl with | [_, _, _], _ => rfl), O_law_drawn_poly⟩
  have F_law_is_due := fun_mk (st := s_law_is_due) l_law_is_due c_law_is_due k_law_is_due
  have O_law_is_due := ok_law_is_due (base := base) (ct := ct) F_law_is_due T
  have D_law_is_due : DefAt K mg base ct "_law_is_due" 1 2 ["_law_prime", "_law_value"] m_law_is_due := ⟨f_law_is_due, _, PySem.W.mg_of X G a_law_is_due, k_law_is_due, F_law_is_due.binds (ps := ["_law_prime", "_law_value"]) (fun _ _ _ _ _ _ us hl => match us, hl with | [_, _], _ => rfl), O_law_is_due⟩
  have F_law_near := fun_mk (st := s_law_near) l_law_near c_law_near k_law_near
  have O_law_near := ok_law_near (base := base) (ct := ct) F_law_near T D_law_ladle
  have D_law_near : DefAt K mg base ct "_law_near" 2 3 ["_law_pot_here", "_law_prime", "_law_poly"] m_law_near := ⟨f_law_near, _, PySem.W.mg_of X G a_law_near, k_law_near, F_law_near.binds (ps := ["_law_pot_here", "_law_prime", "_law_poly"]) (fun _ _ _ _ _ _ us hl => match us, hl with | [_, _, _], _ => rfl), O_law_near⟩
  have F_law_right := fun_mk (st := s_law_right) l_law_right c_law_right k_law_right
  have O_law_right := ok_law_right (base := base) (ct := ct) F_law_right T D_law_divided D_law_drawn_poly D_law_is_due D_law_near D_law_pick D_law_plus D_law_shared D_law_times D_is_poly D_poly_less D_poly_parts D_poly_product D_poly_shared D_poly_sum
  have D_law_right : DefAt K mg base ct "_law_right" 6 1 ["_law_pot_here"] m_law_right := ⟨f_law_right, _, PySem.W.mg_of X G a_law_right, k_law_right, F_law_right.binds (ps := ["_law_pot_here"]) (fun _ _ _ _ _ _ us hl => match us, hl with | [_], _ => rfl), O_law_right⟩
  have F_law := fun_mk (st := s_law) l_law c_law k_law
  have O_law := ok_law (base := base) (ct := ct) F_law T D_law_pot D_law_right D_poly_less D_poly_parts D_poly_product D_poly_shared D_poly_sum
  exact FnG.of O_law
end
end Law
open PySem PySem.W PyProof.Rows in
set_option maxRecDepth 100000 in
set_option maxHeartbeats 0 in
theorem PySem.Challenge.cw_tablerings_k04_whole_polynomials_reckone_holds : PySem.Challenge.rw_tablerings_k04_whole_polynomials_reckone.Holds := by
  w_on; o_law; k_head; (case hw => w_witness2)
  k_fill
  refine DL.walk_ofG (l := PySem.Challenge.rw_tablerings_k04_whole_polynomials_reckone) (n := 63) (k := 7) (x := "_law_script") rfl (by decide) rfl ⟨rfl, by decide, by decide⟩ (fun w h Y => PySem.W.kIn_of Y) ?F
  case F =>
    intro w mg fa h Y KX G hmg
    refine' Law.all_mk KX G hmg ?a_zero_row ?l_zero_row ?c_zero_row ?k_zero_row ?a_row_sum ?l_row_sum ?c_row_sum ?k_row_sum ?a_row_less ?l_row_less ?c_row_less ?k_row_less ?a_row_times ?l_row_times ?c_row_times ?k_row_times ?a_combined ?l_combined ?c_combined ?k_combined ?a_is_integer ?l_is_integer ?c_is_integer ?k_is_integer ?a_is_row ?l_is_row ?c_is_row ?k_is_row ?a_check_prime ?l_check_prime ?c_check_prime ?k_check_prime ?a_undone_number ?l_undone_number ?c_undone_number ?k_undone_number ?a_is_some_poly ?l_is_some_poly ?c_is_some_poly ?k_is_some_poly ?a_trimmed ?l_trimmed ?c_trimmed ?k_trimmed ?a_widened ?l_widened ?c_widened ?k_widened ?a_sum_of_polys ?l_sum_of_polys ?c_sum_of_polys ?k_sum_of_polys ?a_poly_less_other ?l_poly_less_other ?c_poly_less_other ?k_poly_less_other ?a_product_of_polys ?l_product_of_polys ?c_product_of_polys ?k_product_of_polys ?a_parts_of_poly ?l_parts_of_poly ?c_parts_of_poly ?k_parts_of_poly ?a_rest_of_poly ?l_rest_of_poly ?c_rest_of_poly ?k_rest_of_poly ?a_made_monic ?l_made_monic ?c_made_monic ?k_made_monic ?a_shared_poly ?l_shared_poly ?c_shared_poly ?k_shared_poly ?a_check_poly ?l_check_poly ?c_check_poly ?k_check_poly ?a_check_polys ?l_check_polys ?c_check_polys ?k_check_polys ?a_is_poly ?l_is_poly ?c_is_poly ?k_is_poly ?a_poly_sum ?l_poly_sum ?c_poly_sum ?k_poly_sum ?a_poly_less ?l_poly_less ?c_poly_less ?k_poly_less ?a_poly_product ?l_poly_product ?c_poly_product ?k_poly_product ?a_poly_parts ?l_poly_parts ?c_poly_parts ?k_poly_parts ?a_poly_shared ?l_poly_shared ?c_poly_shared ?k_poly_shared ?a_law_pot ?l_law_pot ?c_law_pot ?k_law_pot ?a_law_ladle ?l_law_ladle ?c_law_ladle ?k_law_ladle ?a_law_pick ?l_law_pick ?c_law_pick ?k_law_pick ?a_law_trimmed ?l_law_trimmed ?c_law_trimmed ?k_law_trimmed ?a_law_plus ?l_law_plus ?c_law_plus ?k_law_plus ?a_law_times ?l_law_times ?c_law_times ?k_law_times ?a_law_undone ?l_law_undone ?c_law_undone ?k_law_undone ?a_law_divided ?l_law_divided ?c_law_divided ?k_law_divided ?a_law_shared ?l_law_shared ?c_law_shared ?k_law_shared ?a_law_drawn_poly ?l_law_drawn_poly ?c_law_drawn_poly ?k_law_drawn_poly ?a_law_is_due ?l_law_is_due ?c_law_is_due ?k_law_is_due ?a_law_near ?l_law_near ?c_law_near ?k_law_near ?a_law_right ?l_law_right ?c_law_right ?k_law_right ?a_law ?l_law ?c_law ?k_law ?z_abs ?z_bool ?z_enumerate ?z_int ?z_isinstance ?z_len ?z_list ?z_max ?z_min ?z_range ?z_reversed ?z_tuple ?z_zip ?g_MAX_DEGREE ?g_PRIMES ?o_PRIMES ?xa_Refused ?xi_Refused ?xo_Refused ?xt_Refused ?xs_Refused ?xg_Refused ?xh_Refused ?xn_Refused ?xc_Refused ?xy_Refused ?xk_Refused ?xe_Refused ?xz_Refused ?xd_Refused ?xl_Refused ?xf_Refused ?xx_Refused_Refused
    (case a_zero_row => k_is)
    (case l_zero_row => k_is)
    (case c_zero_row => k_is)
    (case k_zero_row => k_is)
    (case a_row_sum => k_is)
    (case l_row_sum => k_is)
    (case c_row_sum => k_is)
    (case k_row_sum => k_is)
    (case a_row_less => k_is)
    (case l_row_less => k_is)
    (case c_row_less => k_is)
    (case k_row_less => k_is)
    (case a_row_times => k_is)
    (case l_row_times => k_is)
    (case c_row_times => k_is)
    (case k_row_times => k_is)
    (case a_combined => k_is)
    (case l_combined => k_is)
    (case c_combined => k_is)
    (case k_combined => k_is)
    (case a_is_integer => k_is)
    (case l_is_integer => k_is)
    (case c_is_integer => k_is)
    (case k_is_integer => k_is)
    (case a_is_row => k_is)
    (case l_is_row => k_is)
    (case c_is_row => k_is)
    (case k_is_row => k_is)
    (case a_check_prime => k_is)
    (case l_check_prime => k_is)
    (case c_check_prime => k_is)
    (case k_check_prime => k_is)
    (case a_undone_number => k_is)
    (case l_undone_number => k_is)
    (case c_undone_number => k_is)
    (case k_undone_number => k_is)
    (case a_is_some_poly => k_is)
    (case l_is_some_poly => k_is)
    (case c_is_some_poly => k_is)
    (case k_is_some_poly => k_is)
    (case a_trimmed => k_is)
    (case l_trimmed => k_is)
    (case c_trimmed => k_is)
    (case k_trimmed => k_is)
    (case a_widened => k_is)
    (case l_widened => k_is)
    (case c_widened => k_is)
    (case k_widened => k_is)
    (case a_sum_of_polys => k_is)
    (case l_sum_of_polys => k_is)
    (case c_sum_of_polys => k_is)
    (case k_sum_of_polys => k_is)
    (case a_poly_less_other => k_is)
    (case l_poly_less_other => k_is)
    (case c_poly_less_other => k_is)
    (case k_poly_less_other => k_is)
    (case a_product_of_polys => k_is)
    (case l_product_of_polys => k_is)
    (case c_product_of_polys => k_is)
    (case k_product_of_polys => k_is)
    (case a_parts_of_poly => k_is)
    (case l_parts_of_poly => k_is)
    (case c_parts_of_poly => k_is)
    (case k_parts_of_poly => k_is)
    (case a_rest_of_poly => k_is)
    (case l_rest_of_poly => k_is)
    (case c_rest_of_poly => k_is)
    (case k_rest_of_poly => k_is)
    (case a_made_monic => k_is)
    (case l_made_monic => k_is)
    (case c_made_monic => k_is)
    (case k_made_monic => k_is)
    (case a_shared_poly => k_is)
    (case l_shared_poly => k_is)
    (case c_shared_poly => k_is)
    (case k_shared_poly => k_is)
    (case a_check_poly => k_is)
    (case l_check_poly => k_is)
    (case c_check_poly => k_is)
    (case k_check_poly => k_is)
    (case a_check_polys => k_is)
    (case l_check_polys => k_is)
    (case c_check_polys => k_is)
    (case k_check_polys => k_is)
    (case a_is_poly => k_is)
    (case l_is_poly => k_is)
    (case c_is_poly => k_is)
    (case k_is_poly => k_is)
    (case a_poly_sum => k_is)
    (case l_poly_sum => k_is)
    (case c_poly_sum => k_is)
    (case k_poly_sum => k_is)
    (case a_poly_less => k_is)
    (case l_poly_less => k_is)
    (case c_poly_less => k_is)
    (case k_poly_less => k_is)
    (case a_poly_product => k_is)
    (case l_poly_product => k_is)
    (case c_poly_product => k_is)
    (case k_poly_product => k_is)
    (case a_poly_parts => k_is)
    (case l_poly_parts => k_is)
    (case c_poly_parts => k_is)
    (case k_poly_parts => k_is)
    (case a_poly_shared => k_is)
    (case l_poly_shared => k_is)
    (case c_poly_shared => k_is)
    (case k_poly_shared => k_is)
    (case a_law_pot => k_is)
    (case l_law_pot => k_is)
    (case c_law_pot => k_is)
    (case k_law_pot => k_is)
    (case a_law_ladle => k_is)
    (case l_law_ladle => k_is)
    (case c_law_ladle => k_is)
    (case k_law_ladle => k_is)
    (case a_law_pick => k_is)
    (case l_law_pick => k_is)
    (case c_law_pick => k_is)
    (case k_law_pick => k_is)
    (case a_law_trimmed => k_is)
    (case l_law_trimmed => k_is)
    (case c_law_trimmed => k_is)
    (case k_law_trimmed => k_is)
    (case a_law_plus => k_is)
    (case l_law_plus => k_is)
    (case c_law_plus => k_is)
    (case k_law_plus => k_is)
    (case a_law_times => k_is)
    (case l_law_times => k_is)
    (case c_law_times => k_is)
    (case k_law_times => k_is)
    (case a_law_undone => k_is)
    (case l_law_undone => k_is)
    (case c_law_undone => k_is)
    (case k_law_undone => k_is)
    (case a_law_divided => k_is)
    (case l_law_divided => k_is)
    (case c_law_divided => k_is)
    (case k_law_divided => k_is)
    (case a_law_shared => k_is)
    (case l_law_shared => k_is)
    (case c_law_shared => k_is)
    (case k_law_shared => k_is)
    (case a_law_drawn_poly => k_is)
    (case l_law_drawn_poly => k_is)
    (case c_law_drawn_poly => k_is)
    (case k_law_drawn_poly => k_is)
    (case a_law_is_due => k_is)
    (case l_law_is_due => k_is)
    (case c_law_is_due => k_is)
    (case k_law_is_due => k_is)
    (case a_law_near => k_is)
    (case l_law_near => k_is)
    (case c_law_near => k_is)
    (case k_law_near => k_is)
    (case a_law_right => k_is)
    (case l_law_right => k_is)
    (case c_law_right => k_is)
    (case k_law_right => k_is)
    (case a_law => k_is)
    (case l_law => k_is)
    (case c_law => k_is)
    (case k_law => k_is)
    (case z_abs => k_is)
    (case z_bool => k_is)
    (case z_enumerate => k_is)
    (case z_int => k_is)
    (case z_isinstance => k_is)
    (case z_len => k_is)
    (case z_list => k_is)
    (case z_max => k_is)
    (case z_min => k_is)
    (case z_range => k_is)
    (case z_reversed => k_is)
    (case z_tuple => k_is)
    (case z_zip => k_is)
    (case g_MAX_DEGREE => k_is)
    (case g_PRIMES => k_is)
    (case o_PRIMES => k_is)
    (case xa_Refused => k_is)
    (case xi_Refused => first | kernel_rfl | decide +kernel)
    (case xo_Refused => first | kernel_rfl | decide +kernel)
    (case xt_Refused => k_is)
    (case xs_Refused => k_is)
    (case xg_Refused => k_is)
    (case xh_Refused => k_is)
    (case xn_Refused => k_is)
    (case xc_Refused => k_is)
    (case xy_Refused => k_is)
    (case xk_Refused => k_is)
    (case xe_Refused => k_is)
    (case xz_Refused => k_is)
    (case xd_Refused => k_is)
    (case xl_Refused => k_is)
    (case xf_Refused => k_is)
    (case xx_Refused_Refused => first | kernel_rfl | decide +kernel)

