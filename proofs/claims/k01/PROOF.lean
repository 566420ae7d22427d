import PyProof.Rows.All
import Wide.All
import OpenK.AllK
import Wide.FinOn
import HandS.ForMost
import HandS.ForExc
import HandS.TupAny
import HandS.TupMul
import HandS.IsInst
import HandS.Wide
import HandS.Flow
import HandS.ExcOwn
import HandS.WordsExc
import HandS.Walk
import HandS.Zip
import KE.GoesEnum
import KE.GoesMore
import HandS.RevRange
import HandS.Dict
import HandS.DictComp
import HandS.SortKw
import HandS.More
import HandS.Strs
import HandS.Style
import HandS.TupSets
import PySem.Challenge.RW_tablerings_k01_whole_sums_and_meets_of_s
set_option Elab.async false
set_option linter.all false
namespace PM
def co (l : List Int) (i : Nat) : Int := l.getD i 0
@[simp] theorem co_nil (i : Nat) : co [] i = 0 := by simp [co]
@[simp] theorem co_zero (a : Int) (l : List Int) : co (a :: l) 0 = a := by simp [co]
@[simp] theorem co_succ (a : Int) (l : List Int) (i : Nat) : co (a :: l) (i + 1) = co l i := by simp [co]
theorem co_ge {l : List Int} {i : Nat} (h : l.length ≤ i) : co l i = 0 := by
  unfold co; rw [List.getD_eq_getElem?_getD, List.getElem?_eq_none h]; rfl
theorem co_app (l r : List Int) (i : Nat) : co (l ++ r) i = if i < l.length then co l i else co r (i - l.length) := by
  unfold co
  by_cases h : i < l.length
  · rw [if_pos h, List.getD_eq_getElem?_getD, List.getD_eq_getElem?_getD, List.getElem?_append_left h]
  · rw [if_neg h, List.getD_eq_getElem?_getD, List.getD_eq_getElem?_getD, List.getElem?_append_right (by omega)]
theorem co_rep0 (n i : Nat) : co (List.replicate n 0) i = 0 := by
  unfold co
  rw [List.getD_eq_getElem?_getD, List.getElem?_replicate]
  by_cases h : i < n
  · rw [if_pos h]; rfl
  · rw [if_neg h]; rfl
theorem co_set (l : List Int) (n : Nat) (c : Int) (i : Nat) (h : n < l.length) : co (l.set n c) i = if i = n then c else co l i := by
  unfold co
  rw [List.getD_eq_getElem?_getD, List.getD_eq_getElem?_getD, List.getElem?_set]
  by_cases e : n = i
  · rw [if_pos e, if_pos h, if_pos e.symm]; rfl
  · rw [if_neg e, if_neg (fun q => e q.symm)]
theorem co_take (l : List Int) (n i : Nat) : co (l.take n) i = if i < n then co l i else 0 := by
  unfold co
  rw [List.getD_eq_getElem?_getD, List.getD_eq_getElem?_getD, List.getElem?_take]
  by_cases e : i < n
  · rw [if_pos e, if_pos e]
  · rw [if_neg e, if_neg e]; rfl
theorem co_map (f : Int → Int) (h : f 0 = 0) (l : List Int) (i : Nat) : co (l.map f) i = f (co l i) := by
  unfold co
  rw [List.getD_eq_getElem?_getD, List.getD_eq_getElem?_getD, List.getElem?_map]
  cases l[i]? with
  | none => exact h.symm
  | some x => rfl
theorem co_zipWith (f : Int → Int → Int) (h : f 0 0 = 0) : ∀ (l r : List Int) (i : Nat), l.length = r.length → co (List.zipWith f l r) i = f (co l i) (co r i)
  | [], [], i, _ => by simp [h]
  | a :: l, b :: r, 0, _ => by simp
  | a :: l, b :: r, i + 1, e => by
    simp only [List.zipWith_cons_cons, co_succ]
    exact co_zipWith f h l r i (by simpa using e)
theorem co_mem {l : List Int} {i : Nat} (h : i < l.length) : co l i ∈ l := by
  unfold co; rw [List.getD_eq_getElem?_getD, List.getElem?_eq_getElem h]; exact List.getElem_mem h
theorem mem_co {l : List Int} {x : Int} (h : x ∈ l) : ∃ i, i < l.length ∧ co l i = x := by
  obtain ⟨i, hi, e⟩ := List.getElem_of_mem h
  exact ⟨i, hi, by unfold co; rw [List.getD_eq_getElem?_getD, List.getElem?_eq_getElem hi]; exact e⟩
/-! trim -/
def tcons (a : Int) (t : List Int) : List Int := if t = [] ∧ a = 0 then [] else a :: t
def trim : List Int → List Int
  | [] => []
  | a :: r => tcons a (trim r)
theorem co_tcons (a : Int) (t : List Int) (i : Nat) : co (tcons a t) i = co (a :: t) i := by
  unfold tcons
  by_cases h : t = [] ∧ a = 0
  · rw [if_pos h, h.1, h.2]; cases i <;> simp
  · rw [if_neg h]
theorem co_trim : ∀ (l : List Int) (i : Nat), co (trim l) i = co l i
  | [], i => rfl
  | a :: r, 0 => by rw [trim, co_tcons]; simp
  | a :: r, i + 1 => by rw [trim, co_tcons, co_succ, co_succ, co_trim r i]
theorem trim_zero : ∀ (l : List Int), (∀ i, co l i = 0) → trim l = []
  | [], _ => rfl
  | a :: r, h => by
    rw [trim, trim_zero r (fun i => by simpa using h (i + 1))]
    unfold tcons
    rw [if_pos ⟨rfl, by simpa using h 0⟩]
theorem trim_ext : ∀ (l r : List Int), (∀ i, co l i = co r i) → trim l = trim r
  | [], r, h => by rw [trim_zero r (fun i => by rw [← h i]; simp)]; rfl
  | a :: l, [], h => by rw [trim_zero (a :: l) (fun i => by rw [h i]; simp)]; rfl
  | a :: l, b :: r, h => by
    have h0 : a = b := by simpa using h 0
    rw [trim, trim, h0, trim_ext l r (fun i => by simpa using h (i + 1))]
theorem trim_trim (l : List Int) : trim (trim l) = trim l := trim_ext _ _ (co_trim l)
theorem tcons_len (a : Int) (t : List Int) : (tcons a t).length ≤ t.length + 1 := by
  unfold tcons; split <;> simp
theorem trim_len : ∀ l : List Int, (trim l).length ≤ l.length
  | [] => Nat.le_refl _
  | a :: r => by
    have := trim_len r
    have := tcons_len a (trim r)
    rw [trim]; simp only [List.length_cons]; omega
theorem trim_snoc0 (l : List Int) : trim (l ++ [0]) = trim l := trim_ext _ _ (fun i => by
  rw [co_app]; split
  · rfl
  · rename_i h
    rw [co_ge (l := l) (by omega)]
    cases i - l.length <;> simp)
theorem trim_snoc (c : Int) (hc : c ≠ 0) : ∀ l : List Int, trim (l ++ [c]) = l ++ [c]
  | [] => by simp [trim, tcons, hc]
  | a :: l => by
    rw [List.cons_append, trim, trim_snoc c hc l]
    unfold tcons; rw [if_neg (by simp)]
theorem trim_top {l : List Int} (h : trim l = l) (hn : l ≠ []) : co l (l.length - 1) ≠ 0 := by
  intro hc
  obtain ⟨r, c, e⟩ : ∃ r c, l = r ++ [c] := ⟨l.dropLast, l.getLast hn, (List.dropLast_concat_getLast hn).symm⟩
  subst e
  have : c = 0 := by
    rw [co_app] at hc
    simpa using hc
  subst this
  rw [trim_snoc0] at h
  have := trim_len r
  have h2 := congrArg List.length h
  simp at h2; omega
theorem len_le {l : List Int} {n : Nat} (h : trim l = l) (hz : ∀ i, n ≤ i → co l i = 0) : l.length ≤ n := by
  by_cases e : l = []
  · subst e; simp
  · have := trim_top h e
    rcases Nat.lt_or_ge (l.length - 1) n with q | q
    · omega
    · exact absurd (hz _ q) this
theorem trim_eq {l r : List Int} (hl : trim l = l) (hr : trim r = r) (h : ∀ i, co l i = co r i) : l = r := by
  rw [← hl, ← hr]; exact trim_ext _ _ h
/-! congruence -/
def cg (p a b : Int) : Prop := a % p = b % p
instance (p a b : Int) : Decidable (cg p a b) := inferInstanceAs (Decidable (a % p = b % p))
theorem cg_rfl {p a : Int} : cg p a a := rfl
theorem cg_sym {p a b : Int} (h : cg p a b) : cg p b a := h.symm
theorem cg_trans {p a b c : Int} (h : cg p a b) (k : cg p b c) : cg p a c := Eq.trans h k
theorem cg_add {p a b c d : Int} (h : cg p a b) (k : cg p c d) : cg p (a + c) (b + d) := by
  unfold cg at *; rw [Int.add_emod, h, k, ← Int.add_emod]
theorem cg_sub {p a b c d : Int} (h : cg p a b) (k : cg p c d) : cg p (a - c) (b - d) := by
  unfold cg at *; rw [Int.sub_emod, h, k, ← Int.sub_emod]
theorem cg_mul {p a b c d : Int} (h : cg p a b) (k : cg p c d) : cg p (a * c) (b * d) := by
  unfold cg at *; rw [Int.mul_emod, h, k, ← Int.mul_emod]
theorem cg_mod {p a : Int} : cg p (a % p) a := by unfold cg; rw [Int.emod_emod_of_dvd _ (Int.dvd_refl p)]
theorem cg_of {p a b : Int} (h : a = b) : cg p a b := h ▸ rfl
theorem cg_eq {p a b : Int} (h : cg p a b) (a0 : 0 ≤ a) (a1 : a < p) (b0 : 0 ≤ b) (b1 : b < p) : a = b := by
  unfold cg at h; rwa [Int.emod_eq_of_lt a0 a1, Int.emod_eq_of_lt b0 b1] at h
def Red (p : Int) (l : List Int) : Prop := ∀ i, 0 ≤ co l i ∧ co l i < p
theorem red_trim {p : Int} {l : List Int} (h : Red p l) : Red p (trim l) := fun i => by rw [co_trim]; exact h i
theorem red_of_mem {p : Int} (hp : 0 < p) {l : List Int} (h : ∀ x ∈ l, 0 ≤ x ∧ x < p) : Red p l := fun i => by
  rcases Nat.lt_or_ge i l.length with q | q
  · exact h _ (co_mem q)
  · rw [co_ge q]; exact ⟨Int.le_refl 0, hp⟩
theorem mem_of_red {p : Int} {l : List Int} (h : Red p l) : ∀ x ∈ l, 0 ≤ x ∧ x < p := fun x hx => by
  obtain ⟨i, _, e⟩ := mem_co hx; rw [← e]; exact h i
theorem red_eq {p : Int} {l r : List Int} (hl : Red p l) (hr : Red p r) (h : ∀ i, cg p (co l i) (co r i)) (i : Nat) : co l i = co r i :=
  cg_eq (h i) (hl i).1 (hl i).2 (hr i).1 (hr i).2
/-! products -/
def sh (f : Nat → Int) : Nat → Int
  | 0 => 0
  | i + 1 => f i
@[simp] theorem sh0 (f : Nat → Int) : sh f 0 = 0 := rfl
@[simp] theorem shs (f : Nat → Int) (i : Nat) : sh f (i + 1) = f i := rfl
def mu : List Int → (Nat → Int) → Nat → Int
  | [], _, _ => 0
  | a :: l, f, i => a * f i + sh (mu l f) i
theorem mu_co (b : Int) (l : List Int) : ∀ (k : List Int) (i : Nat), mu k (co (b :: l)) i = b * co k i + sh (mu k (co l)) i
  | [], 0 => by simp [mu]
  | [], i + 1 => by simp [mu]
  | a :: k, 0 => by simp [mu, Int.mul_comm]
  | a :: k, i + 1 => by
    simp only [mu, shs, co_succ]
    rw [mu_co b l k i]
    omega
theorem mu_zero : ∀ (k : List Int) (i : Nat), mu k (fun _ => 0) i = 0
  | [], _ => rfl
  | a :: k, 0 => by simp [mu]
  | a :: k, i + 1 => by simp [mu, mu_zero k i]
theorem mu_comm : ∀ (l k : List Int) (i : Nat), mu l (co k) i = mu k (co l) i
  | [], k, i => by
    have : co ([] : List Int) = fun _ => 0 := funext fun i => co_nil i
    rw [this, mu_zero]; rfl
  | a :: l, k, 0 => by rw [mu_co]; simp [mu]
  | a :: l, k, i + 1 => by rw [mu_co]; simp only [mu, shs]; rw [mu_comm l k i]
theorem mu_add (f g : Nat → Int) : ∀ (k : List Int) (i : Nat), mu k (fun j => f j + g j) i = mu k f i + mu k g i
  | [], _ => rfl
  | a :: k, 0 => by simp [mu, Int.mul_add]
  | a :: k, i + 1 => by simp only [mu, shs]; rw [mu_add f g k i, Int.mul_add]; omega
theorem mu_sub (f g : Nat → Int) : ∀ (k : List Int) (i : Nat), mu k (fun j => f j - g j) i = mu k f i - mu k g i
  | [], _ => rfl
  | a :: k, 0 => by simp [mu, Int.mul_sub]
  | a :: k, i + 1 => by simp only [mu, shs]; rw [mu_sub f g k i, Int.mul_sub]; omega
theorem mu_smul (c : Int) (f : Nat → Int) : ∀ (k : List Int) (i : Nat), mu k (fun j => c * f j) i = c * mu k f i
  | [], _ => by simp [mu]
  | a :: k, 0 => by simp [mu, Int.mul_left_comm]
  | a :: k, i + 1 => by simp only [mu, shs]; rw [mu_smul c f k i, Int.mul_add, Int.mul_left_comm]
theorem mu_sh (f : Nat → Int) : ∀ (k : List Int) (i : Nat), mu k (sh f) i = sh (mu k f) i
  | [], 0 => rfl
  | [], i + 1 => rfl
  | a :: k, 0 => by simp [mu]
  | a :: k, i + 1 => by simp only [mu, shs]; rw [mu_sh f k i]
theorem mu_mu (f : Nat → Int) (t : List Int) : ∀ (q : List Int) (i : Nat), mu q (mu t f) i = mu t (mu q f) i
  | [], i => by
    have : mu ([] : List Int) f = fun _ => 0 := rfl
    rw [this, mu_zero]; rfl
  | a :: q, i => by
    have h : mu (a :: q) f = fun j => (fun j => a * f j) j + sh (mu q f) j := rfl
    rw [h, mu_add, mu_smul, mu_sh]
    show a * mu t f i + sh (mu q (mu t f)) i = _
    have : sh (mu q (mu t f)) i = sh (mu t (mu q f)) i := by
      cases i with
      | zero => rfl
      | succ i => exact mu_mu f t q i
    rw [this]
theorem mu_cg {p : Int} {f g : Nat → Int} (h : ∀ i, cg p (f i) (g i)) : ∀ (k : List Int) (i : Nat), cg p (mu k f i) (mu k g i)
  | [], _ => rfl
  | a :: k, 0 => cg_add (cg_mul cg_rfl (h 0)) cg_rfl
  | a :: k, i + 1 => cg_add (cg_mul cg_rfl (h (i + 1))) (mu_cg h k i)
theorem mu_fin {f : Nat → Int} {N : Nat} (h : ∀ i, N ≤ i → f i = 0) : ∀ (k : List Int) (i : Nat), N + k.length ≤ i → mu k f i = 0
  | [], _, _ => rfl
  | a :: k, 0, q => by simp at q
  | a :: k, i + 1, q => by
    simp only [mu, shs]
    simp only [List.length_cons] at q
    rw [h (i + 1) (by omega), mu_fin h k i (by omega)]; simp
def dl (n : Nat) (i : Nat) : Int := if i = n then 1 else 0
theorem mu_dl (n : Nat) : ∀ (k : List Int) (i : Nat), mu k (dl n) i = if i < n then 0 else co k (i - n)
  | [], i => by simp [mu]
  | a :: k, 0 => by
    by_cases h : n = 0
    · subst h; simp [mu, dl]
    · simp [mu, dl, Ne.symm h, Nat.pos_of_ne_zero h]
  | a :: k, i + 1 => by
    simp only [mu, shs]
    rw [mu_dl n k i]
    unfold dl
    rcases Nat.lt_trichotomy (i + 1) n with h | h | h
    · rw [if_neg (by omega), if_pos (by omega), if_pos h]; simp
    · subst h; simp
    · rw [if_neg (by omega), if_neg (by omega), if_neg (by omega), show i + 1 - n = (i - n) + 1 by omega]; simp
theorem mu_top {p : Int} {f : Nat → Int} {n : Nat} (h : ∀ i, n < i → cg p (f i) 0) : ∀ (k : List Int), k ≠ [] → cg p (mu k f (n + k.length - 1)) (f n * co k (k.length - 1))
  | [], e => absurd rfl e
  | [a], _ => by
    have : n + [a].length - 1 = n := by simp
    rw [this]
    cases n with
    | zero => simp [mu, Int.mul_comm]; exact cg_rfl
    | succ n => simp [mu, Int.mul_comm]; exact cg_rfl
  | a :: b :: k, _ => by
    have ih := mu_top h (b :: k) (by simp)
    have e : n + (a :: b :: k).length - 1 = (n + (b :: k).length - 1) + 1 := by simp only [List.length_cons]; omega
    rw [e]
    show cg p (a * f (n + (b :: k).length - 1 + 1) + mu (b :: k) f (n + (b :: k).length - 1)) _
    have h1 : cg p (a * f (n + (b :: k).length - 1 + 1)) (a * 0) := cg_mul cg_rfl (h _ (by simp only [List.length_cons]; omega))
    have h2 : co (a :: b :: k) ((a :: b :: k).length - 1) = co (b :: k) ((b :: k).length - 1) := by simp
    rw [h2]
    have := cg_add h1 ih
    rwa [Int.mul_zero, Int.zero_add] at this
/-! primes -/
def pr (p : Int) : Prop := p = 2 ∨ p = 3 ∨ p = 5 ∨ p = 7
theorem pr_pos {p : Int} (h : pr p) : 0 < p := by unfold pr at h; omega
def inv (p a : Int) : Int := if p = 2 then 1 else if p = 3 then a else if p = 5 then (if a = 2 then 3 else if a = 3 then 2 else a) else (if a = 2 then 4 else if a = 4 then 2 else if a = 3 then 5 else if a = 5 then 3 else a)
theorem inv_ok {p a : Int} (h : pr p) (h0 : 0 < a) (h1 : a < p) : 0 < inv p a ∧ inv p a < p ∧ cg p (a * inv p a) 1 := by
  rcases h with rfl | rfl | rfl | rfl
  · obtain rfl : a = 1 := by omega
    decide
  · obtain rfl | rfl : a = 1 ∨ a = 2 := by omega
    all_goals decide
  · obtain rfl | rfl | rfl | rfl : a = 1 ∨ a = 2 ∨ a = 3 ∨ a = 4 := by omega
    all_goals decide
  · obtain rfl | rfl | rfl | rfl | rfl | rfl : a = 1 ∨ a = 2 ∨ a = 3 ∨ a = 4 ∨ a = 5 ∨ a = 6 := by omega
    all_goals decide
theorem no_div {p a c : Int} (h : pr p) (h0 : 0 < a) (h1 : a < p) (k : cg p (c * a) 0) : cg p c 0 := by
  have := (inv_ok h h0 h1).2.2
  have e : c * a * inv p a = c * (a * inv p a) := Int.mul_assoc _ _ _
  have k2 : cg p (c * a * inv p a) (0 * inv p a) := cg_mul k cg_rfl
  rw [e, Int.zero_mul] at k2
  have k3 : cg p (c * (a * inv p a)) (c * 1) := cg_mul cg_rfl this
  rw [Int.mul_one] at k3
  exact cg_trans (cg_sym k3) k2
/-- quotient and rest are one -/
theorem uniq0 {p : Int} (hp : pr p) {b : List Int} (hb : Red p b) (tb : trim b = b) (nb : b ≠ []) {f : Nat → Int} {N : Nat} (hN : ∀ i, N ≤ i → f i = 0) (hz : ∀ i, b.length ≤ i + 1 → cg p (mu b f i) 0) : ∀ i, cg p (f i) 0 := by
  have key : ∀ k n, N ≤ n + k → cg p (f n) 0 := by
    intro k
    induction k with
    | zero => intro n h; rw [hN n (by omega)]; exact cg_rfl
    | succ k ih =>
      intro n h
      have h1 := mu_top (p := p) (f := f) (n := n) (fun i hi => ih i (by omega)) b nb
      have hl : b.length ≠ 0 := fun e => nb (List.length_eq_zero_iff.mp e)
      have h2 := hz (n + b.length - 1) (by omega)
      have h3 := cg_trans (cg_sym h1) h2
      have ht := trim_top tb nb
      have hr := hb (b.length - 1)
      exact no_div hp (by omega) hr.2 h3
  intro i
  exact key N i (by omega)
structure Div (p : Int) (a b : List Int) (g : Nat → Int) (r : List Int) : Prop where
  fin : ∃ N, ∀ i, N ≤ i → g i = 0
  eq : ∀ i, cg p (co a i) (mu b g i + co r i)
  lt : ∀ i, b.length ≤ i + 1 → co r i = 0
theorem uniq {p : Int} (hp : pr p) {a b : List Int} (hb : Red p b) (tb : trim b = b) (nb : b ≠ []) {g1 g2 : Nat → Int} {r1 r2 : List Int} (h1 : Div p a b g1 r1) (h2 : Div p a b g2 r2) : (∀ i, cg p (g1 i) (g2 i)) ∧ ∀ i, cg p (co r1 i) (co r2 i) := by
  obtain ⟨N1, n1⟩ := h1.fin
  obtain ⟨N2, n2⟩ := h2.fin
  have hd : ∀ i, cg p (mu b (fun j => g1 j - g2 j) i) (co r2 i - co r1 i) := by
    intro i
    rw [mu_sub]
    have := cg_sub (cg_trans (cg_sym (h1.eq i)) (h2.eq i)) (c := mu b g2 i + co r1 i) (cg_rfl)
    have e1 : mu b g1 i + co r1 i - (mu b g2 i + co r1 i) = mu b g1 i - mu b g2 i := by omega
    have e2 : mu b g2 i + co r2 i - (mu b g2 i + co r1 i) = co r2 i - co r1 i := by omega
    rwa [e1, e2] at this
  have h0 := uniq0 hp hb tb nb (f := fun j => g1 j - g2 j) (N := N1 + N2) (fun i hi => by
      show g1 i - g2 i = 0
      rw [n1 i (by omega), n2 i (by omega)]; rfl)
    (fun i hi => by
      have := hd i
      rwa [h1.lt i hi, h2.lt i hi] at this)
  refine ⟨fun i => ?_, fun i => ?_⟩
  · have := cg_add (h0 i) (cg_rfl (a := g2 i))
    have e : g1 i - g2 i + g2 i = g1 i := by omega
    rwa [e, Int.zero_add] at this
  · have h3 := hd i
    have h4 : cg p (mu b (fun j => g1 j - g2 j) i) 0 := by
      have := mu_cg (g := fun _ => 0) h0 b i
      rwa [mu_zero] at this
    have h5 := cg_add (cg_trans (cg_sym h4) h3) (cg_rfl (a := co r1 i))
    have e : co r2 i - co r1 i + co r1 i = co r2 i := by omega
    rwa [e, Int.zero_add] at h5
/-- multiples -/
def Mul (p : Int) (t : List Int) (a : List Int) : Prop := ∃ g N, (∀ i, N ≤ i → g i = 0) ∧ ∀ i, cg p (co a i) (mu t g i)
theorem mul_rest {p : Int} {t a b r : List Int} {q : List Int} (ha : Mul p t a) (hb : Mul p t b) (he : ∀ i, cg p (co a i) (mu b (co q) i + co r i)) : Mul p t r := by
  obtain ⟨g, N, gn, ge⟩ := ha
  obtain ⟨k, M, kn, ke⟩ := hb
  refine ⟨fun j => g j - mu q k j, N + (M + q.length), fun i hi => ?_, fun i => ?_⟩
  · show g i - mu q k i = 0
    rw [gn i (by omega), mu_fin kn q i (by omega)]; rfl
  · rw [mu_sub]
    have h1 : cg p (co r i) (co a i - mu b (co q) i) := by
      have := cg_sub (cg_sym (he i)) (cg_rfl (a := mu b (co q) i))
      have e : mu b (co q) i + co r i - mu b (co q) i = co r i := by omega
      rwa [e] at this
    have h2 : cg p (mu b (co q) i) (mu t (mu q k) i) := by
      rw [mu_comm, ← mu_mu]
      exact mu_cg ke q i
    exact cg_trans h1 (cg_sub (ge i) h2)
theorem mul_scale {p : Int} {t a r : List Int} {c : Int} (ha : Mul p t a) (he : ∀ i, cg p (co r i) (c * co a i)) : Mul p t r := by
  obtain ⟨g, N, gn, ge⟩ := ha
  refine ⟨fun j => c * g j, N, fun i hi => by show c * g i = 0; rw [gn i hi]; simp, fun i => ?_⟩
  rw [mu_smul]
  exact cg_trans (he i) (cg_mul cg_rfl (ge i))
theorem mul_prod {p : Int} {t x r : List Int} (he : ∀ i, cg p (co r i) (mu x (co t) i)) : Mul p t r :=
  ⟨co x, x.length, fun i hi => co_ge hi, fun i => by rw [mu_comm t x i]; exact he i⟩
end PM

set_option Elab.async false
set_option linter.all false
namespace PM
/-! rows, what they span -/
structure Row (p : Int) (w : Nat) (r : List Int) : Prop where
  n : r.length = w
  r : Red p r
inductive Sp (p : Int) (R : List (List Int)) : (Nat → Int) → Prop
  | zero : Sp p R (fun _ => 0)
  | add {f : Nat → Int} {r : List Int} (c : Int) : Sp p R f → r ∈ R → Sp p R (fun i => f i + c * co r i)
  | cgr {f g : Nat → Int} : Sp p R f → (∀ i, cg p (f i) (g i)) → Sp p R g
section
variable {p : Int} {R R' : List (List Int)} {f g : Nat → Int}
theorem Sp.mem {r : List Int} (h : r ∈ R) : Sp p R (co r) := (Sp.add 1 Sp.zero h).cgr fun i => cg_of (by simp)
theorem Sp.lin (hf : Sp p R f) (c : Int) (hg : Sp p R g) : Sp p R (fun i => f i + c * g i) := by
  induction hg with
  | zero => exact hf.cgr (fun i => cg_of (by simp))
  | add d _ hr ih => exact (Sp.add (c * d) ih hr).cgr fun i => cg_of (by rw [Int.mul_add, Int.mul_assoc, Int.add_assoc])
  | cgr _ he ih => exact ih.cgr fun i => cg_add cg_rfl (cg_mul cg_rfl (he i))
theorem Sp.trans (h : ∀ r ∈ R, Sp p R' (co r)) (hf : Sp p R f) : Sp p R' f := by
  induction hf with
  | zero => exact .zero
  | add c _ hr ih => exact ih.lin c (h _ hr)
  | cgr _ he ih => exact ih.cgr he
theorem Sp.mono (h : ∀ r ∈ R, r ∈ R') (hf : Sp p R f) : Sp p R' f := hf.trans fun r hr => .mem (h r hr)
theorem Sp.smul (c : Int) (hf : Sp p R f) : Sp p R (fun i => c * f i) := (Sp.zero.lin c hf).cgr fun i => cg_of (by simp)
theorem Sp.sub (hf : Sp p R f) (hg : Sp p R g) : Sp p R (fun i => f i - g i) := (hf.lin (-1) hg).cgr fun i => cg_of (by omega)
theorem Sp.low {k : Nat} (h : ∀ r ∈ R, co r k = 0) (hf : Sp p R f) : cg p (f k) 0 := by
  induction hf with
  | zero => exact cg_rfl
  | add c _ hr ih => exact cg_trans (cg_add ih (cg_rfl (a := c * _))) (cg_of (by rw [h _ hr]; simp))
  | cgr _ he ih => exact cg_trans (cg_sym (he k)) ih
/-- the same spans -/
structure Same (p : Int) (R R' : List (List Int)) : Prop where
  l : ∀ r ∈ R, Sp p R' (co r)
  r : ∀ r ∈ R', Sp p R (co r)
theorem Same.refl : Same p R R := ⟨fun r h => .mem h, fun r h => .mem h⟩
theorem Same.symm (h : Same p R R') : Same p R' R := ⟨h.r, h.l⟩
theorem Same.trans {R2 : List (List Int)} (h : Same p R R') (k : Same p R' R2) : Same p R R2 := ⟨fun r hr => (h.l r hr).trans k.l, fun r hr => (k.r r hr).trans h.r⟩
theorem Same.to (h : Same p R R') (hf : Sp p R f) : Sp p R' f := hf.trans h.l
end
/-! steps, bases: rows by their leads -/
structure Ech (p : Int) (w : Nat) (B : List (Nat × List Int)) : Prop where
  row : ∀ b ∈ B, Row p w b.2
  lt : ∀ b ∈ B, b.1 < w
  one : ∀ b ∈ B, co b.2 b.1 = 1
  low : ∀ b ∈ B, ∀ i, i < b.1 → co b.2 i = 0
  nd : (B.map (·.1)).Nodup
structure Bas (p : Int) (w : Nat) (B : List (Nat × List Int)) : Prop extends Ech p w B where
  off : ∀ b ∈ B, ∀ c ∈ B, b.1 ≠ c.1 → co b.2 c.1 = 0
abbrev rowsB (B : List (Nat × List Int)) : List (List Int) := B.map (·.2)
def sm : List (Nat × List Int) → (Nat → Int) → Nat → Int
  | [], _, _ => 0
  | b :: B, f, i => f b.1 * co b.2 i + sm B f i
theorem sm_lin (f g : Nat → Int) (c : Int) (i : Nat) : ∀ B, sm B (fun j => f j + c * g j) i = sm B f i + c * sm B g i
  | [] => by simp [sm]
  | b :: B => by
    simp only [sm]
    rw [sm_lin f g c i B, Int.add_mul, Int.mul_add, Int.mul_assoc]
    omega
theorem sm_cg {p : Int} {f g : Nat → Int} (h : ∀ i, cg p (f i) (g i)) (i : Nat) : ∀ B, cg p (sm B f i) (sm B g i)
  | [] => cg_rfl
  | b :: B => cg_add (cg_mul (h _) cg_rfl) (sm_cg h i B)
theorem sm_none {p : Int} {f : Nat → Int} (i : Nat) : ∀ B : List (Nat × List Int), (∀ b ∈ B, cg p (f b.1 * co b.2 i) 0) → cg p (sm B f i) 0
  | [], _ => cg_rfl
  | b :: B, h => by
    have := cg_add (h b (by simp)) (sm_none i B fun c hc => h c (by simp [hc]))
    rwa [Int.add_zero] at this
theorem sm_single {f : Nat → Int} (i : Nat) : ∀ (B : List (Nat × List Int)) (b0 : Nat × List Int), (B.map (·.1)).Nodup → b0 ∈ B → f b0.1 = 1 → (∀ c ∈ B, c.1 ≠ b0.1 → f c.1 = 0) → sm B f i = co b0.2 i
  | b :: B, b0, nd, hm, h1, h0 => by
    rw [List.map_cons, List.nodup_cons] at nd
    have zero : ∀ C : List (Nat × List Int), (∀ c ∈ C, f c.1 = 0) → sm C f i = 0 := by
      intro C
      induction C with
      | nil => intro _; rfl
      | cons c C ih => intro h; simp only [sm]; rw [h c (by simp), ih (fun d hd => h d (by simp [hd]))]; simp
    rcases List.mem_cons.mp hm with e | hm
    · subst e
      simp only [sm]
      rw [h1, zero B (fun c hc => h0 c (by simp [hc]) (fun e => nd.1 (List.mem_map.mpr ⟨c, hc, e⟩)))]
      simp
    · have hb : b.1 ≠ b0.1 := fun e => nd.1 (List.mem_map.mpr ⟨b0, hm, e.symm⟩)
      simp only [sm]
      rw [h0 b (by simp) hb, sm_single i B b0 nd.2 hm h1 (fun c hc => h0 c (by simp [hc]))]
      simp
section
variable {p : Int} {w : Nat} {B B' : List (Nat × List Int)} {f : Nat → Int}
theorem Bas.coef (hB : Bas p w B) (hf : Sp p (rowsB B) f) (i : Nat) : cg p (f i) (sm B f i) := by
  induction hf with
  | zero => exact cg_sym (sm_none i B fun b _ => cg_of (by simp))
  | @add g r c _ hr ih =>
    obtain ⟨b0, hb, rfl⟩ := List.mem_map.mp hr
    rw [sm_lin]
    rw [sm_single i B b0 hB.nd hb (hB.one b0 hb) (fun d hd e => hB.off b0 hb d hd (Ne.symm e))]
    exact cg_add ih cg_rfl
  | cgr _ he ih => exact cg_trans (cg_sym (he i)) (cg_trans ih (sm_cg he i B))
/-- what is 0 at all leads is 0 -/
theorem Bas.zero (hB : Bas p w B) (hf : Sp p (rowsB B) f) (h0 : ∀ b ∈ B, f b.1 = 0) (i : Nat) : cg p (f i) 0 :=
  cg_trans (hB.coef hf i) (sm_none i B fun b hb => cg_of (by rw [h0 b hb]; simp))
theorem Bas.lead (hB : Bas p w B) (hf : Sp p (rowsB B) f) {k : Nat} (h0 : ∀ i, i < k → f i = 0) (h1 : ¬ cg p (f k) 0) : k ∈ B.map (·.1) := Classical.byContradiction fun hn => h1 (by
  refine cg_trans (hB.coef hf k) (sm_none k B fun b hb => ?_)
  have hk : b.1 ≠ k := fun e => hn (List.mem_map.mpr ⟨b, hb, e⟩)
  rcases Nat.lt_or_ge b.1 k with z | z
  · rw [h0 _ z]; exact cg_of (by simp)
  · rw [hB.low b hb k (by omega)]; exact cg_of (by simp))
theorem one_ne {p : Int} (hp : pr p) : ¬ cg p 1 0 := by
  rcases hp with rfl | rfl | rfl | rfl <;> decide
theorem Bas.sub (hp : pr p) (h : Bas p w B) (h' : Bas p w B') (hs : ∀ r ∈ rowsB B, Sp p (rowsB B') (co r)) : ∀ b ∈ B, b.1 ∈ B'.map (·.1) := fun b hb =>
  h'.lead (hs b.2 (List.mem_map.mpr ⟨b, hb, rfl⟩)) (h.low b hb) (by rw [h.one b hb]; exact one_ne hp)
theorem row_ext {l r : List Int} (hn : l.length = r.length) (h : ∀ i, co l i = co r i) : l = r := by
  refine List.ext_getElem hn fun i h1 h2 => ?_
  have := h i
  unfold co at this
  rwa [List.getD_eq_getElem?_getD, List.getD_eq_getElem?_getD, List.getElem?_eq_getElem h1, List.getElem?_eq_getElem h2] at this
theorem Bas.same (hp : pr p) (h : Bas p w B) (h' : Bas p w B') (hs : Same p (rowsB B) (rowsB B')) : ∀ b ∈ B, b ∈ B' := fun b hb => by
  obtain ⟨c, hc, e⟩ := List.mem_map.mp (h.sub hp h' hs.l b hb)
  have h1 : ∀ i, cg p (co b.2 i) (co c.2 i) := fun i => by
    refine cg_trans (h'.coef (hs.l b.2 (List.mem_map.mpr ⟨b, hb, rfl⟩)) i) (cg_of (sm_single i B' c h'.nd hc (by rw [e]; exact h.one b hb) fun d hd ne => ?_))
    obtain ⟨d', hd', e'⟩ := List.mem_map.mp (h'.sub hp h hs.r d hd)
    rw [← e']
    exact h.off b hb d' hd' (fun z => ne (by rw [← e', ← z, e]))
  have h2 : b.2 = c.2 := row_ext (by rw [(h.row b hb).n, (h'.row c hc).n]) (red_eq (h.row b hb).r (h'.row c hc).r h1)
  have : b = c := Prod.ext e.symm h2
  rw [this]; exact hc
def Asc (B : List (Nat × List Int)) : Prop := B.Pairwise (fun a b => a.1 < b.1)
theorem asc_ext : ∀ {l r : List (Nat × List Int)}, Asc l → Asc r → (∀ x, x ∈ l ↔ x ∈ r) → l = r
  | [], [], _, _, _ => rfl
  | [], b :: r, _, _, h => by have := (h b).mpr (by simp); cases this
  | a :: l, [], _, _, h => by have := (h a).mp (by simp); cases this
  | a :: l, b :: r, hl, hr, h => by
    unfold Asc at hl hr
    rw [List.pairwise_cons] at hl hr
    have e : a = b := by
      rcases List.mem_cons.mp ((h a).mp (by simp)) with q | q
      · exact q
      · rcases List.mem_cons.mp ((h b).mpr (by simp)) with q2 | q2
        · exact q2.symm
        · have := hr.1 a q; have := hl.1 b q2; omega
    subst e
    congr 1
    refine asc_ext hl.2 hr.2 fun x => ⟨fun hx => ?_, fun hx => ?_⟩
    · rcases List.mem_cons.mp ((h x).mp (by simp [hx])) with q | q
      · subst q; exact absurd (hl.1 _ hx) (Nat.lt_irrefl _)
      · exact q
    · rcases List.mem_cons.mp ((h x).mpr (by simp [hx])) with q | q
      · subst q; exact absurd (hr.1 _ hx) (Nat.lt_irrefl _)
      · exact q
/-- reduced bases, ascending -/
def IsB (p : Int) (w : Nat) (R : List (List Int)) : Prop := ∃ B, Bas p w B ∧ Asc B ∧ R = rowsB B
theorem IsB.uniq (hp : pr p) {R R' : List (List Int)} (h : IsB p w R) (h' : IsB p w R') (hs : Same p R R') : R = R' := by
  obtain ⟨B, h1, h2, rfl⟩ := h
  obtain ⟨B', h3, h4, rfl⟩ := h'
  rw [asc_ext h2 h4 fun x => ⟨h1.same hp h3 hs x, h3.same hp h1 hs.symm x⟩]
theorem asc_len : ∀ {B : List (Nat × List Int)} {k : Nat}, Asc B → (∀ b ∈ B, k ≤ b.1 ∧ b.1 < w) → B.length + k ≤ max k w
  | [], k, _, _ => by simp; omega
  | b :: B, k, h, hw => by
    unfold Asc at h
    rw [List.pairwise_cons] at h
    have h1 := hw b (by simp)
    have ih := asc_len (B := B) (k := b.1 + 1) h.2 (fun c hc => ⟨h.1 c hc, (hw c (by simp [hc])).2⟩)
    simp only [List.length_cons]
    omega
theorem IsB.len {R : List (List Int)} (h : IsB p w R) : R.length ≤ w := by
  obtain ⟨B, h1, h2, rfl⟩ := h
  have := asc_len (k := 0) h2 (fun b hb => ⟨Nat.zero_le _, h1.lt b hb⟩)
  simp at this ⊢
  omega
theorem IsB.row {R : List (List Int)} (h : IsB p w R) : ∀ r ∈ R, Row p w r := by
  obtain ⟨B, h1, h2, rfl⟩ := h
  intro r hr
  obtain ⟨b, hb, rfl⟩ := List.mem_map.mp hr
  exact h1.row b hb
end
end PM

set_option Elab.async false
set_option linter.all false
namespace PM
/-! echelon rows, sorted or not: tails, leads, lengths -/
section
variable {p : Int} {R R' : List (List Int)} {f g : Nat → Int} {w : Nat} {B : List (Nat × List Int)}
theorem sp_cons {r : List Int} (h : Sp p R' f) : ∀ {R : List (List Int)}, R' = r :: R → ∃ c g, Sp p R g ∧ ∀ i, cg p (f i) (g i + c * co r i) := by
  induction h with
  | zero => intro R _; exact ⟨0, fun _ => 0, .zero, fun i => cg_of (by simp)⟩
  | @add f s d _ hs ih =>
    intro R e
    obtain ⟨c, g, h1, h2⟩ := ih e
    subst e
    rcases List.mem_cons.mp hs with rfl | hs
    · exact ⟨c + d, g, h1, fun i => cg_trans (cg_add (h2 i) cg_rfl) (cg_of (by rw [Int.add_mul]; omega))⟩
    · exact ⟨c, fun i => g i + d * co s i, .add d h1 hs, fun i => cg_trans (cg_add (h2 i) cg_rfl) (cg_of (by show g i + c * co r i + d * co s i = g i + d * co s i + c * co r i; omega))⟩
  | cgr _ he ih =>
    intro R e
    obtain ⟨c, g, h1, h2⟩ := ih e
    exact ⟨c, g, h1, fun i => cg_trans (cg_sym (he i)) (h2 i)⟩
def insA (x : Nat × List Int) : List (Nat × List Int) → List (Nat × List Int)
  | [] => [x]
  | y :: l => if x.1 < y.1 then x :: y :: l else y :: insA x l
theorem insA_mem (x : Nat × List Int) : ∀ (l : List (Nat × List Int)) (z : Nat × List Int), z ∈ insA x l ↔ z = x ∨ z ∈ l
  | [], z => by simp [insA]
  | y :: l, z => by
    unfold insA
    split
    · simp
    · rw [List.mem_cons, insA_mem x l z, List.mem_cons]
      constructor
      · rintro (h | h | h) <;> simp [h]
      · rintro (h | h | h) <;> simp [h]
theorem insA_asc (x : Nat × List Int) : ∀ (l : List (Nat × List Int)), Asc l → x.1 ∉ l.map (·.1) → Asc (insA x l)
  | [], _, _ => by simp [insA, Asc]
  | y :: l, h, hn => by
    have h' := List.pairwise_cons.mp h
    unfold insA
    split
    · rename_i hlt
      refine List.pairwise_cons.mpr ⟨fun z hz => ?_, h⟩
      rcases List.mem_cons.mp hz with rfl | hz
      · exact hlt
      · exact Nat.lt_trans hlt (h'.1 z hz)
    · rename_i hge
      refine List.pairwise_cons.mpr ⟨fun z hz => ?_, insA_asc x l h'.2 fun z => hn (by simp at z ⊢; exact .inr z)⟩
      rcases (insA_mem x l z).mp hz with rfl | hz
      · have : z.1 ≠ y.1 := fun e => hn (by simp [e])
        omega
      · exact h'.1 z hz
theorem asc_of : ∀ (B : List (Nat × List Int)), (B.map (·.1)).Nodup → ∃ B', Asc B' ∧ (∀ x, x ∈ B' ↔ x ∈ B) ∧ B'.length = B.length
  | [], _ => ⟨[], List.Pairwise.nil, fun _ => Iff.rfl, rfl⟩
  | b :: B, nd => by
    rw [List.map_cons, List.nodup_cons] at nd
    obtain ⟨B', h1, h2, h3⟩ := asc_of B nd.2
    refine ⟨insA b B', insA_asc b B' h1 (fun hc => nd.1 ?_), fun x => by rw [insA_mem, h2, List.mem_cons], ?_⟩
    · obtain ⟨x, hx, e⟩ := List.mem_map.mp hc
      exact List.mem_map.mpr ⟨x, (h2 x).mp hx, e⟩
    · have : ∀ l : List (Nat × List Int), (insA b l).length = l.length + 1 := fun l => by
        induction l with
        | nil => rfl
        | cons y l ih => unfold insA; split <;> simp [ih]
      rw [this, h3]; rfl
/-- rows whose leads lie at k or behind it -/
theorem asc_tail (k : Nat) : ∀ (B : List (Nat × List Int)), Asc B → (∀ b ∈ B, co b.2 b.1 = 1 ∧ ∀ i, i < b.1 → co b.2 i = 0) → ∀ {f : Nat → Int}, Sp p (rowsB B) f → (∀ i, i < k → cg p (f i) 0) → Sp p (rowsB (B.filter fun b => decide (k ≤ b.1))) f
  | [], _, _, f, h, _ => h
  | b :: B, hA, hb, f, h, h0 => by
    have hA' := List.pairwise_cons.mp hA
    obtain ⟨c, g, h1, h2⟩ := sp_cons h (R := rowsB B) rfl
    by_cases hk : k ≤ b.1
    · have : (b :: B).filter (fun b => decide (k ≤ b.1)) = b :: B := List.filter_eq_self.mpr fun x hx => by
        rcases List.mem_cons.mp hx with rfl | hx
        · exact decide_eq_true hk
        · exact decide_eq_true (by have := hA'.1 x hx; omega)
      rw [this]; exact h
    · rw [List.filter_cons_of_neg (by simpa using hk)]
      have hg0 : cg p (g b.1) 0 := Sp.low (fun r hr => by
        obtain ⟨x, hx, rfl⟩ := List.mem_map.mp hr
        exact (hb x (by simp [hx])).2 b.1 (hA'.1 x hx)) h1
      have hc : cg p c 0 := by
        have h3 := h2 b.1
        rw [(hb b (by simp)).1] at h3
        have h4 := cg_trans (cg_sym h3) (h0 b.1 (by omega))
        have h5 := cg_sub h4 hg0
        exact cg_trans (cg_of (by omega)) (cg_trans h5 (cg_of (by omega)))
      have hfg : ∀ i, cg p (g i) (f i) := fun i => cg_sym (cg_trans (h2 i) (cg_trans (cg_add cg_rfl (cg_mul hc cg_rfl)) (cg_of (by simp))))
      exact asc_tail k B hA'.2 (fun x hx => hb x (by simp [hx])) (h1.cgr hfg) h0
theorem Ech.tail (hB : Ech p w B) (k : Nat) (hf : Sp p (rowsB B) f) (h0 : ∀ i, i < k → cg p (f i) 0) : Sp p (rowsB (B.filter fun b => decide (k ≤ b.1))) f := by
  obtain ⟨B', h1, h2, _⟩ := asc_of B hB.nd
  have hm : ∀ r ∈ rowsB B, r ∈ rowsB B' := fun r hr => by
    obtain ⟨b, hb, rfl⟩ := List.mem_map.mp hr
    exact List.mem_map.mpr ⟨b, (h2 b).mpr hb, rfl⟩
  refine (asc_tail k B' h1 (fun b hb => ⟨hB.one b ((h2 b).mp hb), hB.low b ((h2 b).mp hb)⟩) (hf.mono hm) h0).mono fun r hr => ?_
  obtain ⟨b, hb, rfl⟩ := List.mem_map.mp hr
  have := List.mem_filter.mp hb
  exact List.mem_map.mpr ⟨b, List.mem_filter.mpr ⟨(h2 b).mp this.1, this.2⟩, rfl⟩
theorem Ech.zero (hB : Ech p w B) (hf : Sp p (rowsB B) f) (h0 : ∀ b ∈ B, cg p (f b.1) 0) : ∀ i, cg p (f i) 0 := by
  have key : ∀ k i, i < k → cg p (f i) 0 := fun k => by
    induction k with
    | zero => intro i hi; exact absurd hi (Nat.not_lt_zero i)
    | succ k ih =>
      intro i hi
      rcases Nat.lt_or_ge i k with z | z
      · exact ih i z
      · have hik : i = k := by omega
        subst hik
        by_cases hk : i ∈ B.map (·.1)
        · obtain ⟨b, hb, e⟩ := List.mem_map.mp hk
          rw [← e]; exact h0 b hb
        · refine Sp.low (fun r hr => ?_) (hB.tail i hf ih)
          obtain ⟨b, hb, rfl⟩ := List.mem_map.mp hr
          have hb' := List.mem_filter.mp hb
          have h1 : i ≤ b.1 := of_decide_eq_true hb'.2
          have h2 : b.1 ≠ i := fun e => hk (List.mem_map.mpr ⟨b, hb'.1, e⟩)
          exact hB.low b hb'.1 i (by omega)
  exact fun i => key (i + 1) i (by omega)
theorem Ech.leads (hp : pr p) (hB : Ech p w B) (k : Nat) : k ∈ B.map (·.1) ↔ ∃ f, Sp p (rowsB B) f ∧ (∀ i, i < k → cg p (f i) 0) ∧ ¬ cg p (f k) 0 := by
  constructor
  · intro h
    obtain ⟨b, hb, rfl⟩ := List.mem_map.mp h
    exact ⟨co b.2, .mem (List.mem_map.mpr ⟨b, hb, rfl⟩), fun i hi => cg_of (hB.low b hb i hi), by rw [hB.one b hb]; exact one_ne hp⟩
  · rintro ⟨f, h1, h2, h3⟩
    refine Classical.byContradiction fun hk => h3 (Sp.low (fun r hr => ?_) (hB.tail k h1 h2))
    obtain ⟨b, hb, rfl⟩ := List.mem_map.mp hr
    have hb' := List.mem_filter.mp hb
    have h4 : k ≤ b.1 := of_decide_eq_true hb'.2
    have h5 : b.1 ≠ k := fun e => hk (List.mem_map.mpr ⟨b, hb'.1, e⟩)
    exact hB.low b hb'.1 k (by omega)
theorem nd_len : ∀ {l r : List Nat}, l.Nodup → (∀ x ∈ l, x ∈ r) → l.length ≤ r.length
  | [], r, _, _ => Nat.zero_le _
  | a :: l, r, nd, h => by
    have nd' := List.nodup_cons.mp nd
    have ha := h a (by simp)
    have := nd_len (l := l) (r := r.erase a) nd'.2 fun x hx => by
      have hne : x ≠ a := fun e => nd'.1 (e ▸ hx)
      exact (List.mem_erase_of_ne hne).mpr (h x (by simp [hx]))
    rw [List.length_erase_of_mem ha] at this
    have hpos : 0 < r.length := List.length_pos_of_mem ha
    simp; omega
theorem nd_same {l r : List Nat} (hl : l.Nodup) (hr : r.Nodup) (h : ∀ x, x ∈ l ↔ x ∈ r) : l.length = r.length :=
  Nat.le_antisymm (nd_len hl fun x hx => (h x).mp hx) (nd_len hr fun x hx => (h x).mpr hx)
end
end PM

set_option Elab.async false
set_option linter.all false
namespace PM
/-! rows side by side: sums and meets -/
section
variable {p : Int} {w : Nat}
theorem co_dropK (l : List Int) (s i : Nat) : co (l.drop s) i = co l (s + i) := by
  unfold co
  rw [List.getD_eq_getElem?_getD, List.getD_eq_getElem?_getD, List.getElem?_drop]
theorem co_l {l r : List Int} {i : Nat} (hl : l.length = w) (h : i < w) : co (l ++ r) i = co l i := by
  unfold co
  rw [List.getD_eq_getElem?_getD, List.getD_eq_getElem?_getD, List.getElem?_append_left (by omega)]
theorem co_r {l r : List Int} {i : Nat} (hl : l.length = w) : co (l ++ r) (w + i) = co r i := by
  unfold co
  rw [List.getD_eq_getElem?_getD, List.getD_eq_getElem?_getD, List.getElem?_append_right (by omega)]
  congr 2
  omega
theorem Sp.wide {R : List (List Int)} {f : Nat → Int} (hR : ∀ r ∈ R, Row p w r) (hf : Sp p R f) {i : Nat} (hi : w ≤ i) : cg p (f i) 0 :=
  hf.low fun r hr => co_ge (by rw [(hR r hr).n]; exact hi)
theorem tail_to {R : List (List Int)} {k : Nat} {f : Nat → Int} (h : Sp p R f) : Sp p (R.map (List.drop k)) (fun i => f (k + i)) := by
  induction h with
  | zero => exact .zero
  | @add f r c _ hr ih => exact (Sp.add c ih (List.mem_map.mpr ⟨r, hr, rfl⟩)).cgr fun i => cg_of (by rw [co_dropK])
  | cgr _ he ih => exact ih.cgr fun i => he (k + i)
theorem tail_from {k : Nat} {T : List (List Int)} {h : Nat → Int} (hT : Sp p T h) : ∀ {R : List (List Int)}, T = R.map (List.drop k) → (∀ r ∈ R, ∀ i, i < k → co r i = 0) → ∃ f, Sp p R f ∧ (∀ i, i < k → cg p (f i) 0) ∧ ∀ i, cg p (h i) (f (k + i)) := by
  induction hT with
  | zero => intro R _ _; exact ⟨fun _ => 0, .zero, fun _ _ => cg_rfl, fun _ => cg_rfl⟩
  | @add h r c _ hr ih =>
    intro R e h0
    obtain ⟨f, h1, h2, h3⟩ := ih e h0
    subst e
    obtain ⟨s, hs, rfl⟩ := List.mem_map.mp hr
    refine ⟨fun i => f i + c * co s i, .add c h1 hs, fun i hi => ?_, fun i => ?_⟩
    · dsimp only
      rw [h0 s hs i hi]
      exact cg_trans (cg_of (by simp)) (h2 i hi)
    · dsimp only
      rw [co_dropK]
      exact cg_add (h3 i) cg_rfl
  | cgr _ he ih =>
    intro R e h0
    obtain ⟨f, h1, h2, h3⟩ := ih e h0
    exact ⟨f, h1, h2, fun i => cg_trans (cg_sym (he i)) (h3 i)⟩
/-- what the tails of a base's rows span -/
theorem tails_span {D : List (Nat × List Int)} {W k : Nat} {Y : List (List Int)} (hD : Ech p W D) (hs : Same p (rowsB D) Y) (h : Nat → Int) : Sp p ((rowsB (D.filter fun b => decide (k ≤ b.1))).map (List.drop k)) h ↔ ∃ f, Sp p Y f ∧ (∀ i, i < k → cg p (f i) 0) ∧ ∀ i, cg p (h i) (f (k + i)) := by
  constructor
  · intro hh
    obtain ⟨f, h1, h2, h3⟩ := tail_from hh rfl fun r hr i hi => by
      obtain ⟨b, hb, rfl⟩ := List.mem_map.mp hr
      have hb' := List.mem_filter.mp hb
      have : k ≤ b.1 := of_decide_eq_true hb'.2
      exact hD.low b hb'.1 i (by omega)
    exact ⟨f, hs.to (h1.mono fun r hr => by
      obtain ⟨b, hb, rfl⟩ := List.mem_map.mp hr
      exact List.mem_map.mpr ⟨b, (List.mem_filter.mp hb).1, rfl⟩), h2, h3⟩
  · rintro ⟨f, h1, h2, h3⟩
    exact (tail_to (hD.tail k (hs.symm.to h1) h2)).cgr fun i => cg_sym (h3 i)
/-! the rows a|a and b|0 -/
abbrev stackZ (w : Nat) (A B : List (List Int)) : List (List Int) := (A.map fun a => a ++ a) ++ B.map fun b => b ++ List.replicate w 0
theorem z_from {A B : List (List Int)} (hA : ∀ a ∈ A, Row p w a) (hB : ∀ b ∈ B, Row p w b) {f : Nat → Int} (h : Sp p (stackZ w A B) f) : ∃ u v, Sp p A u ∧ Sp p B v ∧ (∀ i, i < w → cg p (f i) (u i + v i)) ∧ ∀ i, cg p (f (w + i)) (u i) := by
  induction h with
  | zero => exact ⟨fun _ => 0, fun _ => 0, .zero, .zero, fun _ _ => cg_rfl, fun _ => cg_rfl⟩
  | @add f r c _ hr ih =>
    obtain ⟨u, v, h1, h2, h3, h4⟩ := ih
    rcases List.mem_append.mp hr with z | z
    · obtain ⟨a, ha, rfl⟩ := List.mem_map.mp z
      refine ⟨fun i => u i + c * co a i, v, .add c h1 ha, h2, fun i hi => ?_, fun i => ?_⟩
      · dsimp only
        rw [co_l (hA a ha).n hi]
        exact cg_trans (cg_add (h3 i hi) cg_rfl) (cg_of (by omega))
      · show cg p (f (w + i) + c * co (a ++ a) (w + i)) _
        rw [co_r (hA a ha).n]
        exact cg_add (h4 i) cg_rfl
    · obtain ⟨b, hb, rfl⟩ := List.mem_map.mp z
      refine ⟨u, fun i => v i + c * co b i, h1, .add c h2 hb, fun i hi => ?_, fun i => ?_⟩
      · dsimp only
        rw [co_l (hB b hb).n hi]
        exact cg_trans (cg_add (h3 i hi) cg_rfl) (cg_of (by omega))
      · show cg p (f (w + i) + c * co (b ++ List.replicate w 0) (w + i)) _
        rw [co_r (hB b hb).n, co_rep0]
        exact cg_trans (cg_of (by simp)) (h4 i)
  | cgr _ he ih =>
    obtain ⟨u, v, h1, h2, h3, h4⟩ := ih
    exact ⟨u, v, h1, h2, fun i hi => cg_trans (cg_sym (he i)) (h3 i hi), fun i => cg_trans (cg_sym (he _)) (h4 i)⟩
theorem z_left {A B : List (List Int)} (hA : ∀ a ∈ A, Row p w a) {u : Nat → Int} (h : Sp p A u) : ∃ f, Sp p (stackZ w A B) f ∧ (∀ i, i < w → cg p (f i) (u i)) ∧ ∀ i, cg p (f (w + i)) (u i) := by
  induction h with
  | zero => exact ⟨fun _ => 0, .zero, fun _ _ => cg_rfl, fun _ => cg_rfl⟩
  | @add u a c _ ha ih =>
    obtain ⟨f, h1, h2, h3⟩ := ih
    refine ⟨fun i => f i + c * co (a ++ a) i, .add c h1 (List.mem_append_left _ (List.mem_map.mpr ⟨a, ha, rfl⟩)), fun i hi => ?_, fun i => ?_⟩
    · dsimp only
      rw [co_l (hA a ha).n hi]; exact cg_add (h2 i hi) cg_rfl
    · show cg p (f (w + i) + c * co (a ++ a) (w + i)) _
      rw [co_r (hA a ha).n]; exact cg_add (h3 i) cg_rfl
  | cgr _ he ih =>
    obtain ⟨f, h1, h2, h3⟩ := ih
    exact ⟨f, h1, fun i hi => cg_trans (h2 i hi) (he i), fun i => cg_trans (h3 i) (he i)⟩
theorem z_right {A B : List (List Int)} (hB : ∀ b ∈ B, Row p w b) {v : Nat → Int} (h : Sp p B v) : ∃ f, Sp p (stackZ w A B) f ∧ (∀ i, i < w → cg p (f i) (v i)) ∧ ∀ i, cg p (f (w + i)) 0 := by
  induction h with
  | zero => exact ⟨fun _ => 0, .zero, fun _ _ => cg_rfl, fun _ => cg_rfl⟩
  | @add v b c _ hb ih =>
    obtain ⟨f, h1, h2, h3⟩ := ih
    refine ⟨fun i => f i + c * co (b ++ List.replicate w 0) i, .add c h1 (List.mem_append_right _ (List.mem_map.mpr ⟨b, hb, rfl⟩)), fun i hi => ?_, fun i => ?_⟩
    · dsimp only
      rw [co_l (hB b hb).n hi]; exact cg_add (h2 i hi) cg_rfl
    · show cg p (f (w + i) + c * co (b ++ List.replicate w 0) (w + i)) _
      rw [co_r (hB b hb).n, co_rep0]; exact cg_trans (cg_of (by simp)) (h3 i)
  | cgr _ he ih =>
    obtain ⟨f, h1, h2, h3⟩ := ih
    exact ⟨f, h1, fun i hi => cg_trans (h2 i hi) (he i), h3⟩
theorem z_to {A B : List (List Int)} (hA : ∀ a ∈ A, Row p w a) (hB : ∀ b ∈ B, Row p w b) {u v : Nat → Int} (hu : Sp p A u) (hv : Sp p B v) : ∃ f, Sp p (stackZ w A B) f ∧ (∀ i, i < w → cg p (f i) (u i + v i)) ∧ ∀ i, cg p (f (w + i)) (u i) := by
  obtain ⟨f, f1, f2, f3⟩ := z_left (B := B) hA hu
  obtain ⟨g, g1, g2, g3⟩ := z_right (A := A) hB hv
  exact ⟨fun i => f i + 1 * g i, f1.lin 1 g1, fun i hi => cg_trans (cg_of (by show f i + 1 * g i = f i + g i; omega)) (cg_add (f2 i hi) (g2 i hi)), fun i => cg_trans (cg_of (by show f (w + i) + 1 * g (w + i) = f (w + i) + g (w + i); omega)) (cg_trans (cg_add (f3 i) (g3 i)) (cg_of (by omega)))⟩
/-- the tails behind w span what both spaces share -/
theorem meet_span {A B : List (List Int)} (hA : ∀ a ∈ A, Row p w a) (hB : ∀ b ∈ B, Row p w b) (h : Nat → Int) : (∃ f, Sp p (stackZ w A B) f ∧ (∀ i, i < w → cg p (f i) 0) ∧ ∀ i, cg p (h i) (f (w + i))) ↔ Sp p A h ∧ Sp p B h := by
  constructor
  · rintro ⟨f, h1, h2, h3⟩
    obtain ⟨u, v, k1, k2, k3, k4⟩ := z_from hA hB h1
    have hu : ∀ i, cg p (h i) (u i) := fun i => cg_trans (h3 i) (k4 i)
    refine ⟨k1.cgr fun i => cg_sym (hu i), (k2.smul (-1)).cgr fun i => ?_⟩
    rcases Nat.lt_or_ge i w with z | z
    · have e1 := cg_trans (cg_sym (k3 i z)) (h2 i z)
      have e2 := cg_sub e1 (cg_rfl (p := p) (a := v i))
      exact cg_trans (cg_of (by omega)) (cg_trans (cg_sym e2) (cg_trans (cg_of (by omega)) (cg_sym (hu i))))
    · have e1 := cg_mul (cg_rfl (p := p) (a := -1)) (k2.wide hB z)
      exact cg_trans e1 (cg_trans (cg_of (by simp)) (cg_sym (cg_trans (hu i) (k1.wide hA z))))
  · rintro ⟨ha, hb⟩
    obtain ⟨f, f1, f2, f3⟩ := z_to hA hB ha (hb.smul (-1))
    exact ⟨f, f1, fun i hi => cg_trans (f2 i hi) (cg_of (by omega)), fun i => cg_sym (f3 i)⟩
theorem sp_app {A B : List (List Int)} {f : Nat → Int} (h : Sp p (A ++ B) f) : ∃ u v, Sp p A u ∧ Sp p B v ∧ ∀ i, cg p (f i) (u i + v i) := by
  induction h with
  | zero => exact ⟨fun _ => 0, fun _ => 0, .zero, .zero, fun _ => cg_rfl⟩
  | @add f r c _ hr ih =>
    obtain ⟨u, v, h1, h2, h3⟩ := ih
    rcases List.mem_append.mp hr with z | z
    · exact ⟨fun i => u i + c * co r i, v, .add c h1 z, h2, fun i => cg_trans (cg_add (h3 i) cg_rfl) (cg_of (by show u i + v i + c * co r i = u i + c * co r i + v i; omega))⟩
    · exact ⟨u, fun i => v i + c * co r i, h1, .add c h2 z, fun i => cg_trans (cg_add (h3 i) cg_rfl) (cg_of (by show u i + v i + c * co r i = u i + (v i + c * co r i); omega))⟩
  | cgr _ he ih =>
    obtain ⟨u, v, h1, h2, h3⟩ := ih
    exact ⟨u, v, h1, h2, fun i => cg_trans (cg_sym (he i)) (h3 i)⟩
theorem app_sp {A B : List (List Int)} {u v : Nat → Int} (hu : Sp p A u) (hv : Sp p B v) : Sp p (A ++ B) (fun i => u i + v i) :=
  ((hu.mono fun x hx => List.mem_append_left _ hx).lin 1 (hv.mono fun x hx => List.mem_append_right _ hx)).cgr fun i => cg_of (by omega)
end
end PM

set_option Elab.async false
set_option linter.all false
namespace PM
/-! rows beside a unit table: what factors come to nothing -/
section
variable {p : Int} {w : Nat}
def combF (γ : Nat → Int) : Nat → List (List Int) → Nat → Int
  | _, [], _ => 0
  | k, t :: T, i => combF γ (k + 1) T i + γ k * co t i
def eRow (m k : Nat) : List Int := (List.range m).map fun j => if k = j then 1 else 0
theorem eRow_co (m k i : Nat) : co (eRow m k) i = if i < m ∧ k = i then 1 else 0 := by
  unfold eRow co
  rw [List.getD_eq_getElem?_getD, List.getElem?_map]
  by_cases h : i < m
  · simp [h]
  · simp [h]
def yRows (m : Nat) : Nat → List (List Int) → List (List Int)
  | _, [] => []
  | k, t :: T => (t ++ eRow m k) :: yRows m (k + 1) T
theorem combF_lin (γ δ : Nat → Int) (c : Int) (i : Nat) : ∀ (T : List (List Int)) (k : Nat), combF (fun j => γ j + c * δ j) k T i = combF γ k T i + c * combF δ k T i
  | [], _ => by simp [combF]
  | t :: T, k => by
    show combF (fun j => γ j + c * δ j) (k + 1) T i + (γ k + c * δ k) * co t i = combF γ (k + 1) T i + γ k * co t i + c * (combF δ (k + 1) T i + δ k * co t i)
    rw [combF_lin γ δ c i T (k + 1), Int.add_mul, Int.mul_add, Int.mul_assoc]
    omega
theorem combF_cg {γ δ : Nat → Int} (i : Nat) : ∀ (T : List (List Int)) (k : Nat), (∀ j, k ≤ j → j < k + T.length → cg p (γ j) (δ j)) → cg p (combF γ k T i) (combF δ k T i)
  | [], _, _ => cg_rfl
  | t :: T, k, h => cg_add (combF_cg i T (k + 1) fun j h1 h2 => h j (by omega) (by simp; omega)) (cg_mul (h k (by omega) (by simp)) cg_rfl)
theorem combF_zero (i : Nat) : ∀ (T : List (List Int)) (k : Nat), combF (fun _ => 0) k T i = 0
  | [], _ => rfl
  | t :: T, k => by
    show combF (fun _ => 0) (k + 1) T i + 0 * co t i = 0
    rw [combF_zero i T (k + 1)]; simp
theorem combF_delta {m : Nat} (i q : Nat) : ∀ (T : List (List Int)) (k : Nat), combF (fun j => if j < m ∧ q = j then 1 else 0) k T i = if k ≤ q ∧ q < k + T.length ∧ q < m then co (T.getD (q - k) []) i else 0
  | [], k => by simp [combF]
  | t :: T, k => by
    show combF (fun j => if j < m ∧ q = j then 1 else 0) (k + 1) T i + (if k < m ∧ q = k then 1 else 0) * co t i = _
    rw [combF_delta i q T (k + 1)]
    by_cases e : q = k
    · subst e
      by_cases hm : q < m
      · rw [if_neg (by omega), if_pos ⟨hm, rfl⟩, if_pos ⟨by omega, by simp, hm⟩]
        simp
      · rw [if_neg (by omega), if_neg (by omega), if_neg (by omega)]; simp
    · rw [if_neg (by omega : ¬ (k < m ∧ q = k))]
      by_cases h : k + 1 ≤ q ∧ q < k + 1 + T.length ∧ q < m
      · rw [if_pos h, if_pos ⟨by omega, by simp; omega, h.2.2⟩]
        have : q - k = (q - (k + 1)) + 1 := by omega
        rw [this, List.getD_cons_succ]; simp
      · rw [if_neg h, if_neg (by simp; omega)]; simp
theorem combF_app (γ : Nat → Int) (i : Nat) : ∀ (A B : List (List Int)) (k : Nat), combF γ k (A ++ B) i = combF γ k A i + combF γ (k + A.length) B i
  | [], B, k => by simp [combF]
  | a :: A, B, k => by
    show combF γ (k + 1) (A ++ B) i + γ k * co a i = combF γ (k + 1) A i + γ k * co a i + combF γ (k + (A.length + 1)) B i
    rw [combF_app γ i A B (k + 1), show k + 1 + A.length = k + (A.length + 1) by omega]
    omega
theorem combF_sp (γ : Nat → Int) {R : List (List Int)} : ∀ (T : List (List Int)) (k : Nat), (∀ t ∈ T, t ∈ R) → Sp p R (combF γ k T)
  | [], k, _ => Sp.zero.cgr fun i => cg_of rfl
  | t :: T, k, h => (Sp.add (γ k) (combF_sp γ T (k + 1) fun x hx => h x (by simp [hx])) (h t (by simp))).cgr fun i => cg_of rfl
theorem combF_ge {γ : Nat → Int} {i : Nat} (hi : w ≤ i) : ∀ (T : List (List Int)) (k : Nat), (∀ t ∈ T, t.length = w) → combF γ k T i = 0
  | [], _, _ => rfl
  | t :: T, k, h => by
    show combF γ (k + 1) T i + γ k * co t i = 0
    rw [combF_ge hi T (k + 1) fun x hx => h x (by simp [hx]), co_ge (by rw [h t (by simp)]; exact hi)]; simp
theorem yRows_mem (m : Nat) : ∀ (T : List (List Int)) (k : Nat) (r : List Int), r ∈ yRows m k T → ∃ q, k ≤ q ∧ q < k + T.length ∧ r = T.getD (q - k) [] ++ eRow m q
  | [], _, _, h => by cases h
  | t :: T, k, r, h => by
    rcases List.mem_cons.mp h with rfl | h
    · exact ⟨k, by omega, by simp, by simp⟩
    · obtain ⟨q, h1, h2, h3⟩ := yRows_mem m T (k + 1) r h
      refine ⟨q, by omega, by simp; omega, ?_⟩
      have : q - k = (q - (k + 1)) + 1 := by omega
      rw [this, List.getD_cons_succ]; exact h3
theorem y_from {T : List (List Int)} (hT : ∀ t ∈ T, t.length = w) {f : Nat → Int} (h : Sp p (yRows T.length 0 T) f) : ∀ i, i < w → cg p (f i) (combF (fun j => f (w + j)) 0 T i) := by
  induction h with
  | zero => exact fun i _ => cg_of (combF_zero i T 0).symm
  | @add f r c _ hr ih =>
    intro i hi
    obtain ⟨q, _, q2, rfl⟩ := yRows_mem _ T 0 r hr
    have q2' : q < T.length := by simpa using q2
    have hlen : (T.getD (q - 0) []).length = w := by
      rw [Nat.sub_zero, List.getD_eq_getElem?_getD, List.getElem?_eq_getElem q2']
      exact hT _ (List.getElem_mem q2')
    have e : (fun j => f (w + j) + c * co (T.getD (q - 0) [] ++ eRow T.length q) (w + j)) = fun j => f (w + j) + c * (if j < T.length ∧ q = j then 1 else 0) := funext fun j => by
      rw [co_r hlen, eRow_co]
    show cg p (f i + c * co (T.getD (q - 0) [] ++ eRow T.length q) i) (combF (fun j => f (w + j) + c * co (T.getD (q - 0) [] ++ eRow T.length q) (w + j)) 0 T i)
    rw [e, combF_lin, combF_delta, if_pos ⟨by omega, by omega, q2'⟩, co_l hlen hi]
    exact cg_add (ih i hi) cg_rfl
  | @cgr f g _ he ih =>
    intro i hi
    exact cg_trans (cg_sym (he i)) (cg_trans (ih i hi) (combF_cg i T 0 fun j _ _ => he (w + j)))
theorem y_to {m : Nat} (γ : Nat → Int) {R : List (List Int)} : ∀ (T : List (List Int)) (k : Nat), (∀ t ∈ T, t.length = w) → (∀ r ∈ yRows m k T, r ∈ R) → k + T.length ≤ m → ∃ f, Sp p R f ∧ (∀ i, i < w → cg p (f i) (combF γ k T i)) ∧ ∀ j, cg p (f (w + j)) (if k ≤ j ∧ j < k + T.length then γ j else 0)
  | [], k, _, _, _ => ⟨fun _ => 0, .zero, fun _ _ => cg_rfl, fun j => cg_of (by rw [if_neg (by simp)])⟩
  | t :: T, k, hT, hR, hm => by
    obtain ⟨f, f1, f2, f3⟩ := y_to (m := m) γ T (k + 1) (fun x hx => hT x (by simp [hx])) (fun r hr => hR r (List.mem_cons_of_mem _ hr)) (by simp at hm; omega)
    have ht := hT t (by simp)
    refine ⟨fun i => f i + γ k * co (t ++ eRow m k) i, .add (γ k) f1 (hR _ (List.mem_cons_self ..)), fun i hi => ?_, fun j => ?_⟩
    · show cg p (f i + γ k * co (t ++ eRow m k) i) (combF γ (k + 1) T i + γ k * co t i)
      rw [co_l ht hi]
      exact cg_add (f2 i hi) cg_rfl
    · show cg p (f (w + j) + γ k * co (t ++ eRow m k) (w + j)) _
      rw [co_r ht, eRow_co]
      simp only [List.length_cons] at hm ⊢
      by_cases e : k = j
      · subst e
        have := f3 k
        rw [if_neg (by omega)] at this
        rw [if_pos ⟨by omega, rfl⟩, if_pos ⟨by omega, by omega⟩]
        exact cg_trans (cg_add this cg_rfl) (cg_of (by omega))
      · rw [if_neg (by omega : ¬ (j < m ∧ k = j))]
        have := f3 j
        by_cases h : k + 1 ≤ j ∧ j < k + 1 + T.length
        · rw [if_pos h] at this
          rw [if_pos ⟨by omega, by omega⟩]
          exact cg_trans (cg_add this cg_rfl) (cg_of (by omega))
        · rw [if_neg h] at this
          rw [if_neg (by omega)]
          exact cg_trans (cg_add this cg_rfl) (cg_of (by omega))
/-- the factors that a member of a span has -/
theorem sp_factors {A : List (List Int)} {h : Nat → Int} (hh : Sp p A h) : ∃ α : Nat → Int, ∀ i, cg p (h i) (combF α 0 A i) := by
  induction hh with
  | zero => exact ⟨fun _ => 0, fun i => cg_of (combF_zero i A 0).symm⟩
  | @add f r c _ hr ih =>
    obtain ⟨α, ha⟩ := ih
    obtain ⟨q, hq, rfl⟩ := List.getElem_of_mem hr
    refine ⟨fun j => α j + c * (if j < A.length ∧ q = j then 1 else 0), fun i => ?_⟩
    rw [combF_lin, combF_delta, if_pos ⟨by omega, by omega, hq⟩]
    have : A.getD (q - 0) [] = A[q] := by rw [Nat.sub_zero, List.getD_eq_getElem?_getD, List.getElem?_eq_getElem hq]; rfl
    rw [this]
    exact cg_add (ha i) cg_rfl
  | cgr _ he ih =>
    obtain ⟨α, ha⟩ := ih
    exact ⟨α, fun i => cg_trans (cg_sym (he i)) (ha i)⟩
/-- the combos of the first rows by factors that come to nothing span what is shared -/
theorem null_meet {A B N F : List (List Int)} (hA : ∀ a ∈ A, Row p w a) (hB : ∀ b ∈ B, Row p w b) (hN : ∀ h, Sp p N h ↔ ∃ f, Sp p (yRows (A ++ B).length 0 (A ++ B)) f ∧ (∀ i, i < w → cg p (f i) 0) ∧ ∀ i, cg p (h i) (f (w + i)))
    (row : List Int → List Int) (hrow : ∀ c ∈ N, ∀ i, cg p (co (row c) i) (combF (co c) 0 A i)) (hF : F = N.map row) (h : Nat → Int) : Sp p F h ↔ Sp p A h ∧ Sp p B h := by
  have hT : ∀ t ∈ A ++ B, t.length = w := fun t ht => (List.mem_append.mp ht).elim (fun z => (hA t z).n) fun z => (hB t z).n
  constructor
  · intro hh
    refine ⟨hh.trans fun r hr => ?_, hh.trans fun r hr => ?_⟩
    · rw [hF] at hr
      obtain ⟨c, hc, rfl⟩ := List.mem_map.mp hr
      exact (combF_sp (co c) A 0 fun _ h => h).cgr fun i => cg_sym (hrow c hc i)
    · rw [hF] at hr
      obtain ⟨c, hc, rfl⟩ := List.mem_map.mp hr
      obtain ⟨f, f1, f2, f3⟩ := (hN (co c)).mp (.mem hc)
      refine ((combF_sp (R := B) (co c) B (0 + A.length) fun _ h => h).smul (-1)).cgr fun i => cg_sym (cg_trans (hrow c hc i) ?_)
      rcases Nat.lt_or_ge i w with z | z
      · have e1 := cg_trans (cg_sym (f2 i z)) (y_from hT f1 i z)
        have e2 : cg p (combF (fun j => f (w + j)) 0 (A ++ B) i) (combF (co c) 0 (A ++ B) i) := combF_cg i _ 0 fun j _ _ => cg_sym (f3 j)
        have e3 := cg_trans e1 e2
        rw [combF_app] at e3
        have e4 := cg_sub (cg_sym e3) (cg_rfl (p := p) (a := combF (co c) (0 + A.length) B i))
        exact cg_trans (cg_of (by omega)) (cg_trans e4 (cg_of (by omega)))
      · rw [combF_ge z A 0 fun t ht => (hA t ht).n, combF_ge z B _ fun t ht => (hB t ht).n]; exact cg_of (by simp)
  · rintro ⟨ha, hb⟩
    obtain ⟨α, h1⟩ := sp_factors ha
    obtain ⟨β, h2⟩ := sp_factors hb
    have shift : ∀ (B : List (List Int)) (k : Nat) (i : Nat), combF (fun j => if j < A.length then α j else -β (j - A.length)) (k + A.length) B i = -combF β k B i := fun B => by
      induction B with
      | nil => intro k i; simp [combF]
      | cons b B ih =>
        intro k i
        show combF _ (k + A.length + 1) B i + (if k + A.length < A.length then α (k + A.length) else -β (k + A.length - A.length)) * co b i = -(combF β (k + 1) B i + β k * co b i)
        rw [show k + A.length + 1 = (k + 1) + A.length by omega, ih (k + 1) i, if_neg (by omega), Nat.add_sub_cancel, Int.neg_mul]
        omega
    obtain ⟨f, f1, f2, f3⟩ := y_to (p := p) (w := w) (m := (A ++ B).length) (fun j => if j < A.length then α j else -β (j - A.length)) (A ++ B) 0 hT (fun _ h => h) (by omega)
    have hleft : ∀ i, i < w → cg p (f i) 0 := fun i hi => by
      refine cg_trans (f2 i hi) ?_
      rw [combF_app, shift B 0 i]
      have e1 : cg p (combF (fun j => if j < A.length then α j else -β (j - A.length)) 0 A i) (combF α 0 A i) := combF_cg i A 0 fun j _ hj => cg_of (by rw [if_pos (by omega)])
      have e2 := cg_add (cg_trans e1 (cg_sym (h1 i))) (cg_sub (cg_rfl (p := p) (a := 0)) (cg_sym (h2 i)))
      exact cg_trans (cg_of (by omega)) (cg_trans e2 (cg_of (by omega)))
    have hNs : Sp p N (fun j => f (w + j)) := (hN _).mpr ⟨f, f1, hleft, fun _ => cg_rfl⟩
    have lin : ∀ {g : Nat → Int}, Sp p N g → Sp p F (combF g 0 A) := fun {g} hg => by
      induction hg with
      | zero => exact Sp.zero.cgr fun i => cg_of (combF_zero i A 0).symm
      | @add g c d _ hc ih =>
        refine (Sp.add d ih (by rw [hF]; exact List.mem_map.mpr ⟨c, hc, rfl⟩ : row c ∈ F)).cgr fun i => ?_
        rw [combF_lin]
        exact cg_add cg_rfl (cg_mul cg_rfl (hrow c hc i))
      | cgr _ he ih => exact ih.cgr fun i => combF_cg i A 0 fun j _ _ => he j
    refine (lin hNs).cgr fun i => cg_trans (combF_cg (δ := α) i A 0 fun j _ hj => ?_) (cg_sym (h1 i))
    refine cg_trans (f3 j) (cg_of ?_)
    rw [if_pos ⟨by omega, by simp; omega⟩, if_pos (by omega)]
end
end PM

set_option Elab.async false
set_option linter.all false
set_option maxRecDepth 100000
set_option maxHeartbeats 1000000
namespace DL
open PySem PySem.Spec L2

/-! ### data -/
inductive D where
  | non | bl (b : Bool) | int (i : Int) | str (x : Str)
  | tup (xs : List D) | lst (xs : List D) | frl (xs : List D) | dic (kvs : List (Key × D)) | ref (n : Nat) | obj (v : V)
  deriving Inhabited
/-- an object that may be stored into -/
inductive LO where
  | lst (xs : List D) | dic (kvs : List (Key × D))
abbrev LH := List LO
abbrev DEnv := List (Option D)
/-- the addresses of the objects that may be stored into; those of lists that are being made -/
structure Mu where
  m : List Addr
  x : List Addr
/-- a tuple that is read: its object known, without a dict of its own (and none of what is stored into), or of the module -/
def SqM (K : PySem.W.Frag) (m : List Addr) (H : Hp) (a : Addr) (xs : List V) : Prop :=
  (∃ o : Obj, H a = some (.frz o (.tup xs)) ∧ o.dict = none ∧ a ∉ m) ∨
    ∃ (o : Obj) (its : Array Value) (n : Nat), K.lookup a = some o ∧ o.cls = .type "tuple" ∧ o.dict = none ∧ o.data = .seq its n ∧ its.size ≤ sizeLine ∧ Vals xs its.toList
/-- a list that is read alone: tracked or locked (and none of what is stored into or being made), or of the module -/
def SqR (K : PySem.W.Frag) (M : Mu) (H : Hp) (a : Addr) (xs : List V) : Prop :=
  (Rd H a (.lst xs) ∧ a ∉ M.m ∧ a ∉ M.x) ∨
    ∃ (o : Obj) (its : Array Value) (n : Nat), K.lookup a = some o ∧ o.cls = .type "list" ∧ o.dict = none ∧ o.data = .seq its n ∧ its.size ≤ sizeLine ∧ Vals xs its.toList
mutual
def Rep (K : PySem.W.Frag) (M : Mu) (H : Hp) : D → V → Prop
  | .non, v => v = .non
  | .bl b, v => v = .bl b
  | .int i, v => v = .int i
  | .str x, v => v = .str x
  | .tup ds, v => ∃ a vs, v = .ref a ∧ SqM K M.m H a vs ∧ RepAll K M H ds vs
  | .lst ds, v => ∃ a vs, v = .ref a ∧ H a = some (.lst vs) ∧ a ∉ M.m ∧ a ∉ M.x ∧ RepAll K M H ds vs
  | .frl ds, v => ∃ a vs, v = .ref a ∧ SqR K M H a vs ∧ RepAll K M H ds vs
  | .dic ds, v => ∃ a kvs, v = .ref a ∧ Rd H a (.dK kvs) ∧ a ∉ M.m ∧ a ∉ M.x ∧ RepKV K M H ds kvs
  | .ref n, v => ∃ a, v = .ref a ∧ M.m[n]? = some a
  | .obj w, v => v = w
def RepAll (K : PySem.W.Frag) (M : Mu) (H : Hp) : List D → List V → Prop
  | [], vs => vs = []
  | d :: ds, vs => ∃ v r, vs = v :: r ∧ Rep K M H d v ∧ RepAll K M H ds r
def RepKV (K : PySem.W.Frag) (M : Mu) (H : Hp) : List (Key × D) → List (Key × V) → Prop
  | [], vs => vs = []
  | kd :: ds, vs => ∃ v r, vs = (kd.1, v) :: r ∧ Rep K M H kd.2 v ∧ RepKV K M H ds r
end
/-- all that is tracked stays, but what may be stored into (and the tables of code) -/
structure Ext (m : List Addr) (H H' : Hp) : Prop where
  keep : ∀ b o, b ∉ m → H b = some o → (∀ ps, o ≠ .tbl ps) → H' b = some o
  live : ∀ b, H b ≠ none → H' b ≠ none
/-- what may be stored into has grown by new objects -/
structure Grow (H : Hp) (M M' : Mu) : Prop where
  m : ∃ ex, M'.m = M.m ++ ex ∧ ∀ a ∈ ex, H a = none
  x : ∃ ex, M'.x = ex ++ M.x ∧ ∀ a ∈ ex, H a = none
theorem Ext.refl {m : List Addr} {H : Hp} : Ext m H H := ⟨fun _ _ _ h _ => h, fun _ h => h⟩
theorem Ext.trans {m : List Addr} {H H1 H2 : Hp} (a : Ext m H H1) (b : Ext m H1 H2) : Ext m H H2 := ⟨fun c o n h t => b.keep c o n (a.keep c o n h t) t, fun c h => b.live c (a.live c h)⟩
theorem Grow.refl {H : Hp} {M : Mu} : Grow H M M := ⟨⟨[], by simp, fun _ h => nomatch h⟩, ⟨[], by simp, fun _ h => nomatch h⟩⟩
theorem Ext.rd {m : List Addr} {H H' : Hp} {a : Addr} {u : HO} (e : Ext m H H') (n : a ∉ m) (h : Rd H a u) (ht : ∀ ps, u ≠ .tbl ps) : Rd H' a u := by
  rcases h with h | ⟨o, h⟩
  · exact .inl (e.keep _ _ n h ht)
  · exact .inr ⟨o, e.keep _ _ n h (fun ps z => nomatch z)⟩
theorem Rd.some' {H : Hp} {a : Addr} {u : HO} (h : Rd H a u) : H a ≠ none := by
  rcases h with h | ⟨o, h⟩ <;> rw [h] <;> exact fun z => nomatch z
theorem Ext.some {m : List Addr} {H H' : Hp} {a : Addr} {u : HO} (e : Ext m H H') (n : a ∉ m) (h : Rd H a u) (ht : ∀ ps, u ≠ .tbl ps) : H' a ≠ none := Rd.some' (e.rd n h ht)
section
variable {K : PySem.W.Frag} {M M' : Mu} {H H' : Hp}
theorem Grow.nm (g : Grow H M M') {a : Addr} (h : H a ≠ none) (n : a ∉ M.m) : a ∉ M'.m := by
  obtain ⟨ex, e, f⟩ := g.m
  rw [e]
  intro q
  rcases List.mem_append.mp q with q | q
  · exact n q
  · exact h (f a q)
theorem Grow.nx (g : Grow H M M') {a : Addr} (h : H a ≠ none) (n : a ∉ M.x) : a ∉ M'.x := by
  obtain ⟨ex, e, f⟩ := g.x
  rw [e]
  intro q
  rcases List.mem_append.mp q with q | q
  · exact h (f a q)
  · exact n q
theorem Grow.get (g : Grow H M M') {n : Nat} {a : Addr} (h : M.m[n]? = Option.some a) : M'.m[n]? = Option.some a := by
  obtain ⟨ex, e, f⟩ := g.m
  rw [e, List.getElem?_append_left (List.getElem?_eq_some_iff.mp h).1]
  exact h
theorem SqM.mono {a : Addr} {xs : List V} (e : Ext M.m H H') (g : Grow H M M') (h : SqM K M.m H a xs) : SqM K M'.m H' a xs := by
  rcases h with ⟨o, h, d, n⟩ | h
  · exact .inl ⟨o, e.keep _ _ n h (fun ps z => nomatch z), d, g.nm (by rw [h]; exact fun z => nomatch z) n⟩
  · exact .inr h
theorem SqR.l {K : PySem.W.Frag} {M : Mu} {H : Hp} {a : Addr} {vs : List V} (h : SqR K M H a vs) : SqL K H a vs := by
  rcases h with ⟨h, _⟩ | h
  · exact .inl h
  · exact .inr h
theorem SqR.mono {a : Addr} {xs : List V} (e : Ext M.m H H') (g : Grow H M M') (h : SqR K M H a xs) : SqR K M' H' a xs := by
  rcases h with ⟨h, n, n2⟩ | h
  · exact .inl ⟨e.rd n h (fun ps z => nomatch z), g.nm (Rd.some' h) n, g.nx (Rd.some' h) n2⟩
  · exact .inr h
mutual
theorem Rep.mono (e : Ext M.m H H') (g : Grow H M M') : ∀ (d : D) (v : V), Rep K M H d v → Rep K M' H' d v
  | .non, _, h => h
  | .bl _, _, h => h
  | .int _, _, h => h
  | .str _, _, h => h
  | .tup ds, _, ⟨a, vs, e1, h, r⟩ => ⟨a, vs, e1, h.mono e g, RepAll.mono e g ds vs r⟩
  | .lst ds, _, ⟨a, vs, e1, h, n, n2, r⟩ => ⟨a, vs, e1, e.keep a _ n h (fun ps z => nomatch z), g.nm (by rw [h]; exact fun z => nomatch z) n, g.nx (by rw [h]; exact fun z => nomatch z) n2, RepAll.mono e g ds vs r⟩
  | .frl ds, _, ⟨a, vs, e1, h, r⟩ => ⟨a, vs, e1, h.mono e g, RepAll.mono e g ds vs r⟩
  | .dic ds, _, ⟨a, vs, e1, h, n, n2, r⟩ => ⟨a, vs, e1, e.rd n h (fun ps z => nomatch z), g.nm (Rd.some' h) n, g.nx (Rd.some' h) n2, RepKV.mono e g ds vs r⟩
  | .ref _, _, ⟨a, e1, h⟩ => ⟨a, e1, g.get h⟩
  | .obj _, _, h => h
theorem RepAll.mono (e : Ext M.m H H') (g : Grow H M M') : ∀ (ds : List D) (vs : List V), RepAll K M H ds vs → RepAll K M' H' ds vs
  | [], _, h => h
  | d :: ds, _, ⟨v, r, e1, h, t⟩ => ⟨v, r, e1, Rep.mono e g d v h, RepAll.mono e g ds r t⟩
theorem RepKV.mono (e : Ext M.m H H') (g : Grow H M M') : ∀ (ds : List (Key × D)) (vs : List (Key × V)), RepKV K M H ds vs → RepKV K M' H' ds vs
  | [], _, h => h
  | kd :: ds, _, ⟨v, r, e1, h, t⟩ => ⟨v, r, e1, Rep.mono e g kd.2 v h, RepKV.mono e g ds r t⟩
end
end
/-! ### the heap of what may be stored into -/
def RepO (K : PySem.W.Frag) (M : Mu) (H : Hp) (a : Addr) : LO → Prop
  | .lst ds => ∃ vs, H a = some (.lst vs) ∧ RepAll K M H ds vs
  | .dic ds => ∃ vs, H a = some (.dK vs) ∧ RepKV K M H ds vs
structure Sim (K : PySem.W.Frag) (M : Mu) (H : Hp) (L : LH) : Prop where
  len : M.m.length = L.length
  nod : M.m.Nodup
  at_ : ∀ (n : Nat) (a : Addr) (o : LO), M.m[n]? = some a → L[n]? = some o → RepO K M H a o
  xs : ∀ a ∈ M.x, H a ≠ none
theorem RepO.some' {K : PySem.W.Frag} {M : Mu} {H : Hp} {a : Addr} {o : LO} (h : RepO K M H a o) : H a ≠ none := by
  cases o with
  | lst ds => obtain ⟨vs, e, _⟩ := h; rw [e]; exact fun z => nomatch z
  | dic ds => obtain ⟨vs, e, _⟩ := h; rw [e]; exact fun z => nomatch z
theorem Sim.ms {K : PySem.W.Frag} {M : Mu} {H : Hp} {L : LH} (s : Sim K M H L) : ∀ a ∈ M.m, H a ≠ none := fun a ha => by
  obtain ⟨n, hn, e⟩ := List.getElem_of_mem ha
  have hl : n < L.length := by rw [← s.len]; exact hn
  exact (s.at_ n a L[n] (by rw [List.getElem?_eq_getElem hn, e]) (List.getElem?_eq_getElem hl)).some'
/-- a new object that is not stored into -/
theorem Ext.new {m : List Addr} {H : Hp} {p : Addr} {o : HO} (h : H p = none) : Ext m H (upd H p o) := ⟨fun b u _ e _ => by
  rw [upd_ne (ne_of_none e h)]; exact e, fun b e => by
  by_cases z : b = p
  · rw [z, upd_same]; exact fun z => nomatch z
  · rw [upd_ne z]; exact e⟩
theorem RepO.keep {K : PySem.W.Frag} {M : Mu} {H H' : Hp} {a : Addr} (e : Ext M.m H H') (ha : H' a = H a) : ∀ {o : LO}, RepO K M H a o → RepO K M H' a o
  | .lst ds, ⟨vs, q, r⟩ => ⟨vs, ha.trans q, RepAll.mono e Grow.refl ds vs r⟩
  | .dic ds, ⟨vs, q, r⟩ => ⟨vs, ha.trans q, RepKV.mono e Grow.refl ds vs r⟩
theorem Sim.new {K : PySem.W.Frag} {M : Mu} {H : Hp} {L : LH} {p : Addr} {o : HO} (s : Sim K M H L) (h : H p = none) : Sim K M (upd H p o) L where
  len := s.len
  nod := s.nod
  at_ := fun n a u e1 e2 => (s.at_ n a u e1 e2).keep (Ext.new h) (upd_ne (fun z => by
    have q := s.ms a (List.mem_of_getElem? e1)
    rw [z] at q; exact q h))
  xs := fun a ha => by
    have q := s.xs a ha
    by_cases z : a = p
    · rw [z, upd_same]; exact fun z => nomatch z
    · rw [upd_ne z]; exact q

theorem Grow.trans {H H1 : Hp} {M M1 M2 : Mu} (g : Grow H M M1) (x : Ext M.m H H1) (g2 : Grow H1 M1 M2) : Grow H M M2 := by
  obtain ⟨ex, e, f⟩ := g.m
  obtain ⟨ex2, e2, f2⟩ := g2.m
  obtain ⟨ey, e3, f3⟩ := g.x
  obtain ⟨ey2, e4, f4⟩ := g2.x
  have nn : ∀ a, H1 a = none → H a = none := fun a q => Classical.byContradiction fun z => x.live a z q
  refine ⟨⟨ex ++ ex2, by rw [e2, e, List.append_assoc], fun a ha => ?_⟩, ⟨ey2 ++ ey, by rw [e4, e3, List.append_assoc], fun a ha => ?_⟩⟩
  · rcases List.mem_append.mp ha with q | q
    · exact f a q
    · exact nn a (f2 a q)
  · rcases List.mem_append.mp ha with q | q
    · exact nn a (f4 a q)
    · exact f3 a q
theorem Ext.over {H H1 H2 : Hp} {M M1 : Mu} (x : Ext M.m H H1) (g : Grow H M M1) (y : Ext M1.m H1 H2) : Ext M.m H H2 :=
  ⟨fun b o n h t => y.keep b o (g.nm (by rw [h]; exact fun z => nomatch z) n) (x.keep b o n h t) t, fun b h => y.live b (x.live b h)⟩
/-! ### results -/
structure Exn where
  cls : Str
  val : Option (Str × D)
inductive R (α : Type) where
  | ok (a : α) (L : LH) | exc (e : Exn) (L : LH) | no
/-- how an exception is borne -/
def XR (K : PySem.W.Frag) (ct : Str → Option Addr) (M : Mu) (e : Exn) (cls : Value) (dd : Option Addr) (H : Hp) : Prop :=
  ∃ C, ct e.cls = some C ∧ cls = .ref C ∧ match e.val with
    | none => True
    | some (f, d) => ∃ a v, dd = some a ∧ H a = some (.xd [(f, v)]) ∧ a ∉ M.m ∧ Rep K M H d v
/-- the slots -/
def EnvR (K : PySem.W.Frag) (M : Mu) (H : Hp) (env : DEnv) (σ : St) : Prop := σ.length = env.length ∧ ∀ (i : Nat) (d : D), env[i]? = some (some d) → ∃ v, σ[i]? = some (some v) ∧ Rep K M H d v
theorem EnvR.mono {K : PySem.W.Frag} {M M' : Mu} {H H' : Hp} {env : DEnv} {σ : St} (e : Ext M.m H H') (g : Grow H M M') (h : EnvR K M H env σ) : EnvR K M' H' env σ :=
  ⟨h.1, fun i d q => let ⟨v, e1, r⟩ := h.2 i d q; ⟨v, e1, r.mono e g⟩⟩
theorem EnvR.set {K : PySem.W.Frag} {M : Mu} {H : Hp} {env : DEnv} {σ : St} {i : Nat} {d : D} {v : V} (h : EnvR K M H env σ) (r : Rep K M H d v) : EnvR K M H (env.set i (some d)) (σ.set i (some v)) := by
  refine ⟨by simp [h.1], fun j d' q => ?_⟩
  by_cases e : i = j
  · subst e
    by_cases hl : i < env.length
    · rw [List.getElem?_set_self hl] at q
      have q' : d = d' := by simpa using q
      subst q'
      exact ⟨v, by rw [List.getElem?_set_self (by rw [h.1]; exact hl)], r⟩
    · rw [List.set_eq_of_length_le (by omega)] at q
      have := (List.getElem?_eq_some_iff.mp q).1
      omega
  · rw [List.getElem?_set_ne e] at q
    obtain ⟨v', e1, r'⟩ := h.2 j d' q
    exact ⟨v', by rw [List.getElem?_set_ne e]; exact e1, r'⟩
/-- K and the classes of errors -/
structure Sg where
  K : PySem.W.Frag
  ct : Str → Option Addr
variable {S : Sg}
abbrev WH := Value → Option Addr → Hp → Prop
/-- what a result must lead to: P of the value, the heap of what may be stored into, the abstract heap -/
def PostG {α : Type} (S : Sg) (w : WH) (M : Mu) (H : Hp) (P : α → LH → Hp → Prop) : R α → Prop
  | .ok a L => ∀ H', Ext M.m H H' → Sim S.K M H' L → P a L H'
  | .exc e L => ∀ cls dd H', Ext M.m H H' → Sim S.K M H' L → XR S.K S.ct M e cls dd H' → w cls dd H'
  | .no => False
def R.bind {α β : Type} : R α → (α → LH → R β) → R β
  | .ok a L, k => k a L
  | .exc e L, _ => .exc e L
  | .no, _ => .no
def PV (S : Sg) (M : Mu) (Q : VK) (d : D) (_ : LH) (H' : Hp) : Prop := ∀ v, Rep S.K M H' d v → Q v H'
def PVA (S : Sg) (M : Mu) (Q : List V → Hp → Prop) (d : List D) (_ : LH) (H' : Hp) : Prop := ∀ v, RepAll S.K M H' d v → Q v H'
theorem PostG.ext {α : Type} {w : WH} {M : Mu} {H H1 : Hp} {P : α → LH → Hp → Prop} (x1 : Ext M.m H H1) : ∀ {r : R α}, PostG S w M H P r → PostG S w M H1 P r
  | .ok _ _, q => fun H2 x2 s2 => q H2 (x1.trans x2) s2
  | .exc _ _, q => fun c dd H2 x2 s2 r2 => q c dd H2 (x1.trans x2) s2 r2
  | .no, q => q
theorem PostG.imp {α : Type} {w : WH} {M : Mu} {H : Hp} {P P' : α → LH → Hp → Prop} (i : ∀ a L H', Ext M.m H H' → Sim S.K M H' L → P a L H' → P' a L H') : ∀ {r : R α}, PostG S w M H P r → PostG S w M H P' r
  | .ok _ _, q => fun H2 x2 s2 => i _ _ H2 x2 s2 (q H2 x2 s2)
  | .exc _ _, q => q
  | .no, q => q
theorem PostG.bind {α β : Type} {w : WH} {M : Mu} {H : Hp} {P : β → LH → Hp → Prop} {k : α → LH → R β} : ∀ {r : R α}, PostG S w M H P (r.bind k) → PostG S w M H (fun a L1 H1 => PostG S w M H1 P (k a L1)) r
  | .ok _ _, q => fun H2 x2 s2 => PostG.ext x2 q
  | .exc _ _, q => q
  | .no, q => q
/-- one, then the next -/
theorem PostG.seq {α β : Type} {w : WH} {M : Mu} {H : Hp} {P : β → LH → Hp → Prop} {P' : α → LH → Hp → Prop} {k : α → LH → R β} {r : R α} (h : PostG S w M H P (r.bind k))
    (i : ∀ a L1 H1, Ext M.m H H1 → Sim S.K M H1 L1 → PostG S w M H1 P (k a L1) → P' a L1 H1) : PostG S w M H P' r := h.bind.imp i
abbrev DE := DEnv → LH → R D
abbrev DA := DEnv → LH → R (List D)
/-- the reading of an expression that gives what f tells -/
def tD (S : Sg) (W : St → WH) (f : DE) : TE := fun σ H Q => ∃ env L M, EnvR S.K M H env σ ∧ Sim S.K M H L ∧ PostG S (W σ) M H (PV S M Q) (f env L)
def tDA (S : Sg) (W : St → WH) (f : DA) : TA := fun σ H Q => ∃ env L M, EnvR S.K M H env σ ∧ Sim S.K M H L ∧ PostG S (W σ) M H (PVA S M Q) (f env L)
/-- weaken the reading -/
theorem pe_imp {X : Cx} {e : Expr} {t t' : TE} (h : PE X e t) (i : ∀ σ H Q, t' σ H Q → t σ H Q) : PE X e t' := ⟨fun pins s σ H Q I q => h.run pins s σ H Q I (i σ H Q q)⟩
theorem pa_imp {X : Cx} {e : List Expr} {t t' : TA} (h : PA X e t) (i : ∀ σ H Q, t' σ H Q → t σ H Q) : PA X e t' := ⟨fun p pins s σ H Q I q => h.run p pins s σ H Q I (i σ H Q q)⟩
theorem pt_imp {X : Cx} {e : Expr} {t t' : TT} (h : PT X e t) (i : ∀ σ H Q, t' σ H Q → t σ H Q) : PT X e t' := ⟨fun pins s σ H Q I q => h.run pins s σ H Q I (i σ H Q q)⟩
theorem ps_imp {X : Cx} {e : Stmt} {t t' : TS} (h : PS X e t) (i : ∀ D σ H, t' D σ H → t D σ H) : PS X e t' := ⟨fun pins s σ H D I q => h.run pins s σ H D I (i D σ H q)⟩
theorem pss_imp {X : Cx} {e : List Stmt} {t t' : TS} (h : PSs X e t) (i : ∀ D σ H, t' D σ H → t D σ H) : PSs X e t' := ⟨fun pins s σ H D I q => h.run pins s σ H D I (i D σ H q)⟩
end DL

set_option Elab.async false
set_option linter.all false
set_option maxRecDepth 100000
set_option maxHeartbeats 1000000
namespace DL
open PySem PySem.Spec L2
variable {S : Sg} {X : Cx} {W : St → WH}

/-! ### the functions -/
def dVar (i : Nat) : DE := fun env L => match env[i]? with
  | some (some d) => .ok d L
  | _ => .no
def dC (d : D) : DE := fun _ L => .ok d L
/-- two values, then a function of both -/
def d2 (k : D → D → LH → R D) (f g : DE) : DE := fun env L => (f env L).bind fun a L1 => (g env L1).bind fun b L2 => k a b L2
def d1 (k : D → LH → R D) (f : DE) : DE := fun env L => (f env L).bind k
def orNo : Option D → LH → R D
  | some d, L => .ok d L
  | none, _ => .no
def daNil : DA := fun _ L => .ok [] L
def daCons (f : DE) (g : DA) : DA := fun env L => (f env L).bind fun a L1 => (g env L1).bind fun b L2 => .ok (a :: b) L2
/-- the arguments, then a function of them -/
def dL (k : List D → LH → R D) (g : DA) : DE := fun env L => (g env L).bind k

/-! ### names and constants -/
theorem de_var {i : Nat} {e : Expr} (h : PE X e (tVar i)) : PE X e (tD S W (dVar i)) := pe_imp h fun σ H Q ⟨env, L, M, he, hs, hp⟩ => by
  unfold dVar at hp
  split at hp
  · rename_i d e
    obtain ⟨v, e1, r⟩ := he.2 i d e
    exact ⟨v, e1, hp H Ext.refl hs v r⟩
  · exact hp.elim
theorem de_c {d : D} {v : V} {e : Expr} (h : PE X e (tC v)) (r : ∀ M H, Rep S.K M H d v) : PE X e (tD S W (dC d)) := pe_imp h fun σ H Q ⟨env, L, M, he, hs, hp⟩ => hp H Ext.refl hs v (r M H)
theorem de_int {i : Int} {j pos} : PE X (.Constant (.int i) j pos) (tD S W (dC (.int i))) := de_c pe_int fun _ _ => rfl
theorem de_bl {b : Bool} {j pos} : PE X (.Constant (.bool b) j pos) (tD S W (dC (.bl b))) := de_c pe_bl fun _ _ => rfl
theorem de_non {j pos} : PE X (.Constant .none j pos) (tD S W (dC .non)) := de_c pe_non fun _ _ => rfl
theorem de_str {x : Str} {j pos} : PE X (.Constant (.str x) j pos) (tD S W (dC (.str x))) := de_c pe_str fun _ _ => rfl

/-! ### two values, an operator -/
/-- a rule r of two values does what k tells -/
def Does2 (S : Sg) (r : R2) (k : D → D → LH → R D) : Prop := ∀ (M : Mu) (H : Hp) (L : LH) (a b : D) (x y : V) (Q : VK) (w : WH), Sim S.K M H L → Rep S.K M H a x → Rep S.K M H b y → PostG S w M H (PV S M Q) (k a b L) → r x y H Q
def Does1 (S : Sg) (r : V → Hp → VK → Prop) (k : D → LH → R D) : Prop := ∀ (M : Mu) (H : Hp) (L : LH) (a : D) (x : V) (Q : VK) (w : WH), Sim S.K M H L → Rep S.K M H a x → PostG S w M H (PV S M Q) (k a L) → r x H Q
def DoesL (S : Sg) (r : List V → Hp → VK → Prop) (k : List D → LH → R D) : Prop := ∀ (M : Mu) (H : Hp) (L : LH) (a : List D) (x : List V) (Q : VK) (w : WH), Sim S.K M H L → RepAll S.K M H a x → PostG S w M H (PV S M Q) (k a L) → r x H Q
theorem tD2 {f g : DE} {k : D → D → LH → R D} {r : R2} (hk : Does2 S r k) (σ : St) (H : Hp) (Q : VK) : tD S W (d2 k f g) σ H Q → tOp r (tD S W f) (tD S W g) σ H Q := by
  rintro ⟨env, L, M, he, hs, hp⟩
  refine ⟨env, L, M, he, hs, PostG.seq hp fun a L1 H1 x1 s1 q v ra => ⟨env, L1, M, he.mono x1 Grow.refl, s1, PostG.seq q fun b L2 H2 x2 s2 q2 y rb => ?_⟩⟩
  exact hk M H2 L2 a b v y Q _ s2 (ra.mono x2 Grow.refl) rb q2
theorem tD1 {f : DE} {k : D → LH → R D} {r : V → Hp → VK → Prop} (hk : Does1 S r k) (σ : St) (H : Hp) (Q : VK) : tD S W (d1 k f) σ H Q → tUn r (tD S W f) σ H Q := by
  rintro ⟨env, L, M, he, hs, hp⟩
  refine ⟨env, L, M, he, hs, PostG.seq hp fun a L1 H1 x1 s1 q v ra => ?_⟩
  exact hk M H1 L1 a v Q _ s1 ra q
theorem tDL {g : DA} {k : List D → LH → R D} {r : List V → Hp → VK → Prop} (hk : DoesL S r k) (σ : St) (H : Hp) (Q : VK) : tD S W (dL k g) σ H Q → tCB r (tDA S W g) σ H Q := by
  rintro ⟨env, L, M, he, hs, hp⟩
  refine ⟨env, L, M, he, hs, PostG.seq hp fun a L1 H1 x1 s1 q v ra => ?_⟩
  exact hk M H1 L1 a v Q _ s1 ra q
theorem da_nil : PA X [] (tDA S W daNil) := pa_imp pa_nil fun σ H Q ⟨env, L, M, he, hs, hp⟩ => hp H Ext.refl hs [] rfl
theorem da_cons {e : Expr} {es : List Expr} {f : DE} {g : DA} (hf : PE X e (tD S W f)) (hg : PA X es (tDA S W g)) (h : PA X es (tDA S W g) → PE X e (tD S W f) → PA X (e :: es) (tCons (tD S W f) (tDA S W g))) : PA X (e :: es) (tDA S W (daCons f g)) := pa_imp (h hg hf) fun σ H Q => by
  rintro ⟨env, L, M, he, hs, hp⟩
  refine ⟨env, L, M, he, hs, PostG.seq hp fun a L1 H1 x1 s1 q v ra => ⟨env, L1, M, he.mono x1 Grow.refl, s1, PostG.seq q fun b L2 H2 x2 s2 q2 y rb => ?_⟩⟩
  exact q2 H2 Ext.refl s2 _ ⟨v, y, rfl, ra.mono x2 Grow.refl, rb⟩
theorem de_op {a b : Expr} {op : Operator} {f g : DE} {k : D → D → LH → R D} {r : R2} {pos : Pos} (ho : OpR X (binaryOp op) r) (hk : Does2 S r k) (ha : PE X a (tD S W f)) (hb : PE X b (tD S W g)) : PE X (.BinOp a op b pos) (tD S W (d2 k f g)) := pe_imp (pe_op ho ha hb) (tD2 hk)
theorem de_cmp {a b : Expr} {op : CmpOp} {f g : DE} {k : D → D → LH → R D} {r : R2} {pos : Pos} (ho : OpR X (compareOp op) r) (hk : Does2 S r k) (ha : PE X a (tD S W f)) (hb : PE X b (tD S W g)) (hm : behindInMarks op b = false) : PE X (.Compare a [op] [b] pos) (tD S W (d2 k f g)) := pe_imp (pe_cmpR ho ha hb hm) (tD2 hk)
/-! ### ints -/
def k2I (p : Int → Int → Option D) : D → D → LH → R D := fun a b L => match a, b with
  | .int i, .int j => orNo (p i j) L
  | _, _ => .no
theorem does_int {C : Int → Int → Prop} {g : Int → Int → V} {p : Int → Int → Option D} (h : ∀ i j d, p i j = some d → C i j ∧ ∀ M H, Rep S.K M H d (g i j)) : Does2 S (rI C g) (k2I p) := by
  intro M H L a b x y Q w hs ra rb hp
  unfold k2I at hp
  split at hp
  · rename_i i j
    cases e : p i j with
    | none => rw [e] at hp; exact hp.elim
    | some d =>
      rw [e] at hp
      obtain ⟨c, r⟩ := h i j d e
      exact ⟨i, j, ra, rb, c, hp H Ext.refl hs _ (r M H)⟩
  · exact hp.elim
theorem does_int0 {g : Int → Int → V} {p : Int → Int → D} (h : ∀ i j M H, Rep S.K M H (p i j) (g i j)) : Does2 S (rI0 g) (k2I fun i j => some (p i j)) := by
  intro M H L a b x y Q w hs ra rb hp
  unfold k2I at hp
  split at hp
  · rename_i i j
    exact ⟨i, j, ra, rb, hp H Ext.refl hs _ (h i j M H)⟩
  · exact hp.elim
def kAdd := k2I fun i j => some (.int (i + j))
def kSub := k2I fun i j => some (.int (i - j))
def small64 (i : Int) : Bool := decide (-(2 ^ 64) < i ∧ i < 2 ^ 64)
def kMul := k2I fun i j => if small64 i || small64 j then some (.int (i * j)) else none
def kMod := k2I fun i j => if 0 < j then some (.int (i % j)) else none
def kDiv := k2I fun i j => if 0 < j ∧ j < 1073741824 then some (.int (i / j)) else none
def kLt := k2I fun i j => some (.bl (decide (i < j)))
def kLe := k2I fun i j => some (.bl (decide (i ≤ j)))
def kGt := k2I fun i j => some (.bl (decide (j < i)))
def kGe := k2I fun i j => some (.bl (decide (j ≤ i)))
theorem does_add : Does2 S (rI0 fun i j => .int (i + j)) kAdd := does_int0 fun _ _ _ _ => rfl
theorem does_sub : Does2 S (rI0 fun i j => .int (i - j)) kSub := does_int0 fun _ _ _ _ => rfl
theorem does_lt : Does2 S (rI0 fun i j => .bl (decide (i < j))) kLt := does_int0 fun _ _ _ _ => rfl
theorem does_le : Does2 S (rI0 fun i j => .bl (decide (i ≤ j))) kLe := does_int0 fun _ _ _ _ => rfl
theorem does_gt : Does2 S (rI0 fun i j => .bl (decide (j < i))) kGt := does_int0 fun _ _ _ _ => rfl
theorem does_ge : Does2 S (rI0 fun i j => .bl (decide (j ≤ i))) kGe := does_int0 fun _ _ _ _ => rfl
theorem does_mul : Does2 S (rI CMul fun i j => .int (i * j)) kMul := does_int fun i j d h => by
  by_cases e : (small64 i || small64 j) = true
  · rw [if_pos e] at h
    have h' : d = .int (i * j) := by simpa using h.symm
    subst h'
    refine ⟨?_, fun _ _ => rfl⟩
    rw [Bool.or_eq_true] at e
    exact e.imp (fun q => of_decide_eq_true q) (fun q => of_decide_eq_true q)
  · rw [if_neg e] at h; cases h
theorem does_mod : Does2 S (rI (fun _ j => 0 < j) fun i j => .int (i % j)) kMod := does_int fun i j d h => by
  by_cases e : 0 < j
  · rw [if_pos e] at h
    have h' : d = .int (i % j) := by simpa using h.symm
    subst h'
    exact ⟨e, fun _ _ => rfl⟩
  · rw [if_neg e] at h; cases h
theorem does_div : Does2 S (rI CDiv fun i j => .int (i / j)) kDiv := does_int fun i j d h => by
  by_cases e : 0 < j ∧ j < 1073741824
  · rw [if_pos e] at h
    have h' : d = .int (i / j) := by simpa using h.symm
    subst h'
    exact ⟨e, fun _ _ => rfl⟩
  · rw [if_neg e] at h; cases h
end DL

set_option Elab.async false
set_option linter.all false
set_option maxRecDepth 100000
set_option maxHeartbeats 1000000
namespace DL
open PySem PySem.Spec L2
variable {S : Sg} {X : Cx} {W : St → WH}
/-! ### lists and tuples read -/
/-- the items of a list (false) or a tuple (true) -/
def seqD (L : LH) : D → Option (Bool × List D)
  | .tup ds => some (true, ds)
  | .lst ds => some (false, ds)
  | .frl ds => some (false, ds)
  | .ref n => match L[n]? with
    | some (.lst ds) => some (false, ds)
    | _ => none
  | _ => none
def SqB (K : PySem.W.Frag) (H : Hp) (b : Bool) (a : Addr) (vs : List V) : Prop := if b = true then SqT K H a vs else SqL K H a vs
theorem SqM.t {K : PySem.W.Frag} {m : List Addr} {H : Hp} {a : Addr} {vs : List V} (h : SqM K m H a vs) : SqT K H a vs := by
  rcases h with ⟨o, h, _, _⟩ | ⟨o, its, n, h1, h2, _, h3, h4, h5⟩
  · exact .inl (.inr ⟨o, h⟩)
  · exact .inr ⟨o, its, n, h1, h2, h3, h4, h5⟩
theorem seqD_ok {M : Mu} {H : Hp} {L : LH} (s : Sim S.K M H L) : ∀ {d : D} {v : V} {b : Bool} {ds : List D}, Rep S.K M H d v → seqD L d = some (b, ds) → ∃ a vs, v = .ref a ∧ SqB S.K H b a vs ∧ RepAll S.K M H ds vs := by
  intro d v b ds r e
  cases d with
  | tup xs =>
    have e' : (true, xs) = (b, ds) := Option.some.inj e
    cases e'
    obtain ⟨a, vs, e1, h, q⟩ := r
    exact ⟨a, vs, e1, h.t, q⟩
  | lst xs =>
    have e' : (false, xs) = (b, ds) := Option.some.inj e
    cases e'
    obtain ⟨a, vs, e1, h, _, _, q⟩ := r
    exact ⟨a, vs, e1, .inl (.inl h), q⟩
  | frl xs =>
    have e' : (false, xs) = (b, ds) := Option.some.inj e
    cases e'
    obtain ⟨a, vs, e1, h, q⟩ := r
    exact ⟨a, vs, e1, h.l, q⟩
  | ref n =>
    obtain ⟨a, e1, hm⟩ := r
    have e0 : (match L[n]? with | some (.lst ds) => some (false, ds) | _ => none) = some (b, ds) := e
    cases hl : L[n]? with
    | none => rw [hl] at e0; cases e0
    | some o =>
      rw [hl] at e0
      cases o with
      | lst xs =>
        have e' : (false, xs) = (b, ds) := Option.some.inj e0
        cases e'
        obtain ⟨vs, h, q⟩ := s.at_ n a _ hm hl
        exact ⟨a, vs, e1, .inl (.inl h), q⟩
      | dic _ => cases e0
  | non => cases e
  | bl _ => cases e
  | int _ => cases e
  | str _ => cases e
  | dic _ => cases e
  | obj _ => cases e
theorem RepAll.len {K : PySem.W.Frag} {M : Mu} {H : Hp} : ∀ {ds : List D} {vs : List V}, RepAll K M H ds vs → vs.length = ds.length
  | [], _, h => by cases h; rfl
  | _ :: _, _, ⟨v, r, e, _, t⟩ => by rw [e, List.length_cons, List.length_cons, RepAll.len t]
theorem RepAll.get {K : PySem.W.Frag} {M : Mu} {H : Hp} : ∀ {ds : List D} {vs : List V} {i : Nat} {d : D}, RepAll K M H ds vs → ds[i]? = some d → ∃ v, vs[i]? = some v ∧ Rep K M H d v
  | [], _, _, _, _, e => by simp at e
  | _ :: _, _, 0, _, ⟨v, r, e1, h, t⟩, e => by
    have e' := Option.some.inj e
    subst e' e1
    exact ⟨v, rfl, h⟩
  | _ :: _, _, i + 1, _, ⟨v, r, e1, h, t⟩, e => by
    subst e1
    exact RepAll.get (i := i) t (by simpa using e)
theorem RepAll.get' {K : PySem.W.Frag} {M : Mu} {H : Hp} : ∀ {ds : List D} {vs : List V} {i : Nat} {v : V}, RepAll K M H ds vs → vs[i]? = some v → ∃ d, ds[i]? = some d ∧ Rep K M H d v
  | [], _, _, _, h, e => by cases h; simp at e
  | _ :: _, _, 0, _, ⟨v, r, e1, h, t⟩, e => by
    subst e1
    have e' := Option.some.inj e
    subst e'
    exact ⟨_, rfl, h⟩
  | _ :: _, _, i + 1, _, ⟨v, r, e1, h, t⟩, e => by
    subst e1
    obtain ⟨d, e2, q⟩ := RepAll.get' (i := i) t (by simpa using e)
    exact ⟨d, by simpa using e2, q⟩
theorem RepAll.app {K : PySem.W.Frag} {M : Mu} {H : Hp} : ∀ {ds es : List D} {vs us : List V}, RepAll K M H ds vs → RepAll K M H es us → RepAll K M H (ds ++ es) (vs ++ us)
  | [], _, _, _, h, q => by cases h; exact q
  | _ :: _, _, _, _, ⟨v, r, e1, h, t⟩, q => ⟨v, r ++ _, by rw [e1]; rfl, h, RepAll.app t q⟩
theorem RepAll.drop {K : PySem.W.Frag} {M : Mu} {H : Hp} : ∀ {ds : List D} {vs : List V} (n : Nat), RepAll K M H ds vs → RepAll K M H (ds.drop n) (vs.drop n)
  | _, _, 0, h => h
  | [], _, _ + 1, h => by cases h; rfl
  | _ :: _, _, n + 1, ⟨v, r, e1, h, t⟩ => by subst e1; exact RepAll.drop n t
theorem RepAll.take {K : PySem.W.Frag} {M : Mu} {H : Hp} : ∀ {ds : List D} {vs : List V} (n : Nat), RepAll K M H ds vs → RepAll K M H (ds.take n) (vs.take n)
  | _, _, 0, h => by rw [List.take_zero, List.take_zero]; rfl
  | [], _, _ + 1, h => by cases h; rfl
  | _ :: _, _, n + 1, ⟨v, r, e1, h, t⟩ => by subst e1; exact ⟨v, r.take n, rfl, h, RepAll.take n t⟩
theorem RepAll.rep {K : PySem.W.Frag} {M : Mu} {H : Hp} {ds : List D} {vs : List V} (h : RepAll K M H ds vs) : ∀ n, RepAll K M H (List.replicate n ds).flatten (List.replicate n vs).flatten
  | 0 => rfl
  | n + 1 => by
    rw [List.replicate_succ, List.replicate_succ, List.flatten_cons, List.flatten_cons]
    exact h.app (RepAll.rep h n)
theorem RepAll.set {K : PySem.W.Frag} {M : Mu} {H : Hp} {d : D} {v : V} (hd : Rep K M H d v) : ∀ {ds : List D} {vs : List V} (i : Nat), RepAll K M H ds vs → RepAll K M H (ds.set i d) (vs.set i v)
  | [], _, _, h => by cases h; rfl
  | _ :: _, _, 0, ⟨u, r, e1, h, t⟩ => by subst e1; exact ⟨v, r, rfl, hd, t⟩
  | _ :: _, _, i + 1, ⟨u, r, e1, h, t⟩ => by subst e1; exact ⟨u, r.set i v, rfl, h, RepAll.set hd i t⟩
theorem RepAll.one {K : PySem.W.Frag} {M : Mu} {H : Hp} {d : D} {v : V} (h : Rep K M H d v) : RepAll K M H [d] [v] := ⟨v, [], rfl, h, rfl⟩
theorem RepAll.two {K : PySem.W.Frag} {M : Mu} {H : Hp} {d e : D} {vs : List V} (h : RepAll K M H [d, e] vs) : ∃ v u, vs = [v, u] ∧ Rep K M H d v ∧ Rep K M H e u := by
  obtain ⟨v, r, e1, h1, u, r2, e2, h2, e3⟩ := h
  cases e3
  subst e2
  exact ⟨v, u, e1, h1, h2⟩
theorem RepAll.single {K : PySem.W.Frag} {M : Mu} {H : Hp} {d : D} {vs : List V} (h : RepAll K M H [d] vs) : ∃ v, vs = [v] ∧ Rep K M H d v := by
  obtain ⟨v, r, e1, h1, e3⟩ := h
  cases e3
  exact ⟨v, e1, h1⟩
theorem RepAll.ints {K : PySem.W.Frag} {M : Mu} {H : Hp} : ∀ {is : List Int} {vs : List V}, RepAll K M H (is.map D.int) vs → vs = is.map V.int
  | [], _, h => h
  | i :: is, _, ⟨v, r, e1, h, t⟩ => by
    have h' : v = .int i := h
    rw [e1, h', RepAll.ints t]; rfl
theorem RepAll.of_ints {K : PySem.W.Frag} {M : Mu} {H : Hp} : ∀ (is : List Int), RepAll K M H (is.map D.int) (is.map V.int)
  | [] => rfl
  | i :: is => ⟨_, _, rfl, rfl, RepAll.of_ints is⟩
theorem RepAll.bls {K : PySem.W.Frag} {M : Mu} {H : Hp} : ∀ {is : List Bool} {vs : List V}, RepAll K M H (is.map D.bl) vs → vs = is.map V.bl
  | [], _, h => h
  | i :: is, _, ⟨v, r, e1, h, t⟩ => by
    have h' : v = .bl i := h
    rw [e1, h', RepAll.bls t]; rfl
/-! ### new objects -/
theorem post_new {w : WH} {M : Mu} {H : Hp} {L : LH} {P : D → LH → Hp → Prop} {d : D} (hp : PostG S w M H P (.ok d L)) (hs : Sim S.K M H L) {p : Addr} {o : HO} (hn : H p = none) : P d L (upd H p o) := hp _ (Ext.new hn) (hs.new hn)
theorem nm_new {K : PySem.W.Frag} {M : Mu} {H : Hp} {L : LH} (hs : Sim K M H L) {p : Addr} (hn : H p = none) : p ∉ M.m ∧ p ∉ M.x := ⟨fun z => hs.ms p z hn, fun z => hs.xs p z hn⟩
theorem rep_tup_new {M : Mu} {H : Hp} {L : LH} (hs : Sim S.K M H L) {p : Addr} (hn : H p = none) {o : Obj} (ho : o.dict = none) {ds : List D} {vs : List V} (r : RepAll S.K M H ds vs) : Rep S.K M (upd H p (.frz o (.tup vs))) (.tup ds) (.ref p) :=
  ⟨p, vs, rfl, .inl ⟨o, upd_same, ho, (nm_new hs hn).1⟩, r.mono (Ext.new hn) Grow.refl⟩
theorem rep_lst_new {M : Mu} {H : Hp} {L : LH} (hs : Sim S.K M H L) {p : Addr} (hn : H p = none) {ds : List D} {vs : List V} (r : RepAll S.K M H ds vs) : Rep S.K M (upd H p (.lst vs)) (.lst ds) (.ref p) :=
  ⟨p, vs, rfl, upd_same, (nm_new hs hn).1, (nm_new hs hn).2, r.mono (Ext.new hn) Grow.refl⟩
def fits (n : Nat) : Bool := decide (n ≤ 16777216)
theorem fits_ok {n : Nat} (h : fits n = true) : n ≤ sizeLine := by rw [sizeLine_eq]; exact of_decide_eq_true h
/-- (a, b, ..): a new tuple, its object known -/
def tTupF (t : TA) : TE := fun σ H Q => t σ H fun xs H1 => xs.length ≤ sizeLine ∧ ∀ p (o : Obj), H1 p = none → o.dict = none → Q (.ref p) (upd H1 p (.frz o (.tup xs)))
theorem pe_tupF {es : List Expr} {x1} {pos : Pos} {t : TA} (h : PA X es t) : PE X (.Tuple es x1 pos) (tTupF t) := ⟨fun pins s σ H Q I hq =>
  wpAny_Tuple_spliced (thn (h.run pos pins s σ H _ I hq) fun us s1 ⟨xs, H1, I1, r, z, q⟩ => ⟨by rw [← r.length]; exact z,
    .ref s1.heap.objs.size, upd H1 s1.heap.objs.size (.frz { cls := .type "tuple", data := .seq us.toArray } (.tup xs)), I1.laid (t' := s1.toks) (fun b u e => Heap.get?_push_of_some _ e) (Nat.le_refl _) ⟨Heap.get?_push_size _ rfl, z, us, r, _, Heap.get?_push_size _ rfl, rfl, _, rfl⟩, rfl, q _ _ (I1.hok.fresh (Nat.le_refl _)) rfl⟩)⟩
def kTup : List D → LH → R D := fun ds L => if fits ds.length then .ok (.tup ds) L else .no
def kLst : List D → LH → R D := fun ds L => if fits ds.length then .ok (.lst ds) L else .no
theorem de_tup {es : List Expr} {x1} {pos : Pos} {g : DA} (ha : PA X es (tDA S W g)) : PE X (.Tuple es x1 pos) (tD S W (dL kTup g)) := pe_imp (pe_tupF ha) fun σ H Q => by
  rintro ⟨env, L, M, he, hs, hp⟩
  refine ⟨env, L, M, he, hs, PostG.seq hp fun ds L1 H1 x1 s1 q vs r => ?_⟩
  unfold kTup at q
  split at q
  · rename_i hf
    exact ⟨by rw [r.len]; exact fits_ok hf, fun p o hn ho => post_new q s1 hn _ (rep_tup_new s1 hn ho r)⟩
  · exact q.elim
theorem de_lst {es : List Expr} {pos : Pos} {g : DA} (ha : PA X es (tDA S W g)) : PE X (.List es pos) (tD S W (dL kLst g)) := pe_imp (pe_lst ha) fun σ H Q => by
  rintro ⟨env, L, M, he, hs, hp⟩
  refine ⟨env, L, M, he, hs, PostG.seq hp fun ds L1 H1 x1 s1 q vs r => ?_⟩
  unfold kLst at q
  split at q
  · rename_i hf
    exact ⟨by rw [r.len]; exact fits_ok hf, fun p hn => post_new q s1 hn _ (rep_lst_new s1 hn r)⟩
  · exact q.elim
/-! ### len, items -/
def kLen : List D → LH → R D := fun ds L => match ds with
  | [d] => match seqD L d with
    | some (_, xs) => .ok (.int xs.length) L
    | none => .no
  | _ => .no
theorem does_len : DoesL S (fun xs H Q => ∃ x n, xs = [x] ∧ LenV S.K x H n ∧ Q (.int n) H) kLen := by
  intro M H L a x Q w hs ra hp
  unfold kLen at hp
  split at hp
  · rename_i d
    split at hp
    · rename_i b xs e
      obtain ⟨v, rfl, r⟩ := ra.single
      obtain ⟨a, vs, rfl, h, q⟩ := seqD_ok hs r e
      refine ⟨_, xs.length, rfl, ?_, hp H Ext.refl hs _ rfl⟩
      cases b with
      | true => exact .inr ⟨vs, h, q.len.symm⟩
      | false => exact .inl ⟨vs, h, q.len.symm⟩
    · exact hp.elim
  · exact hp.elim
def kIx : D → D → LH → R D := fun a b L => match seqD L a, b with
  | some (_, xs), .int i => orNo (atI xs i) L
  | _, _ => .no
theorem atI_rep {K : PySem.W.Frag} {M : Mu} {H : Hp} {ds : List D} {vs : List V} {i : Int} {d : D} (r : RepAll K M H ds vs) (e : atI ds i = some d) : ∃ v, atI vs i = some v ∧ Rep K M H d v := by
  unfold atI at e ⊢
  rw [r.len]
  cases q : ixN ds.length i with
  | none => rw [q] at e; cases e
  | some j =>
    rw [q] at e
    exact r.get e
theorem does_ix : Does2 S (rIx S.K) kIx := by
  intro M H L a b x y Q w hs ra rb hp
  unfold kIx at hp
  split at hp
  · rename_i bb xs i e
    cases q : atI xs i with
    | none => rw [q] at hp; exact hp.elim
    | some d =>
      rw [q] at hp
      obtain ⟨a, vs, rfl, h, r⟩ := seqD_ok hs ra e
      obtain ⟨v, e2, rv⟩ := atI_rep r q
      have fin := hp H Ext.refl hs v rv
      cases bb with
      | true => exact .inr (.inl ⟨a, vs, i, v, rfl, rb, h, e2, fin⟩)
      | false => exact .inl ⟨a, vs, i, v, rfl, rb, h, e2, fin⟩
  · exact hp.elim
theorem de_ix {a b : Expr} {f g : DE} {pos : Pos} (hK : X.K = S.K) (ha : PE X a (tD S W f)) (hb : PE X b (tD S W g)) (hs : PlainIx b) : PE X (.Subscript a b pos) (tD S W (d2 kIx f g)) := pe_imp (pe_ix (r := rIx S.K) (by rw [← hK]; exact ix_seq) ha hb hs) (tD2 does_ix)
end DL

set_option Elab.async false
set_option linter.all false
set_option maxRecDepth 100000
set_option maxHeartbeats 4000000
namespace DL
open PySem PySem.Spec PyProof.Rows L2
theorem tuple_mulSame (l : Addr) (items : Array Value) (n : Nat) (dd : Option Addr) (sl : Array (Option Value)) (x : Int) (u : Tok) (c0 : (decide (x < -(2 ^ 63)) || decide (x ≥ 2 ^ 63)) = false) (c1 : (items.isEmpty || x == 1) = true) :
    Meets (Builtin.«tuple.__mul__» ⟨[.ref l, .int x u], []⟩) (fun _ R s => s.heap.get? l = some { cls := .type "tuple", dict := dd, data := .seq items n, slots := sl } ∧
      R (.ok (.ret (Value.ref l))) s) :=
  .of_wp fun prog w A R s h => by
    obtain ⟨hp, g, d, tk, os⟩ := s
    obtain ⟨hl, h⟩ := h
    have f1 := AutoSeq1.idx_int
    wp_walk using wpAny_loadPart' hl
    repeat (first
      | (refine wpAny_ite_false (decide_eq_false (by rw [c0]; exact Bool.false_ne_true)) ?_; wp_walk using wpAny_loadPart' hl)
      | (rw [if_pos c1]; wp_walk using wpAny_loadPart' hl))
    exact ⟨_, rfl, h⟩
theorem tuple_mulZero (l : Addr) (items : Array Value) (n : Nat) (dd : Option Addr) (sl : Array (Option Value)) (x : Int) (u : Tok) (c0 : (decide (x < -(2 ^ 63)) || decide (x ≥ 2 ^ 63)) = false) (c1 : (items.isEmpty || x == 1) = false) (c2 : (decide (x ≤ 0) || items.isEmpty) = true) :
    Meets (Builtin.«tuple.__mul__» ⟨[.ref l, .int x u], []⟩) (fun _ R s => s.heap.get? l = some { cls := .type "tuple", dict := dd, data := .seq items n, slots := sl } ∧
      R (.ok (.ret (Value.ref s.heap.objs.size))) { s with heap := s.heap.push { cls := Value.type "tuple", data := Data.seq #[] }, toks := s.toks }) :=
  .of_wp fun prog w A R s h => by
    obtain ⟨hp, g, d, tk, os⟩ := s
    obtain ⟨hl, h⟩ := h
    have f1 := AutoSeq1.idx_int
    wp_walk using wpAny_loadPart' hl
    repeat (first
      | (refine wpAny_ite_false (decide_eq_false (by rw [c0]; exact Bool.false_ne_true)) ?_; wp_walk using wpAny_loadPart' hl)
      | (refine wpAny_ite_false (decide_eq_false (by rw [c1]; exact Bool.false_ne_true)) ?_; wp_walk using wpAny_loadPart' hl)
      | (rw [if_pos c2]; wp_walk using wpAny_loadPart' hl))
    exact ⟨_, rfl, h⟩
def rRepA (K : PySem.W.Frag) : R2 := fun x y H Q => ∃ l k xs, x = .ref l ∧ y = .int k ∧ SqT K H l xs ∧ -(2 ^ 63) ≤ k ∧ k < 2 ^ 63 ∧ xs.length * k.toNat ≤ sizeLine ∧ (xs = [] ∨ k = 1 → Q (.ref l) H) ∧
  (xs ≠ [] → k ≠ 1 → ∀ p (o : Obj), H p = none → o.dict = none → Q (.ref p) (upd H p (.frz o (.tup (List.replicate k.toNat xs).flatten))))
theorem op_repA {X : Cx} : OpR X (binaryOp .Mult) (rRepA X.K) := by
  intro pins s σ H x y v u Q I rx ry h
  obtain ⟨l, k, xs, rfl, rfl, hT, h1, h2, hz, q1, q2⟩ := h
  cases rx
  obtain ⟨t, rfl⟩ := ry
  obtain ⟨its, r, ⟨⟨cls, dd, data, sl⟩, ho, hc, n, hd⟩, hs⟩ := I.tuple hT
  simp only at hc hd
  subst hc hd
  have hle : its.length = xs.length := r.length.symm
  have c0 : (decide (k < -(2 ^ 63)) || decide (k ≥ 2 ^ 63)) = false := by
    rw [decide_eq_false (by omega), decide_eq_false (by omega)] <;> rfl
  by_cases e1 : xs = [] ∨ k = 1
  · have c1 : (its.toArray.isEmpty || k == 1) = true := by
      rcases e1 with e | e
      · have : its = [] := List.eq_nil_of_length_eq_zero (by rw [hle, e]; rfl)
        rw [this]; rfl
      · rw [e]; simp
    refine wpAny_binaryOp_repeat_ref (T := "tuple") (U := "int") (by decide) ⟨_, ho, rfl⟩ (fun s' => typeIs_int s' k t) noFill_tuple_mul F.fills_int_mul F.slot_int_rmul repeat_tuple F.slot_int_index.lookup
      (call_meets F.slot_int_rmul (typeIs_int s k t) F.entry_int_rmul (F.args_int_rmul_2 _ _) (int_rmul_tuple k t l its.toArray n dd sl)
        ⟨ho, rfl, ⟨_, ho, rfl⟩, call_meets F.slot_tuple_mul ⟨_, ho, rfl⟩ F.entry_tuple_mul (F.args_tuple_mul_2 _ _) (tuple_mulSame l its.toArray n dd sl k t c0 c1) ⟨ho, ?_⟩⟩)
    exact ⟨.ref l, H, I, rfl, q1 e1⟩
  · have hne : xs ≠ [] := fun e => e1 (.inl e)
    have hk1 : k ≠ 1 := fun e => e1 (.inr e)
    have hn : its ≠ [] := fun e => hne (by
      rw [e] at hle
      exact List.eq_nil_of_length_eq_zero hle.symm)
    have hi : its.toArray.isEmpty = false := by
      cases its with
      | nil => exact absurd rfl hn
      | cons a b => rfl
    have hsz0 : its.toArray.size = xs.length := by rw [List.size_toArray, hle]
    have c1 : (its.toArray.isEmpty || k == 1) = false := by
      rw [hi, Bool.false_or]
      exact beq_eq_false_iff_ne.mpr hk1
    by_cases k0 : k ≤ 0
    · have c2 : (decide (k ≤ 0) || its.toArray.isEmpty) = true := by rw [decide_eq_true k0]; rfl
      refine wpAny_binaryOp_repeat_ref (T := "tuple") (U := "int") (by decide) ⟨_, ho, rfl⟩ (fun s' => typeIs_int s' k t) noFill_tuple_mul F.fills_int_mul F.slot_int_rmul repeat_tuple F.slot_int_index.lookup
        (call_meets F.slot_int_rmul (typeIs_int s k t) F.entry_int_rmul (F.args_int_rmul_2 _ _) (int_rmul_tuple k t l its.toArray n dd sl)
          ⟨ho, rfl, ⟨_, ho, rfl⟩, call_meets F.slot_tuple_mul ⟨_, ho, rfl⟩ F.entry_tuple_mul (F.args_tuple_mul_2 _ _) (tuple_mulZero l its.toArray n dd sl k t c0 c1 c2) ⟨ho, ?_⟩⟩)
      have ek : k.toNat = 0 := by omega
      have q := q2 hne hk1
      rw [ek, List.replicate_zero, List.flatten_nil] at q
      refine ⟨.ref s.heap.objs.size, _, I.laid (t' := s.toks) (o := .frz { cls := Value.type "tuple", data := Data.seq #[] } (.tup [])) (fun b ob q => Heap.get?_push_of_some _ q) (Nat.le_refl _) ?_, rfl, q _ _ (I.hok.fresh (Nat.le_refl _)) rfl⟩
      exact ⟨Heap.get?_push_size _ rfl, Nat.zero_le _, [], .nil, IsTup.new _ _⟩
    · have hm : ((its.toArray.size : Nat) : Int) * k ≤ 16777216 := by
        rw [hsz0]
        have a0 : ((xs.length * k.toNat : Nat) : Int) ≤ 16777216 := by rw [sizeLine_eq] at hz; exact Int.ofNat_le.mpr hz
        rw [Int.natCast_mul, Int.toNat_of_nonneg (by omega)] at a0
        exact a0
      have flen : (List.replicate k.toNat its).flatten.length ≤ sizeLine := by
        rw [PyProof.Rows.lm_len_rep_flat, hle, Nat.mul_comm]
        exact hz
      have c2 : (decide (k ≤ 0) || its.toArray.isEmpty) = false := by
        rw [hi, Bool.or_false]
        exact decide_eq_false k0
      have c4 : Builtin.Tuple.tupleTooMany (((its.toArray.size : Nat) : Int) * k) = false := by
        unfold Builtin.Tuple.tupleTooMany
        rw [sizeLine_eq]
        exact decide_eq_false (by omega)
      refine wpAny_binaryOp_repeat_ref (T := "tuple") (U := "int") (by decide) ⟨_, ho, rfl⟩ (fun s' => typeIs_int s' k t) noFill_tuple_mul F.fills_int_mul F.slot_int_rmul repeat_tuple F.slot_int_index.lookup
        (call_meets F.slot_int_rmul (typeIs_int s k t) F.entry_int_rmul (F.args_int_rmul_2 _ _) (int_rmul_tuple k t l its.toArray n dd sl)
          ⟨ho, rfl, ⟨_, ho, rfl⟩, call_meets F.slot_tuple_mul ⟨_, ho, rfl⟩ F.entry_tuple_mul (F.args_tuple_mul_2 _ _) (tuple_mulW l its.toArray n dd sl k t c0 c1 c2 (by omega) c4 (by rw [size_rep, List.size_toArray]; exact flen)) ⟨ho, ?_⟩⟩)
      rw [size_rep]
      refine ⟨.ref s.heap.objs.size, _, I.laid (t' := s.toks) (o := .frz { cls := .type "tuple", data := .seq (List.replicate k.toNat its).flatten.toArray } (.tup (List.replicate k.toNat xs).flatten)) (fun b ob q => Heap.get?_push_of_some _ q) (Nat.le_refl _) ?_, rfl, q2 hne hk1 _ _ (I.hok.fresh (Nat.le_refl _)) rfl⟩
      exact ⟨Heap.get?_push_size _ rfl, by rw [PyProof.Rows.lm_len_rep_flat, Nat.mul_comm]; exact hz, _, r.rep k.toNat, IsTup.new _ _⟩
end DL

set_option Elab.async false
set_option linter.all false
set_option maxRecDepth 100000
set_option maxHeartbeats 1000000
namespace DL
open PySem PySem.Spec PyProof.Rows L2
/-! ### new tuples, their objects known -/
variable {X : Cx}
def rCatF (K : PySem.W.Frag) : R2 := fun x y H Q => ∃ a b xs ys, x = .ref a ∧ y = .ref b ∧ SqT K H a xs ∧ SqT K H b ys ∧ xs.length + ys.length ≤ sizeLine ∧
  (xs = [] → Q (.ref b) H) ∧ (xs ≠ [] → ys = [] → Q (.ref a) H) ∧ (xs ≠ [] → ys ≠ [] → ∀ p (o : Obj), H p = none → o.dict = none → Q (.ref p) (upd H p (.frz o (.tup (xs ++ ys)))))
theorem op_catF : OpR X (binaryOp .Add) (rCatF X.K) := by
  intro pins s σ H x y v u Q I rx ry ⟨a, b, xs, ys, ex, ey, ha, hb, hz, q0, q1, q2⟩
  subst ex; subst ey; cases rx; cases ry
  obtain ⟨its, r1, p1, _⟩ := I.tuple ha; obtain ⟨its2, r2, p2, _⟩ := I.tuple hb
  by_cases hx : xs = []
  · subst hx; cases r1
    exact cat_tup0 p1 p2 ⟨.ref b, H, I, rfl, q0 rfl⟩
  · refine HT.cat_tup p1 p2 (fun z => hx (r1.nil_iff.mp z)) (fun z => ⟨.ref a, H, I, rfl, q1 hx (r2.nil_iff.mp z)⟩) (fun z => ?_) (by rw [← r1.length, ← r2.length]; exact hz)
    exact ⟨.ref s.heap.objs.size, _, I.laid (t' := s.toks) (o := .frz { cls := .type "tuple", data := .seq (its ++ its2).toArray } (.tup (xs ++ ys))) (fun b ob q => Heap.get?_push_of_some _ q) (Nat.le_refl _) ⟨Heap.get?_push_size _ rfl, by rw [List.length_append]; exact hz, _, r1.append r2, IsTup.new _ _⟩, rfl, q2 hx (fun w => z (r2.nil_iff.mpr w)) _ _ (I.hok.fresh (Nat.le_refl _)) rfl⟩
def rSlF (K : PySem.W.Frag) : V → Option Int → Option Int → Hp → VK → Prop := fun x lo hi H Q => ∃ a xs, x = .ref a ∧ SqT K H a xs ∧
  (HT.sIx xs.length 0 lo = 0 ∧ HT.sIx xs.length xs.length hi = xs.length → Q (.ref a) H) ∧ (¬ (HT.sIx xs.length 0 lo = 0 ∧ HT.sIx xs.length xs.length hi = xs.length) → ∀ p (o : Obj), H p = none → o.dict = none → Q (.ref p) (upd H p (.frz o (.tup (cutV xs lo hi)))))
theorem sl_tupF : SlR X (rSlF X.K) := by
  intro pins s σ H x v vl vu lo hi sl Q I rx hs pl pu ⟨a, xs, ex, hx, q1, q2⟩
  subst ex; cases rx
  obtain ⟨its, r, ht, hz⟩ := I.tuple hx
  have hlen : its.toArray.size = xs.length := by rw [List.size_toArray]; exact r.length.symm
  refine ⟨"tuple", _, PyProof.Rows.slot_tuple_getitem.lookup, ht.typeIs, ?_⟩
  by_cases hw : HT.sIx xs.length 0 lo = 0 ∧ HT.sIx xs.length xs.length hi = xs.length
  · exact getItem_tuple_whole ht hs pl pu (by rw [hlen]; exact hw) ⟨.ref a, H, I, rfl, q1 hw⟩
  · refine HT.getItem_tuple_cut ht hs pl pu (by rw [hlen]; exact hw) ?_ (by rw [hlen]; exact hz)
    rw [hlen]
    exact ⟨.ref s.heap.objs.size, _, I.laid (t' := s.toks) (o := .frz { cls := .type "tuple", data := .seq ((its.toArray.toList.drop (HT.sIx xs.length 0 lo)).take (HT.sIx xs.length xs.length hi - HT.sIx xs.length 0 lo)).toArray } (.tup (cutV xs lo hi))) (fun b ob q => Heap.get?_push_of_some _ q) (Nat.le_refl _)
      ⟨Heap.get?_push_size _ rfl, Nat.le_trans (cutV_length xs lo hi) hz, _, (r.drop (HT.sIx xs.length 0 lo)).take (HT.sIx xs.length xs.length hi - HT.sIx xs.length 0 lo), IsTup.new _ _⟩, rfl, q2 hw _ _ (I.hok.fresh (Nat.le_refl _)) rfl⟩
theorem call_tupF : CallR X (.type "tuple") (fun xs H Q => ∃ p ys, xs = [.ref p] ∧ ((SqL X.K H p ys ∧ ∀ l (o : Obj), H l = none → o.dict = none → Q (.ref l) (upd H l (.frz o (.tup ys)))) ∨ (SqT X.K H p ys ∧ Q (.ref p) H))) := by
  intro pins s σ H xs us Q I r ⟨p, ys, ex, h⟩
  subst ex
  rw [Vals.ref1 r]
  rcases h with ⟨hq, q⟩ | ⟨hq, q⟩
  · obtain ⟨its, r', pl, hz⟩ := I.list hq; have hlen := r'.length
    refine call_tuple_list pl.isList (fun h' kp => ?_) (by simp only [List.size_toArray] <;> omega)
    have I1 : Inv X pins σ H { s with heap := h' } := I.kept (t' := s.toks) kp
    exact ⟨.ref h'.objs.size, _, I1.laid (t' := s.toks) (o := .frz { cls := .type "tuple", data := .seq its.toArray } (.tup ys)) (fun b o e => Heap.get?_push_of_some _ e) (Nat.le_refl _) ⟨Heap.get?_push_size _ rfl, hz, its, r', IsTup.new _ _⟩, rfl, q _ _ (I1.hok.fresh (Nat.le_refl _)) rfl⟩
  · obtain ⟨its, r', pl, hz⟩ := I.tuple hq; exact call_tuple_same pl ⟨.ref p, H, I, rfl, q⟩
end DL

set_option Elab.async false
set_option linter.all false
set_option maxRecDepth 100000
set_option maxHeartbeats 1000000
namespace DL
open PySem PySem.Spec L2
variable {S : Sg} {X : Cx} {W : St → WH}
/-! ### either of two rules -/
def rOr (r r' : R2) : R2 := fun x y H Q => r x y H Q ∨ r' x y H Q
theorem op_or {f : Value → Value → Sem Value} {r r' : R2} (h : OpR X f r) (h' : OpR X f r') : OpR X f (rOr r r') := by
  intro pins s σ H x y v u Q I rx ry q
  rcases q with q | q
  · exact h pins s σ H x y v u Q I rx ry q
  · exact h' pins s σ H x y v u Q I rx ry q
def rOrL (r r' : List V → Hp → VK → Prop) : List V → Hp → VK → Prop := fun x H Q => r x H Q ∨ r' x H Q
theorem call_or {f : Value} {r r' : List V → Hp → VK → Prop} (h : CallR X f r) (h' : CallR X f r') : CallR X f (rOrL r r') := by
  intro pins s σ H x v Q I rx q
  rcases q with q | q
  · exact h pins s σ H x v Q I rx q
  · exact h' pins s σ H x v Q I rx q
/-- a list that stands by itself -/
def lstD (L : LH) : D → Option (List D)
  | .lst ds => some ds
  | .ref n => match L[n]? with
    | some (.lst ds) => some ds
    | _ => none
  | _ => none
theorem lstD_ok {M : Mu} {H : Hp} {L : LH} (s : Sim S.K M H L) : ∀ {d : D} {v : V} {ds : List D}, Rep S.K M H d v → lstD L d = some ds → ∃ a vs, v = .ref a ∧ H a = some (.lst vs) ∧ RepAll S.K M H ds vs := by
  intro d v ds r e
  cases d with
  | lst xs =>
    have e' : xs = ds := Option.some.inj e
    subst e'
    obtain ⟨a, vs, e1, h, _, _, q⟩ := r
    exact ⟨a, vs, e1, h, q⟩
  | ref n =>
    obtain ⟨a, e1, hm⟩ := r
    have e0 : (match L[n]? with | some (.lst ds) => some ds | _ => none) = some ds := e
    cases hl : L[n]? with
    | none => rw [hl] at e0; cases e0
    | some o =>
      rw [hl] at e0
      cases o with
      | lst xs =>
        have e' : xs = ds := Option.some.inj e0
        subst e'
        obtain ⟨vs, h, q⟩ := s.at_ n a _ hm hl
        exact ⟨a, vs, e1, h, q⟩
      | dic _ => cases e0
  | tup _ => cases e
  | frl _ => cases e
  | non => cases e
  | bl _ => cases e
  | int _ => cases e
  | str _ => cases e
  | dic _ => cases e
  | obj _ => cases e
def tupD : D → Option (List D)
  | .tup ds => some ds
  | _ => none
theorem tupD_ok {M : Mu} {H : Hp} : ∀ {d : D} {v : V} {ds : List D}, Rep S.K M H d v → tupD d = some ds → ∃ a vs, v = .ref a ∧ SqT S.K H a vs ∧ RepAll S.K M H ds vs ∧ d = .tup ds := by
  intro d v ds r e
  cases d with
  | tup xs =>
    have e' : xs = ds := Option.some.inj e
    subst e'
    obtain ⟨a, vs, e1, h, q⟩ := r
    exact ⟨a, vs, e1, h.t, q, rfl⟩
  | _ => cases e
theorem RepAll.nil_iff {K : PySem.W.Frag} {M : Mu} {H : Hp} {ds : List D} {vs : List V} (r : RepAll K M H ds vs) : vs = [] ↔ ds = [] := by
  cases ds with
  | nil => have : vs = [] := r; simp [this]
  | cons d ds => obtain ⟨v, t, e, _⟩ := r; simp [e]
/-! ### a + b -/
def plusSeq (L : LH) (a b : D) : R D := match tupD a, tupD b with
  | some xs, some ys => if fits (xs.length + ys.length) then .ok (.tup (xs ++ ys)) L else .no
  | _, _ => match lstD L a, lstD L b with
    | some xs, some ys => if fits (xs.length + ys.length) then .ok (.lst (xs ++ ys)) L else .no
    | _, _ => .no
def kPlus : D → D → LH → R D := fun a b L => match a with
  | .int i => (match b with
    | .int j => .ok (.int (i + j)) L
    | _ => .no)
  | .str x => (match b with
    | .str y => if fits (x.length + y.length) then .ok (.str (x ++ y)) L else .no
    | _ => .no)
  | _ => plusSeq L a b
def rPlus (K : PySem.W.Frag) : R2 := rOr (rI0 fun i j => .int (i + j)) (rOr (fun x y H Q => ∃ i j, x = .str i ∧ y = .str j ∧ i.length + j.length ≤ sizeLine ∧ Q (.str (i ++ j)) H) (rOr (rCatF K) rCat))
theorem op_plus : OpR X (binaryOp .Add) (rPlus X.K) := op_or op_add (op_or op_add_str (op_or op_catF op_cat))
theorem plusSeq_ok {M : Mu} {H : Hp} {L : LH} {a b : D} {x y : V} {Q : VK} {w : WH} (hs : Sim S.K M H L) (ra : Rep S.K M H a x) (rb : Rep S.K M H b y) (hp : PostG S w M H (PV S M Q) (plusSeq L a b)) : rOr (rCatF S.K) rCat x y H Q := by
  unfold plusSeq at hp
  split at hp
  · rename_i xs ys e1 e2
    obtain ⟨p, vs, rfl, h1, r1, rfl⟩ := tupD_ok ra e1
    obtain ⟨q, us, rfl, h2, r2, rfl⟩ := tupD_ok rb e2
    split at hp
    · rename_i hf
      refine .inl ⟨p, q, vs, us, rfl, rfl, h1, h2, by rw [r1.len, r2.len]; exact fits_ok hf, fun z => ?_, fun _ z => ?_, fun _ _ l o hn ho => post_new hp hs hn _ (rep_tup_new hs hn ho (r1.app r2))⟩
      · have z' := r1.nil_iff.mp z
        subst z'
        exact hp H Ext.refl hs _ rb
      · have z' := r2.nil_iff.mp z
        subst z'
        rw [List.append_nil] at hp
        exact hp H Ext.refl hs _ ra
    · exact hp.elim
  · split at hp
    · rename_i xs ys e1 e2
      obtain ⟨p, vs, rfl, h1, r1⟩ := lstD_ok hs ra e1
      obtain ⟨q, us, rfl, h2, r2⟩ := lstD_ok hs rb e2
      split at hp
      · rename_i hf
        exact .inr ⟨p, q, vs, us, rfl, rfl, h1, h2, by rw [r1.len, r2.len]; exact fits_ok hf, fun l hn => post_new hp hs hn _ (rep_lst_new hs hn (r1.app r2))⟩
      · exact hp.elim
    · exact hp.elim
theorem does_plus : Does2 S (rPlus S.K) kPlus := by
  intro M H L a b x y Q w hs ra rb hp
  unfold kPlus at hp
  split at hp
  · split at hp
    · exact .inl ⟨_, _, ra, rb, hp H Ext.refl hs _ rfl⟩
    · exact hp.elim
  · split at hp
    · split at hp
      · rename_i hf
        exact .inr (.inl ⟨_, _, ra, rb, fits_ok hf, hp H Ext.refl hs _ rfl⟩)
      · exact hp.elim
    · exact hp.elim
  · exact .inr (.inr (plusSeq_ok hs ra rb hp))
/-! ### a * b -/
def mulOk (i j : Int) : Bool := small64 i || small64 j || decide (i.natAbs.log2 + j.natAbs.log2 < 1000000)
def repOk (n : Nat) (k : Int) : Bool := decide (-(2 ^ 63) ≤ k ∧ k < 2 ^ 63) && fits (n * k.toNat)
def kTimes : D → D → LH → R D := fun a b L => match b with
  | .int k => (match a with
    | .int i => if mulOk i k then .ok (.int (i * k)) L else .no
    | .tup xs => if repOk xs.length k then .ok (.tup (List.replicate k.toNat xs).flatten) L else .no
    | _ => match lstD L a with
      | some xs => if repOk xs.length k then .ok (.lst (List.replicate k.toNat xs).flatten) L else .no
      | none => .no)
  | _ => .no
def rTimes (K : PySem.W.Frag) : R2 := rOr (rI CMul fun i j => .int (i * j)) (rOr (rI CMulW fun i j => .int (i * j)) (rOr (rRepA K) rRep))
theorem op_times : OpR X (binaryOp .Mult) (rTimes X.K) := op_or op_mul (op_or op_mulW (op_or op_repA op_rep))
theorem does_times : Does2 S (rTimes S.K) kTimes := by
  intro M H L a b x y Q w hs ra rb hp
  unfold kTimes at hp
  split at hp
  · rename_i k
    split at hp
    · rename_i i
      split at hp
      · rename_i hm
        have fin := hp H Ext.refl hs _ rfl
        unfold mulOk at hm
        rw [Bool.or_eq_true, Bool.or_eq_true] at hm
        rcases hm with (hm | hm) | hm
        · exact .inl ⟨_, _, ra, rb, .inl (of_decide_eq_true hm), fin⟩
        · exact .inl ⟨_, _, ra, rb, .inr (of_decide_eq_true hm), fin⟩
        · exact .inr (.inl ⟨_, _, ra, rb, (of_decide_eq_true hm : i.natAbs.log2 + k.natAbs.log2 < 1000000), fin⟩)
      · exact hp.elim
    · rename_i xs
      split at hp
      · rename_i hf
        obtain ⟨p, vs, rfl, h, r⟩ := id ra
        unfold repOk at hf
        rw [Bool.and_eq_true] at hf
        obtain ⟨f1, f2⟩ := hf
        obtain ⟨f3, f4⟩ := of_decide_eq_true f1
        refine .inr (.inr (.inl ⟨p, k, vs, rfl, rb, h.t, f3, f4, by rw [r.len]; exact fits_ok f2, fun z => ?_, fun _ _ l o hn ho => post_new hp hs hn _ (rep_tup_new hs hn ho (r.rep k.toNat))⟩))
        rcases z with z | z
        · have z' := r.nil_iff.mp z
          subst z'
          have e : (List.replicate k.toNat ([] : List D)).flatten = [] := by simp
          rw [e] at hp
          exact hp H Ext.refl hs _ ra
        · subst z
          have e : (List.replicate (1 : Int).toNat xs).flatten = xs := by simp
          rw [e] at hp
          exact hp H Ext.refl hs _ ra
      · exact hp.elim
    · split at hp
      · rename_i xs e
        split at hp
        · rename_i hf
          unfold repOk at hf
          rw [Bool.and_eq_true] at hf
          obtain ⟨f1, f2⟩ := hf
          obtain ⟨f3, f4⟩ := of_decide_eq_true f1
          obtain ⟨p, vs, rfl, h, r⟩ := lstD_ok hs ra e
          exact .inr (.inr (.inr ⟨p, k, vs, rfl, rb, h, f3, f4, by rw [r.len]; exact fits_ok f2, fun l hn => post_new hp hs hn _ (rep_lst_new hs hn (r.rep k.toNat))⟩))
        · exact hp.elim
      · exact hp.elim
  · exact hp.elim
/-! ### // % ** of any size -/
def CPowW (i j : Int) : Prop := 0 ≤ j ∧ (Builtin.Int.intBits i : Int) * j ≤ 2 ^ 27
theorem op_powW : OpR X (binaryOp .Pow) (rI CPowW fun i j => .int (i ^ j.toNat)) := by
  intro pins s σ H x y v u Q I rx ry h
  obtain ⟨i, j, rfl, rfl, c, q⟩ := h
  obtain ⟨t, rfl⟩ := rx
  obtain ⟨t', rfl⟩ := ry
  exact PyProof.Rows.pow_int c.1 c.2 ⟨.int _, H, I.tok _, ⟨_, rfl⟩, q⟩
def kPow := k2I fun i j => if 0 ≤ j ∧ (Builtin.Int.intBits i : Int) * j ≤ 2 ^ 27 then some (.int (i ^ j.toNat)) else none
theorem does_pow : Does2 S (rI CPowW fun i j => .int (i ^ j.toNat)) kPow := does_int fun i j d h => by
  by_cases e : 0 ≤ j ∧ (Builtin.Int.intBits i : Int) * j ≤ 2 ^ 27
  · rw [if_pos e] at h
    have h' : d = .int (i ^ j.toNat) := by simpa using h.symm
    subst h'
    exact ⟨e, fun _ _ => rfl⟩
  · rw [if_neg e] at h; cases h
def kDivW := k2I fun i j => if 0 < j ∧ j.natAbs.log2 < 9000 then some (.int (i / j)) else none
theorem does_divW : Does2 S (rI CDivW fun i j => .int (i / j)) kDivW := does_int fun i j d h => by
  by_cases e : 0 < j ∧ j.natAbs.log2 < 9000
  · rw [if_pos e] at h
    have h' : d = .int (i / j) := by simpa using h.symm
    subst h'
    exact ⟨e, fun _ _ => rfl⟩
  · rw [if_neg e] at h; cases h
/-! ### slices -/
def cutD (xs : List D) (lo hi : Option Int) : List D := (xs.drop (HT.sIx xs.length 0 lo)).take (HT.sIx xs.length xs.length hi - HT.sIx xs.length 0 lo)
theorem cut_rep {K : PySem.W.Frag} {M : Mu} {H : Hp} {ds : List D} {vs : List V} (lo hi : Option Int) (r : RepAll K M H ds vs) : RepAll K M H (cutD ds lo hi) (cutV vs lo hi) := by
  unfold cutD cutV
  rw [r.len]
  exact (r.drop _).take _
def kSlice (lo hi : Option Int) (a : D) (L : LH) : R D := match a with
  | .tup xs => .ok (.tup (cutD xs lo hi)) L
  | _ => match seqD L a with
    | some (false, xs) => .ok (.lst (cutD xs lo hi)) L
    | _ => .no
def rSlice (K : PySem.W.Frag) : V → Option Int → Option Int → Hp → VK → Prop := fun x lo hi H Q => rSlF K x lo hi H Q ∨ rSlL K x lo hi H Q
theorem sl_any : SlR X (rSlice X.K) := SlR.or sl_tupF sl_list
theorem sIx_whole {n : Nat} {lo hi : Option Int} (h : HT.sIx n 0 lo = 0 ∧ HT.sIx n n hi = n) (xs : List D) (hn : xs.length = n) : cutD xs lo hi = xs := by
  unfold cutD
  rw [hn, h.1, h.2, List.drop_zero, Nat.sub_zero, ← hn, List.take_length]
theorem does_slice {M : Mu} {H : Hp} {L : LH} {a : D} {x : V} {Q : VK} {w : WH} {lo hi : Option Int} (hs : Sim S.K M H L) (ra : Rep S.K M H a x) (hp : PostG S w M H (PV S M Q) (kSlice lo hi a L)) : rSlice S.K x lo hi H Q := by
  unfold kSlice at hp
  split at hp
  · rename_i xs
    obtain ⟨p, vs, rfl, h, r⟩ := id ra
    refine .inl ⟨p, vs, rfl, h.t, fun z => ?_, fun _ l o hn ho => post_new hp hs hn _ (rep_tup_new hs hn ho (cut_rep lo hi r))⟩
    rw [r.len] at z
    rw [sIx_whole z xs rfl] at hp
    exact hp H Ext.refl hs _ ra
  · split at hp
    · rename_i xs e
      obtain ⟨p, vs, rfl, h, r⟩ := seqD_ok hs ra e
      exact .inr ⟨p, vs, rfl, h, fun l hn => post_new hp hs hn _ (rep_lst_new hs hn (cut_rep lo hi r))⟩
    · exact hp.elim
abbrev DO := DEnv → LH → R (Option Int)
def tDO (S : Sg) (W : St → WH) (f : DO) : TO := fun σ H Q => ∃ env L M, EnvR S.K M H env σ ∧ Sim S.K M H L ∧ PostG S (W σ) M H (fun o _ H' => Q o H') (f env L)
def doNone : DO := fun _ L => .ok none L
def doSome (f : DE) : DO := fun env L => (f env L).bind fun d L1 => match d with
  | .int i => .ok (some i) L1
  | _ => .no
theorem po_imp {e : Option Expr} {t t' : TO} (h : PO X e t) (i : ∀ σ H Q, t' σ H Q → t σ H Q) : PO X e t' := ⟨fun pins s σ H Q I q => h.run pins s σ H Q I (i σ H Q q)⟩
theorem do_none : PO X none (tDO S W doNone) := po_imp po_none fun σ H Q ⟨env, L, M, he, hs, hp⟩ => hp H Ext.refl hs
theorem do_some {e : Expr} {f : DE} (h : PE X e (tD S W f)) : PO X (some e) (tDO S W (doSome f)) := po_imp (po_some h) fun σ H Q => by
  rintro ⟨env, L, M, he, hs, hp⟩
  refine ⟨env, L, M, he, hs, PostG.seq hp fun d L1 H1 x1 s1 q v r => ?_⟩
  cases d with
  | int i => exact ⟨i, r, q H1 Ext.refl s1⟩
  | _ => exact q.elim
def dSlice (f : DE) (g h : DO) : DE := fun env L => (f env L).bind fun a L1 => (g env L1).bind fun lo L2 => (h env L2).bind fun hi L3 => kSlice lo hi a L3
theorem de_slice {e : Expr} {lo hi : Option Expr} {f : DE} {g h : DO} {pos p2 : Pos} (hK : X.K = S.K) (he : PE X e (tD S W f)) (hl : PO X lo (tDO S W g)) (hu : PO X hi (tDO S W h)) : PE X (.Subscript e (.Slice lo hi none p2) pos) (tD S W (dSlice f g h)) :=
  pe_imp (pe_slice (r := rSlice S.K) (by rw [← hK]; exact sl_any) he hl hu) fun σ H Q => by
    rintro ⟨env, L, M, he, hs, hp⟩
    refine ⟨env, L, M, he, hs, PostG.seq hp fun a L1 H1 x1 s1 q x ra => ⟨env, L1, M, he.mono x1 Grow.refl, s1, PostG.seq q fun l L2 H2 x2 s2 q2 => ⟨env, L2, M, he.mono (x1.trans x2) Grow.refl, s2, PostG.seq q2 fun u L3 H3 x3 s3 q3 => ?_⟩⟩⟩
    exact does_slice s3 (ra.mono (x2.trans x3) Grow.refl) q3
/-! ### tuple(x), list(x) -/
def kTupleOf : List D → LH → R D := fun ds L => match ds with
  | [d] => match seqD L d with
    | some (_, xs) => .ok (.tup xs) L
    | none => .no
  | _ => .no
theorem seqD_tup {L : LH} {d : D} {xs : List D} (e : seqD L d = some (true, xs)) : d = .tup xs := by
  cases d with
  | tup ys => have e' : (true, ys) = (true, xs) := Option.some.inj e; cases e'; rfl
  | lst ys => have e' : (false, ys) = (true, xs) := Option.some.inj e; cases e'
  | frl ys => have e' : (false, ys) = (true, xs) := Option.some.inj e; cases e'
  | ref n =>
    have e0 : (match L[n]? with | some (.lst ds) => some (false, ds) | _ => none) = some (true, xs) := e
    split at e0
    · cases e0
    · cases e0
  | non => cases e
  | bl _ => cases e
  | int _ => cases e
  | str _ => cases e
  | dic _ => cases e
  | obj _ => cases e
theorem does_tupleOf : DoesL S (fun xs H Q => ∃ p ys, xs = [.ref p] ∧ ((SqL S.K H p ys ∧ ∀ l (o : Obj), H l = none → o.dict = none → Q (.ref l) (upd H l (.frz o (.tup ys)))) ∨ (SqT S.K H p ys ∧ Q (.ref p) H))) kTupleOf := by
  intro M H L a x Q w hs ra hp
  unfold kTupleOf at hp
  split at hp
  · rename_i d
    split at hp
    · rename_i b xs e
      obtain ⟨v, rfl, r⟩ := ra.single
      obtain ⟨p, vs, rfl, h, q⟩ := seqD_ok hs r e
      refine ⟨p, vs, rfl, ?_⟩
      cases b with
      | true =>
        have e' := seqD_tup e
        subst e'
        exact .inr ⟨h, hp H Ext.refl hs _ r⟩
      | false => exact .inl ⟨h, fun l o hn ho => post_new hp hs hn _ (rep_tup_new hs hn ho q)⟩
    · exact hp.elim
  · exact hp.elim
def kListOf : List D → LH → R D := fun ds L => match ds with
  | [d] => match seqD L d with
    | some (_, xs) => .ok (.lst xs) L
    | none => .no
  | _ => .no
theorem does_listOf : DoesL S (fun xs H Q => ∃ p ys, xs = [.ref p] ∧ (SqL S.K H p ys ∨ SqT S.K H p ys) ∧ ∀ l, H l = none → Q (.ref l) (upd H l (.lst ys))) kListOf := by
  intro M H L a x Q w hs ra hp
  unfold kListOf at hp
  split at hp
  · rename_i d
    split at hp
    · rename_i b xs e
      obtain ⟨v, rfl, r⟩ := ra.single
      obtain ⟨p, vs, rfl, h, q⟩ := seqD_ok hs r e
      refine ⟨p, vs, rfl, ?_, fun l hn => post_new hp hs hn _ (rep_lst_new hs hn q)⟩
      cases b with
      | true => exact .inr h
      | false => exact .inl h
    · exact hp.elim
  · exact hp.elim
end DL

set_option Elab.async false
set_option linter.all false
set_option maxRecDepth 100000
set_option maxHeartbeats 1000000
namespace DL
open PySem PySem.Spec L2
variable {S : Sg} {X : Cx} {W : St → WH}
abbrev DT := DEnv → LH → R Bool
def PB (Q : Bool → Hp → Prop) (b : Bool) (_ : LH) (H' : Hp) : Prop := Q b H'
def tT (S : Sg) (W : St → WH) (f : DT) : TT := fun σ H Q => ∃ env L M, EnvR S.K M H env σ ∧ Sim S.K M H L ∧ PostG S (W σ) M H (PB Q) (f env L)
/-! ### truth -/
def truD (L : LH) : D → Option Bool
  | .non => some false
  | .bl b => some b
  | .int i => some (i != 0)
  | .str x => if fits x.length then some ((x.length : Int) != 0) else none
  | .dic _ => none
  | d => (seqD L d).map fun p => !p.2.isEmpty
theorem RepKV.emp {K : PySem.W.Frag} {M : Mu} {H : Hp} {ds : List (Key × D)} {vs : List (Key × V)} (r : RepKV K M H ds vs) : vs.isEmpty = ds.isEmpty := by
  cases ds with
  | nil => have : vs = [] := r; rw [this]; rfl
  | cons d ds => obtain ⟨v, t, e, _⟩ := r; rw [e]; rfl
theorem RepAll.emp {K : PySem.W.Frag} {M : Mu} {H : Hp} {ds : List D} {vs : List V} (r : RepAll K M H ds vs) : vs.isEmpty = ds.isEmpty := by
  cases ds with
  | nil => have : vs = [] := r; rw [this]; rfl
  | cons d ds => obtain ⟨v, t, e, _⟩ := r; rw [e]; rfl
theorem truSeq {M : Mu} {H : Hp} {L : LH} {d : D} {v : V} {k : Bool} (hs : Sim S.K M H L) (r : Rep S.K M H d v) (e : ((seqD L d).map fun p => !p.2.isEmpty) = some k) : TruV S.K v H k := by
  cases q : seqD L d with
  | none => rw [q] at e; cases e
  | some p =>
    obtain ⟨b, xs⟩ := p
    rw [q] at e
    have e' : (!xs.isEmpty) = k := Option.some.inj e
    obtain ⟨a, vs, rfl, h, ra⟩ := seqD_ok hs r q
    have e2 : k = !vs.isEmpty := by rw [ra.emp]; exact e'.symm
    cases b with
    | true => exact .inr (.inl ⟨vs, h, e2⟩)
    | false => exact .inl ⟨vs, h, e2⟩
theorem truD_ok {M : Mu} {H : Hp} {L : LH} {d : D} {v : V} {k : Bool} (hs : Sim S.K M H L) (r : Rep S.K M H d v) (e : truD L d = some k) : TruV S.K v H k := by
  cases d with
  | non => have r' : v = .non := r; subst r'; exact (Option.some.inj e).symm
  | bl b => have r' : v = .bl b := r; subst r'; exact (Option.some.inj e).symm
  | int i => have r' : v = .int i := r; subst r'; exact (Option.some.inj e).symm
  | str x =>
    have r' : v = .str x := r
    subst r'
    have e0 : (if fits x.length then some ((x.length : Int) != 0) else none) = some k := e
    split at e0
    · rename_i hf
      exact ⟨fits_ok hf, (Option.some.inj e0).symm⟩
    · cases e0
  | dic ks => cases e
  | tup xs => exact truSeq hs r e
  | lst xs => exact truSeq hs r e
  | frl xs => exact truSeq hs r e
  | ref n => exact truSeq hs r e
  | obj w => cases e
def dTruth (f : DE) : DT := fun env L => (f env L).bind fun d L1 => match truD L1 d with
  | some b => .ok b L1
  | none => .no
theorem dt_truth {e : Expr} {f : DE} (hK : X.K = S.K) (h : PE X e (tD S W f)) (he : ∀ whole, isTrue e X.env whole = (do let v ← whole; standAt e.pos; holding [v] (truthy v)) := by intro _; rfl) : PT X e (tT S W (dTruth f)) :=
  pt_imp (pt_truth h he) fun σ H Q => by
    rintro ⟨env, L, M, he, hs, hp⟩
    refine ⟨env, L, M, he, hs, PostG.seq hp fun d L1 H1 x1 s1 q v r => ?_⟩
    cases e : truD L1 d with
    | none => rw [e] at q; exact q.elim
    | some k =>
      rw [e] at q
      exact ⟨k, by rw [hK]; exact truD_ok s1 r e, q H1 Ext.refl s1⟩
def dAnd (f g : DT) : DT := fun env L => (f env L).bind fun b L1 => if b = true then g env L1 else .ok false L1
def dOr (f g : DT) : DT := fun env L => (f env L).bind fun b L1 => if b = true then .ok true L1 else g env L1
def dNot (f : DT) : DT := fun env L => (f env L).bind fun b L1 => .ok (!b) L1
theorem dt_and {a b : Expr} {rest : List Expr} {pos : Pos} {f g : DT} (ha : PT X a (tT S W f)) (hb : PW X (.BoolOp .And (b :: rest) pos) (tT S W g)) : PW X (.BoolOp .And (a :: b :: rest) pos) (tT S W (dAnd f g)) := by
  refine ⟨fun wh pins s σ H Q I h => (pw_and ha hb).run wh pins s σ H Q I ?_⟩
  obtain ⟨env, L, M, he, hs, hp⟩ := h
  refine ⟨env, L, M, he, hs, PostG.seq hp fun d L1 H1 x1 s1 q => ?_⟩
  show if d = true then _ else _
  split
  · rename_i e
    rw [if_pos e] at q
    exact ⟨env, L1, M, he.mono x1 Grow.refl, s1, q⟩
  · rename_i e
    rw [if_neg e] at q
    exact q H1 Ext.refl s1
theorem dt_or {a b : Expr} {rest : List Expr} {pos : Pos} {f g : DT} (ha : PT X a (tT S W f)) (hb : PW X (.BoolOp .Or (b :: rest) pos) (tT S W g)) : PW X (.BoolOp .Or (a :: b :: rest) pos) (tT S W (dOr f g)) := by
  refine ⟨fun wh pins s σ H Q I h => (pw_or ha hb).run wh pins s σ H Q I ?_⟩
  obtain ⟨env, L, M, he, hs, hp⟩ := h
  refine ⟨env, L, M, he, hs, PostG.seq hp fun d L1 H1 x1 s1 q => ?_⟩
  show if d = true then _ else _
  split
  · rename_i e
    rw [if_pos e] at q
    exact q H1 Ext.refl s1
  · rename_i e
    rw [if_neg e] at q
    exact ⟨env, L1, M, he.mono x1 Grow.refl, s1, q⟩
theorem dt_not {a : Expr} {pos : Pos} {f : DT} (ha : PT X a (tT S W f)) : PT X (.UnaryOp .Not a pos) (tT S W (dNot f)) := pt_imp (pt_not ha) fun σ H Q => by
  rintro ⟨env, L, M, he, hs, hp⟩
  exact ⟨env, L, M, he, hs, PostG.seq hp fun d L1 H1 x1 s1 q => q H1 Ext.refl s1⟩
/-! ### and, or, not, if as values -/
def truK (d : D) (L : LH) (k : Bool → R D) : R D := match truD L d with
  | some b => k b
  | none => .no
def deAnd (f g : DE) : DE := fun env L => (f env L).bind fun a L1 => truK a L1 fun b => if b = true then g env L1 else .ok a L1
def deOr (f g : DE) : DE := fun env L => (f env L).bind fun a L1 => truK a L1 fun b => if b = true then .ok a L1 else g env L1
def deNot (f : DE) : DE := fun env L => (f env L).bind fun a L1 => truK a L1 fun b => .ok (.bl (!b)) L1
def dIf (t : DT) (f g : DE) : DE := fun env L => (t env L).bind fun b L1 => if b = true then f env L1 else g env L1
theorem de_ifExp {c a b : Expr} {t : DT} {f g : DE} {pos : Pos} (hc : PT X c (tT S W t)) (ha : PE X a (tD S W f)) (hb : PE X b (tD S W g)) : PE X (.IfExp c a b pos) (tD S W (dIf t f g)) := pe_imp (pe_ifExp hc ha hb) fun σ H Q => by
  rintro ⟨env, L, M, he, hs, hp⟩
  refine ⟨env, L, M, he, hs, PostG.seq hp fun d L1 H1 x1 s1 q => ?_⟩
  show if d = true then _ else _
  split
  · rename_i e
    rw [if_pos e] at q
    exact ⟨env, L1, M, he.mono x1 Grow.refl, s1, q⟩
  · rename_i e
    rw [if_neg e] at q
    exact ⟨env, L1, M, he.mono x1 Grow.refl, s1, q⟩
theorem de_and {a b : Expr} {rest : List Expr} {pos : Pos} {f g : DE} (hK : X.K = S.K) (ha : PE X a (tD S W f)) (hb : PE X (.BoolOp .And (b :: rest) pos) (tD S W g)) : PE X (.BoolOp .And (a :: b :: rest) pos) (tD S W (deAnd f g)) := pe_imp (pe_andT ha hb) fun σ H Q => by
  rintro ⟨env, L, M, he, hs, hp⟩
  refine ⟨env, L, M, he, hs, PostG.seq hp fun d L1 H1 x1 s1 q v r => ?_⟩
  unfold truK at q
  cases e : truD L1 d with
  | none => rw [e] at q; exact q.elim
  | some k =>
    rw [e] at q
    refine ⟨k, by rw [hK]; exact truD_ok s1 r e, ?_⟩
    have q' : PostG S (W σ) M H1 (PV S M Q) (if k = true then g env L1 else .ok d L1) := q
    split
    · rename_i e2
      rw [if_pos e2] at q'
      exact ⟨env, L1, M, he.mono x1 Grow.refl, s1, q'⟩
    · rename_i e2
      rw [if_neg e2] at q'
      exact q' H1 Ext.refl s1 v r
theorem de_or {a b : Expr} {rest : List Expr} {pos : Pos} {f g : DE} (hK : X.K = S.K) (ha : PE X a (tD S W f)) (hb : PE X (.BoolOp .Or (b :: rest) pos) (tD S W g)) : PE X (.BoolOp .Or (a :: b :: rest) pos) (tD S W (deOr f g)) := pe_imp (pe_orT ha hb) fun σ H Q => by
  rintro ⟨env, L, M, he, hs, hp⟩
  refine ⟨env, L, M, he, hs, PostG.seq hp fun d L1 H1 x1 s1 q v r => ?_⟩
  unfold truK at q
  cases e : truD L1 d with
  | none => rw [e] at q; exact q.elim
  | some k =>
    rw [e] at q
    refine ⟨k, by rw [hK]; exact truD_ok s1 r e, ?_⟩
    have q' : PostG S (W σ) M H1 (PV S M Q) (if k = true then .ok d L1 else g env L1) := q
    split
    · rename_i e2
      rw [if_pos e2] at q'
      exact q' H1 Ext.refl s1 v r
    · rename_i e2
      rw [if_neg e2] at q'
      exact ⟨env, L1, M, he.mono x1 Grow.refl, s1, q'⟩
theorem de_not {a : Expr} {pos : Pos} {f : DE} (hK : X.K = S.K) (ha : PE X a (tD S W f)) : PE X (.UnaryOp .Not a pos) (tD S W (deNot f)) := pe_imp (pe_notT ha) fun σ H Q => by
  rintro ⟨env, L, M, he, hs, hp⟩
  refine ⟨env, L, M, he, hs, PostG.seq hp fun d L1 H1 x1 s1 q v r => ?_⟩
  unfold truK at q
  cases e : truD L1 d with
  | none => rw [e] at q; exact q.elim
  | some k =>
    rw [e] at q
    exact ⟨k, by rw [hK]; exact truD_ok s1 r e, q H1 Ext.refl s1 _ rfl⟩
/-! ### a op b op2 c -/
def dChain (k k' : D → D → LH → R D) (f g h : DE) : DE := fun env L => (f env L).bind fun a L1 => (g env L1).bind fun b L2 => (k a b L2).bind fun z L3 => match z with
  | .bl t => if t = true then (h env L3).bind fun c L4 => k' b c L4 else .ok (.bl false) L3
  | _ => .no
theorem de_chain {op op' : CmpOp} {a b c : Expr} {r r' : R2} {k k' : D → D → LH → R D} {f g h : DE} {pos : Pos} (ho : OpR X (compareOp op) r) (ho' : OpR X (compareOp op') r') (hk : Does2 S r k) (hk' : Does2 S r' k') (ha : PE X a (tD S W f)) (hb : PE X b (tD S W g)) (hc : PE X c (tD S W h))
    (hm : lastMarks [op, op'] [b, c] = false := by with_unfolding_all rfl) : PE X (.Compare a [op, op'] [b, c] pos) (tD S W (dChain k k' f g h)) := pe_imp (pe_chain ho ho' ha hb hc hm) fun σ H Q => by
  rintro ⟨env, L, M, he, hs, hp⟩
  refine ⟨env, L, M, he, hs, PostG.seq hp fun a L1 H1 x1 s1 q x ra => ⟨env, L1, M, he.mono x1 Grow.refl, s1, PostG.seq q fun b L2 H2 x2 s2 q2 y rb => ?_⟩⟩
  refine hk M H2 L2 a b x y _ _ s2 (ra.mono x2 Grow.refl) rb (PostG.seq q2 fun z L3 H3 x3 s3 q3 zv rz => ?_)
  cases z with
  | bl t =>
    refine ⟨t, rz, ?_⟩
    have q4 : PostG S (W σ) M H3 (PV S M Q) (if t = true then (h env L3).bind fun c L4 => k' b c L4 else .ok (.bl false) L3) := q3
    split
    · rename_i e
      rw [if_pos e] at q4
      refine ⟨env, L3, M, he.mono ((x1.trans x2).trans x3) Grow.refl, s3, PostG.seq q4 fun c L4 H4 x4 s4 q5 cv rc => ?_⟩
      exact hk' M H4 L4 b c y cv Q _ s4 (rb.mono (x3.trans x4) Grow.refl) rc q5
    · rename_i e
      rw [if_neg e] at q4
      exact q4 H3 Ext.refl s3 _ rfl
  | _ => exact q3.elim
/-! ### deep equality -/
mutual
def deep : D → Option PyData
  | .non => some .none
  | .bl b => some (.bool b)
  | .int i => some (.int i)
  | .str x => some (.str x)
  | .tup ds => (deepAll ds).map .tuple
  | .lst ds => (deepAll ds).map .list
  | .frl ds => (deepAll ds).map .list
  | .dic _ => none
  | .ref _ => none
  | .obj _ => none
def deepAll : List D → Option (List PyData)
  | [] => some []
  | d :: ds => match deep d, deepAll ds with
    | some x, some r => some (x :: r)
    | _, _ => none
end
def deepL (L : LH) : D → Option PyData
  | .ref n => match L[n]? with
    | some (.lst ds) => (deepAll ds).map .list
    | _ => none
  | d => deep d
mutual
theorem deep_ok {M : Mu} {H : Hp} : ∀ (d : D) (v : V) (p : PyData), Rep S.K M H d v → deep d = some p → Dp S.K H v p
  | .non, _, _, r, e => by cases r; cases e; exact .non
  | .bl b, _, _, r, e => by cases r; cases e; exact .bl b
  | .int i, _, _, r, e => by cases r; cases e; exact .int i
  | .str x, _, _, r, e => by cases r; cases e; exact .str x
  | .tup ds, _, p, ⟨a, vs, e1, h, q⟩, e => by
    have e' : (deepAll ds).map PyData.tuple = some p := e
    cases hd : deepAll ds with
    | none => rw [hd] at e'; cases e'
    | some ps =>
      rw [hd] at e'
      cases e'
      rw [e1]
      exact .tup h.t (deepAll_ok ds vs ps q hd)
  | .lst ds, _, p, ⟨a, vs, e1, h, _, _, q⟩, e => by
    have e' : (deepAll ds).map PyData.list = some p := e
    cases hd : deepAll ds with
    | none => rw [hd] at e'; cases e'
    | some ps =>
      rw [hd] at e'
      cases e'
      rw [e1]
      exact .lst (.inl (.inl h)) (deepAll_ok ds vs ps q hd)
  | .frl ds, _, p, ⟨a, vs, e1, h, q⟩, e => by
    have e' : (deepAll ds).map PyData.list = some p := e
    cases hd : deepAll ds with
    | none => rw [hd] at e'; cases e'
    | some ps =>
      rw [hd] at e'
      cases e'
      rw [e1]
      exact .lst h.l (deepAll_ok ds vs ps q hd)
  | .dic _, _, _, _, e => by cases e
  | .ref _, _, _, _, e => by cases e
  | .obj _, _, _, _, e => by cases e
theorem deepAll_ok {M : Mu} {H : Hp} : ∀ (ds : List D) (vs : List V) (ps : List PyData), RepAll S.K M H ds vs → deepAll ds = some ps → DpAll S.K H vs ps
  | [], _, _, r, e => by cases r; cases e; exact .nil
  | d :: ds, _, ps, ⟨v, t, e1, h, q⟩, e => by
    have e' : (match deep d, deepAll ds with | some x, some r => some (x :: r) | _, _ => none) = some ps := e
    cases hd : deep d with
    | none => rw [hd] at e'; cases e'
    | some x =>
      cases hr : deepAll ds with
      | none => rw [hd, hr] at e'; cases e'
      | some r =>
        rw [hd, hr] at e'
        cases e'
        rw [e1]
        exact .cons (deep_ok d v x h hd) (deepAll_ok ds t r q hr)
end
theorem deepL_ok {M : Mu} {H : Hp} {L : LH} (hs : Sim S.K M H L) {d : D} {v : V} {p : PyData} (r : Rep S.K M H d v) (e : deepL L d = some p) : Dp S.K H v p := by
  cases d with
  | ref n =>
    have e' : (match L[n]? with | some (.lst ds) => (deepAll ds).map PyData.list | _ => none) = some p := e
    obtain ⟨a, rfl, hm⟩ := r
    cases hl : L[n]? with
    | none => rw [hl] at e'; cases e'
    | some o =>
      rw [hl] at e'
      cases o with
      | dic _ => cases e'
      | lst ds =>
        obtain ⟨vs, h, q⟩ := hs.at_ n a _ hm hl
        have e2 : (deepAll ds).map PyData.list = some p := e'
        cases hd : deepAll ds with
        | none => rw [hd] at e2; cases e2
        | some ps =>
          rw [hd] at e2
          cases e2
          exact .lst (.inl (.inl h)) (deepAll_ok ds vs ps q hd)
  | non => exact deep_ok _ _ _ r e
  | bl _ => exact deep_ok _ _ _ r e
  | int _ => exact deep_ok _ _ _ r e
  | str _ => exact deep_ok _ _ _ r e
  | tup _ => exact deep_ok _ _ _ r e
  | lst _ => exact deep_ok _ _ _ r e
  | frl _ => exact deep_ok _ _ _ r e
  | dic _ => exact deep_ok _ _ _ r e
  | obj _ => exact deep_ok _ _ _ r e
def eqD (L : LH) (a b : D) : Option Bool := match deepL L a, deepL L b with
  | some x, some y => if SeqAt.shaped x && SeqAt.shaped y then some (PyData.eqv x y) else none
  | _, _ => none
def kEq : D → D → LH → R D := fun a b L => match eqD L a b with
  | some r => .ok (.bl r) L
  | none => .no
def kNe : D → D → LH → R D := fun a b L => match eqD L a b with
  | some r => .ok (.bl (!r)) L
  | none => .no
theorem eqD_ok {M : Mu} {H : Hp} {L : LH} {a b : D} {x y : V} {r : Bool} (hs : Sim S.K M H L) (ra : Rep S.K M H a x) (rb : Rep S.K M H b y) (e : eqD L a b = some r) : ∃ d e, Dp S.K H x d ∧ Dp S.K H y e ∧ SeqAt.shaped d = true ∧ SeqAt.shaped e = true ∧ PyData.eqv d e = r := by
  unfold eqD at e
  split at e
  · rename_i p q e1 e2
    split at e
    · rename_i h
      rw [Bool.and_eq_true] at h
      exact ⟨p, q, deepL_ok hs ra e1, deepL_ok hs rb e2, h.1, h.2, Option.some.inj e⟩
    · cases e
  · cases e
theorem does_eq : Does2 S (rEqD S.K) kEq := by
  intro M H L a b x y Q w hs ra rb hp
  unfold kEq at hp
  split at hp
  · rename_i r e
    obtain ⟨d, e2, h1, h2, h3, h4, h5⟩ := eqD_ok hs ra rb e
    exact ⟨d, e2, h1, h2, h3, h4, by rw [h5]; exact hp H Ext.refl hs _ rfl⟩
  · exact hp.elim
theorem does_ne : Does2 S (rNeD S.K) kNe := by
  intro M H L a b x y Q w hs ra rb hp
  unfold kNe at hp
  split at hp
  · rename_i r e
    obtain ⟨d, e2, h1, h2, h3, h4, h5⟩ := eqD_ok hs ra rb e
    exact ⟨d, e2, h1, h2, h3, h4, by rw [h5]; exact hp H Ext.refl hs _ rfl⟩
  · exact hp.elim
def kIs : D → D → LH → R D := fun a b L => match b with
  | .non => (match a with
    | .non => .ok (.bl true) L
    | .obj _ => .no
    | _ => .ok (.bl false) L)
  | _ => .no
def kIsNot : D → D → LH → R D := fun a b L => match b with
  | .non => (match a with
    | .non => .ok (.bl false) L
    | .obj _ => .no
    | _ => .ok (.bl true) L)
  | _ => .no
theorem rep_non {M : Mu} {H : Hp} {a : D} {x : V} (ra : Rep S.K M H a x) (h : a ≠ .non) (ho : ∀ w, a ≠ .obj w) : x ≠ .non := by
  cases a with
  | non => exact absurd rfl h
  | bl b => have r : x = .bl b := ra; rw [r]; exact fun z => nomatch z
  | int b => have r : x = .int b := ra; rw [r]; exact fun z => nomatch z
  | str b => have r : x = .str b := ra; rw [r]; exact fun z => nomatch z
  | tup ds => obtain ⟨a, vs, e, _⟩ := ra; rw [e]; exact fun z => nomatch z
  | lst ds => obtain ⟨a, vs, e, _⟩ := ra; rw [e]; exact fun z => nomatch z
  | frl ds => obtain ⟨a, vs, e, _⟩ := ra; rw [e]; exact fun z => nomatch z
  | dic ds => obtain ⟨a, vs, e, _⟩ := ra; rw [e]; exact fun z => nomatch z
  | ref n => obtain ⟨a, e, _⟩ := ra; rw [e]; exact fun z => nomatch z
  | obj w => exact absurd rfl (ho w)
theorem does_is : Does2 S (fun x y H Q => y = .non ∧ Q (.bl (decide (x = .non))) H) kIs := by
  intro M H L a b x y Q w hs ra rb hp
  unfold kIs at hp
  split at hp
  · refine ⟨rb, ?_⟩
    split at hp
    · have r : x = .non := ra
      subst r
      exact hp H Ext.refl hs _ rfl
    · exact hp.elim
    · rename_i h1 h2
      rw [decide_eq_false (rep_non ra h1 h2)]
      exact hp H Ext.refl hs _ rfl
  · exact hp.elim
theorem does_isNot : Does2 S (fun x y H Q => y = .non ∧ Q (.bl (!decide (x = .non))) H) kIsNot := by
  intro M H L a b x y Q w hs ra rb hp
  unfold kIsNot at hp
  split at hp
  · refine ⟨rb, ?_⟩
    split at hp
    · have r : x = .non := ra
      subst r
      exact hp H Ext.refl hs _ rfl
    · exact hp.elim
    · rename_i h1 h2
      rw [decide_eq_false (rep_non ra h1 h2)]
      exact hp H Ext.refl hs _ rfl
  · exact hp.elim
end DL

set_option Elab.async false
set_option linter.all false
set_option maxRecDepth 100000
set_option maxHeartbeats 1000000
namespace DL
open PySem PySem.Spec L2
variable {S : Sg} {X : Cx} {W : St → WH}
inductive SR where
  | nx (env : DEnv) (L : LH) | rt (d : D) (L : LH) | rf (ds : List D) (L : LH) | bk (env : DEnv) (L : LH) | ct (env : DEnv) (L : LH) | exc (e : Exn) (env : DEnv) (L : LH) | no
abbrev DS := DEnv → LH → SR
/-- what a statement's result must lead to -/
def PostS (S : Sg) (W : St → WH) (M : Mu) (H : Hp) (E : Ends) : SR → Prop
  | .nx env L => ∀ σ H' M', Grow H M M' → Ext M.m H H' → Sim S.K M' H' L → EnvR S.K M' H' env σ → E.nx σ H'
  | .rt d L => ∀ v H' M', Grow H M M' → Ext M.m H H' → Sim S.K M' H' L → Rep S.K M' H' d v → E.rt v H'
  | .rf ds L => ∀ H' M' vs p, Grow H M M' → Ext M.m H H' → Sim S.K M' H' L → H' p = none → RepAll S.K M' H' ds vs → E.rt (.ref p) (upd H' p (.lst vs))
  | .bk env L => ∀ σ H' M', Grow H M M' → Ext M.m H H' → Sim S.K M' H' L → EnvR S.K M' H' env σ → E.bk σ H'
  | .ct env L => ∀ σ H' M', Grow H M M' → Ext M.m H H' → Sim S.K M' H' L → EnvR S.K M' H' env σ → E.ct σ H'
  | .exc e env L => ∀ σ cls dd H' M', Grow H M M' → Ext M.m H H' → Sim S.K M' H' L → EnvR S.K M' H' env σ → XR S.K S.ct M' e cls dd H' → W σ cls dd H'
  | .no => False
theorem PostS.ext {M M1 : Mu} {H H1 : Hp} {E : Ends} (g : Grow H M M1) (x : Ext M.m H H1) : ∀ {r : SR}, PostS S W M H E r → PostS S W M1 H1 E r
  | .nx _ _, q => fun σ H' M' g2 x2 s r => q σ H' M' (g.trans x g2) (x.over g x2) s r
  | .rt _ _, q => fun σ H' M' g2 x2 s r => q σ H' M' (g.trans x g2) (x.over g x2) s r
  | .rf _ _, q => fun H' M' vs p g2 x2 s r => q H' M' vs p (g.trans x g2) (x.over g x2) s r
  | .bk _ _, q => fun σ H' M' g2 x2 s r => q σ H' M' (g.trans x g2) (x.over g x2) s r
  | .ct _ _, q => fun σ H' M' g2 x2 s r => q σ H' M' (g.trans x g2) (x.over g x2) s r
  | .exc _ _ _, q => fun σ c dd H' M' g2 x2 s r z => q σ c dd H' M' (g.trans x g2) (x.over g x2) s r z
  | .no, q => q
def tS (S : Sg) (W : St → WH) (f : DS) : TS := fun E σ H => ∃ env L M, EnvR S.K M H env σ ∧ Sim S.K M H L ∧ PostS S W M H E (f env L)
/-- an expression's result, then what follows in the statement -/
def R.toS {α : Type} (r : R α) (env : DEnv) (k : α → LH → SR) : SR := match r with
  | .ok a L => k a L
  | .exc e L => .exc e env L
  | .no => .no
theorem PostS.expr {α : Type} {M : Mu} {H : Hp} {E : Ends} {env : DEnv} {σ : St} {k : α → LH → SR} {P : α → LH → Hp → Prop} : ∀ {r : R α}, EnvR S.K M H env σ → PostS S W M H E (r.toS env k) →
    (∀ a L1 H1, Ext M.m H H1 → Sim S.K M H1 L1 → PostS S W M H1 E (k a L1) → P a L1 H1) → PostG S (W σ) M H P r
  | .ok a L, _, h, i => fun H' x s => i a L H' x s (PostS.ext Grow.refl x h)
  | .exc e L, he, h, _ => fun c dd H' x s r => h σ c dd H' M Grow.refl x s (he.mono x Grow.refl) r
  | .no, _, h, _ => h
/-! ### one behind the other -/
def sSeq (f g : DS) : DS := fun env L => match f env L with
  | .nx env1 L1 => g env1 L1
  | r => r
theorem tS_seq {f g : DS} (E : Ends) (σ : St) (H : Hp) : tS S W (sSeq f g) E σ H → tSeq (tS S W f) (tS S W g) E σ H := by
  rintro ⟨env, L, M, he, hs, hp⟩
  refine ⟨env, L, M, he, hs, ?_⟩
  unfold sSeq at hp
  cases e : f env L with
  | nx env1 L1 =>
    rw [e] at hp
    exact fun σ1 H1 M1 g x s r => ⟨env1, L1, M1, r, s, PostS.ext g x hp⟩
  | rt d L1 => rw [e] at hp; exact hp
  | rf d L1 => rw [e] at hp; exact hp
  | bk d L1 => rw [e] at hp; exact hp
  | ct d L1 => rw [e] at hp; exact hp
  | exc d L1 L2 => rw [e] at hp; exact hp
  | no => rw [e] at hp; exact hp
theorem ss_cons {st : Stmt} {rest : List Stmt} {f g : DS} (h1 : PS X st (tS S W f)) (h2 : PSs X rest (tS S W g)) : PSs X (st :: rest) (tS S W (sSeq f g)) := pss_imp (pss_cons h1 h2) (tS_seq)
theorem ss_one {st : Stmt} {f : DS} (h1 : PS X st (tS S W f)) : PSs X [st] (tS S W f) := pss_one h1
def sNext : DS := fun env L => .nx env L
theorem ss_nil : PSs X [] (tS S W sNext) := pss_imp pss_nil fun E σ H ⟨env, L, M, he, hs, hp⟩ => hp σ H M Grow.refl Ext.refl hs he
theorem s_pass {pos : Pos} : PS X (.Pass pos) (tS S W sNext) := ps_imp ps_pass fun E σ H ⟨env, L, M, he, hs, hp⟩ => hp σ H M Grow.refl Ext.refl hs he
/-! ### x = e, e, return e -/
def sSet (i : Nat) (f : DE) : DS := fun env L => (f env L).toS env fun d L1 => .nx (env.set i (some d)) L1
theorem s_set {i : Nat} {x : Str} {e : Expr} {f : DE} {pos pos' : Pos} (h : ∀ te, PE X e te → PS X (.Assign [.Name x pos'] e pos) (tAsg te (gName i))) (he : PE X e (tD S W f)) : PS X (.Assign [.Name x pos'] e pos) (tS S W (sSet i f)) := ps_imp (h _ he) fun E σ H => by
  rintro ⟨env, L, M, he, hs, hp⟩
  refine ⟨env, L, M, he, hs, PostS.expr he hp fun d L1 H1 x1 s1 q v r => ?_⟩
  exact q _ H1 M Grow.refl Ext.refl s1 ((he.mono x1 Grow.refl).set r)
def sExpr (f : DE) : DS := fun env L => (f env L).toS env fun _ L1 => .nx env L1
theorem s_expr {e : Expr} {f : DE} {pos : Pos} (he : PE X e (tD S W f)) (hs : swapsWith e none pos.line X.env = pure false := by rfl) : PS X (.Expr e pos) (tS S W (sExpr f)) := ps_imp (ps_expr he hs) fun E σ H => by
  rintro ⟨env, L, M, he, hs, hp⟩
  refine ⟨env, L, M, he, hs, PostS.expr he hp fun d L1 H1 x1 s1 q v r => ?_⟩
  exact q _ H1 M Grow.refl Ext.refl s1 (he.mono x1 Grow.refl)
def sRet (f : DE) : DS := fun env L => (f env L).toS env fun d L1 => .rt d L1
theorem s_ret {e : Expr} {f : DE} {pos : Pos} (he : PE X e (tD S W f)) : PS X (.Return (some e) pos) (tS S W (sRet f)) := ps_imp (ps_ret he) fun E σ H => by
  rintro ⟨env, L, M, he, hs, hp⟩
  refine ⟨env, L, M, he, hs, PostS.expr he hp fun d L1 H1 x1 s1 q v r => ?_⟩
  exact q _ H1 M Grow.refl Ext.refl s1 r
def sRetN : DS := fun _ L => .rt .non L
theorem s_retN {pos : Pos} : PS X (.Return none pos) (tS S W sRetN) := ps_imp ps_retN fun E σ H ⟨env, L, M, he, hs, hp⟩ => hp _ H M Grow.refl Ext.refl hs rfl
def sIf (t : DT) (f g : DS) : DS := fun env L => (t env L).toS env fun b L1 => if b = true then f env L1 else g env L1
theorem s_if {c : Expr} {a b : List Stmt} {t : DT} {f g : DS} {pos : Pos} (hc : PT X c (tT S W t)) (ha : PSs X a (tS S W f)) (hb : PSs X b (tS S W g)) : PS X (.If c a b pos) (tS S W (sIf t f g)) := ps_imp (ps_if hc ha hb) fun E σ H => by
  rintro ⟨env, L, M, he, hs, hp⟩
  refine ⟨env, L, M, he, hs, PostS.expr he hp fun d L1 H1 x1 s1 q => ?_⟩
  show if d = true then _ else _
  split
  · rename_i e
    rw [if_pos e] at q
    exact ⟨env, L1, M, he.mono x1 Grow.refl, s1, q⟩
  · rename_i e
    rw [if_neg e] at q
    exact ⟨env, L1, M, he.mono x1 Grow.refl, s1, q⟩
/-! ### lists that are stored into -/
/-- the reading of an expression that makes a new list with the items that f tells -/
abbrev DF := DEnv → LH → R (List D)
def tF (S : Sg) (W : St → WH) (f : DF) : TE := fun σ H Q => ∃ env L M, EnvR S.K M H env σ ∧ Sim S.K M H L ∧
  PostG S (W σ) M H (fun ds _ H1 => ∀ vs p, H1 p = none → RepAll S.K M H1 ds vs → Q (.ref p) (upd H1 p (.lst vs))) (f env L)
/-- a new object may be stored into -/
theorem Sim.add {K : PySem.W.Frag} {M : Mu} {H : Hp} {L : LH} {p : Addr} {vs : List V} {ds : List D} (s : Sim K M H L) (hn : H p = none) (r : RepAll K M H ds vs) :
    Grow H M ⟨M.m ++ [p], M.x⟩ ∧ Sim K ⟨M.m ++ [p], M.x⟩ (upd H p (.lst vs)) (L ++ [.lst ds]) := by
  have g : Grow H M ⟨M.m ++ [p], M.x⟩ := ⟨⟨[p], rfl, fun a ha => by rw [List.mem_singleton.mp ha]; exact hn⟩, ⟨[], rfl, fun _ z => nomatch z⟩⟩
  have x : Ext M.m H (upd H p (.lst vs)) := Ext.new hn
  have pm := (nm_new s hn).1
  refine ⟨g, ⟨by simp [s.len], ?_, fun n a o e1 e2 => ?_, fun a ha => x.live a (s.xs a ha)⟩⟩
  · rw [List.nodup_append]
    exact ⟨s.nod, by simp, fun a ha b hb => by rw [List.mem_singleton.mp hb]; exact fun z => pm (z ▸ ha)⟩
  · by_cases hlt : n < M.m.length
    · have e1' : M.m[n]? = some a := by
        have q : (M.m ++ [p])[n]? = some a := e1
        rw [List.getElem?_append_left hlt] at q
        exact q
      have e2' : L[n]? = some o := by
        rw [List.getElem?_append_left (by rw [← s.len]; exact hlt)] at e2
        exact e2
      have ap : a ≠ p := fun z => pm (z ▸ List.mem_of_getElem? e1')
      have ro := s.at_ n a o e1' e2'
      cases o with
      | lst es =>
        obtain ⟨us, q, ra⟩ := ro
        exact ⟨us, (upd_ne ap).trans q, ra.mono x g⟩
      | dic es =>
        obtain ⟨us, q, ra⟩ := ro
        exact ⟨us, (upd_ne ap).trans q, RepKV.mono x g _ _ ra⟩
    · have hn2 : n = M.m.length := by
        have q : (M.m ++ [p])[n]? = some a := e1
        have := (List.getElem?_eq_some_iff.mp q).1
        simp at this
        omega
      subst hn2
      have q : (M.m ++ [p])[M.m.length]? = some a := e1
      simp at q
      subst q
      rw [s.len] at e2
      simp at e2
      subst e2
      exact ⟨vs, upd_same, r.mono x g⟩
def sNew (i : Nat) (f : DF) : DS := fun env L => (f env L).toS env fun ds L1 => .nx (env.set i (some (.ref L1.length))) (L1 ++ [.lst ds])
theorem s_new {i : Nat} {x : Str} {e : Expr} {f : DF} {pos pos' : Pos} (h : ∀ te, PE X e te → PS X (.Assign [.Name x pos'] e pos) (tAsg te (gName i))) (he : PE X e (tF S W f)) : PS X (.Assign [.Name x pos'] e pos) (tS S W (sNew i f)) := ps_imp (h _ he) fun E σ H => by
  rintro ⟨env, L, M, he, hs, hp⟩
  refine ⟨env, L, M, he, hs, PostS.expr he hp fun ds L1 H1 x1 s1 q vs p hn r => ?_⟩
  obtain ⟨g, s2⟩ := s1.add hn r
  refine q _ _ _ g (Ext.new hn) s2 (((he.mono x1 Grow.refl).mono (Ext.new hn) g).set ⟨p, rfl, ?_⟩)
  show (M.m ++ [p])[L1.length]? = some p
  rw [← s1.len]
  simp
theorem df_lst {es : List Expr} {pos : Pos} {g : DA} (ha : PA X es (tDA S W g)) : PE X (.List es pos) (tF S W fun env L => (g env L).bind fun ds L1 => if fits ds.length then .ok ds L1 else .no) := pe_imp (pe_lst ha) fun σ H Q => by
  rintro ⟨env, L, M, he, hs, hp⟩
  refine ⟨env, L, M, he, hs, PostG.seq hp fun ds L1 H1 x1 s1 q vs r => ?_⟩
  split at q
  · rename_i hf
    exact ⟨by rw [r.len]; exact fits_ok hf, fun p hn => q H1 Ext.refl s1 vs p hn r⟩
  · exact q.elim
/-- return of a list that is new -/
def sRetF (f : DF) : DS := fun env L => (f env L).toS env fun ds L1 => .rf ds L1
theorem s_retF {e : Expr} {f : DF} {pos : Pos} (he : PE X e (tF S W f)) : PS X (.Return (some e) pos) (tS S W (sRetF f)) := ps_imp (ps_ret he) fun E σ H => by
  rintro ⟨env, L, M, he, hs, hp⟩
  refine ⟨env, L, M, he, hs, PostS.expr he hp fun ds L1 H1 x1 s1 q vs p hn r => ?_⟩
  exact q H1 M vs p Grow.refl Ext.refl s1 hn r
/-- x, y = e, a new list that is stored into -/
def sParF (i j : Nat) (f : DE) (g : DF) : DS := fun env L => (f env L).toS env fun a L1 => (g env L1).toS env fun ds L2 => .nx ((env.set i (some a)).set j (some (.ref L2.length))) (L2 ++ [.lst ds])
theorem s_parF {st : Stmt} {a b : Expr} {i j : Nat} {f : DE} {g : DF} (h : ∀ t, PA X [a, b] t → PS X st (tPar i j t)) (hp : ∀ ta tb, PE X a ta → PE X b tb → PA X [a, b] (tCons ta (tCons tb tNil))) (ha : PE X a (tD S W f)) (hb : PE X b (tF S W g)) : PS X st (tS S W (sParF i j f g)) :=
  ps_imp (h _ (hp _ _ ha hb)) fun E σ H => by
  rintro ⟨env, L, M, he, hs, hp⟩
  refine ⟨env, L, M, he, hs, PostS.expr he hp fun d L1 H1 x1 s1 q v rv => ?_⟩
  refine ⟨env, L1, M, he.mono x1 Grow.refl, s1, PostS.expr (he.mono x1 Grow.refl) q fun ds L2 H2 x2 s2 q2 vs p hn r => ?_⟩
  refine ⟨v, .ref p, rfl, ?_⟩
  obtain ⟨g, s3⟩ := s2.add hn r
  have he2 := (he.mono x1 Grow.refl).mono x2 Grow.refl
  have x3 : Ext M.m H2 (upd H2 p (.lst vs)) := Ext.new hn
  refine q2 _ _ _ g x3 s3 (((he2.mono x3 g).set ((rv.mono x2 Grow.refl).mono x3 g)).set ⟨p, rfl, ?_⟩)
  show (M.m ++ [p])[L2.length]? = some p
  rw [← s2.len]
  simp
def fRep (f g : DE) : DF := fun env L => (f env L).bind fun a L1 => (g env L1).bind fun b L2 => match lstD L2 a, b with
  | some xs, .int k => if repOk xs.length k then .ok (List.replicate k.toNat xs).flatten L2 else .no
  | _, _ => .no
theorem df_rep {a b : Expr} {pos : Pos} {f g : DE} (ha : PE X a (tD S W f)) (hb : PE X b (tD S W g)) : PE X (.BinOp a .Mult b pos) (tF S W (fRep f g)) := pe_imp (pe_op op_rep ha hb) fun σ H Q => by
  rintro ⟨env, L, M, he, hs, hp⟩
  refine ⟨env, L, M, he, hs, PostG.seq hp fun a L1 H1 x1 s1 q x ra => ⟨env, L1, M, he.mono x1 Grow.refl, s1, PostG.seq q fun b L2 H2 x2 s2 q2 y rb => ?_⟩⟩
  split at q2
  · rename_i xs k e
    split at q2
    · rename_i hf
      obtain ⟨p, vs, rfl, h, r⟩ := lstD_ok s2 (ra.mono x2 Grow.refl) e
      unfold repOk at hf
      rw [Bool.and_eq_true] at hf
      obtain ⟨f3, f4⟩ := of_decide_eq_true hf.1
      exact ⟨p, k, vs, rfl, rb, h, f3, f4, by rw [r.len]; exact fits_ok hf.2, fun l hn => q2 H2 Ext.refl s2 _ l hn (r.rep k.toNat)⟩
    · exact q2.elim
  · exact q2.elim
/-- list(x) -/
def fListOf (g : DA) : DF := fun env L => (g env L).bind fun ds L1 => match ds with
  | [d] => (match seqD L1 d with
    | some (_, xs) => .ok xs L1
    | none => .no)
  | _ => .no
theorem df_listOf {a : Expr} {p pos : Pos} {g : DA} (h : ∀ t, PA X [a] t → PE X (.Call (.Name "list" p) [a] [] pos) (tCB (fun xs H Q => ∃ p ys, xs = [.ref p] ∧ (SqL X.K H p ys ∨ SqT X.K H p ys) ∧ ∀ l, H l = none → Q (.ref l) (upd H l (.lst ys))) t)) (hK : X.K = S.K) (ha : PA X [a] (tDA S W g)) :
    PE X (.Call (.Name "list" p) [a] [] pos) (tF S W (fListOf g)) := pe_imp (h _ ha) fun σ H Q => by
  rintro ⟨env, L, M, he, hs, hp⟩
  refine ⟨env, L, M, he, hs, PostG.seq hp fun ds L1 H1 x1 s1 q vs r => ?_⟩
  split at q
  · rename_i d
    split at q
    · rename_i b xs e
      obtain ⟨v, rfl, rv⟩ := r.single
      obtain ⟨a, us, rfl, hq, ru⟩ := seqD_ok s1 rv e
      refine ⟨a, us, rfl, ?_, fun l hn => q H1 Ext.refl s1 us l hn ru⟩
      rw [hK]
      cases b with
      | true => exact .inr hq
      | false => exact .inl hq
    · exact q.elim
  · exact q.elim
/-! ### an object that may be stored into is changed -/
theorem Sim.put {K : PySem.W.Frag} {M : Mu} {H : Hp} {L : LH} {n : Nat} {a : Addr} {o : LO} {u : HO} (s : Sim K M H L) (hm : M.m[n]? = some a) (hl : n < L.length) (hu : ∀ H', H' a = some u → Ext M.m H H' → RepO K M H' a o) :
    Ext M.m H (upd H a u) ∧ Sim K M (upd H a u) (L.set n o) := by
  have ma : a ∈ M.m := List.mem_of_getElem? hm
  have x : Ext M.m H (upd H a u) := ⟨fun b w nb e _ => by rw [upd_ne (fun z : b = a => nb (by rw [z]; exact ma))]; exact e, fun b e => by
    by_cases z : b = a
    · rw [z, upd_same]; exact fun z => nomatch z
    · rw [upd_ne z]; exact e⟩
  refine ⟨x, ⟨by simp [s.len], s.nod, fun k b w e1 e2 => ?_, fun b hb => x.live b (s.xs b hb)⟩⟩
  by_cases hk : n = k
  · subst hk
    have eb : a = b := Option.some.inj (hm.symm.trans e1)
    subst eb
    rw [List.getElem?_set_self hl] at e2
    have ew : o = w := Option.some.inj e2
    subst ew
    exact hu _ upd_same x
  · rw [List.getElem?_set_ne hk] at e2
    have ab : b ≠ a := fun z => by
      subst z
      have h1 := (List.getElem?_eq_some_iff.mp hm)
      have h2 := (List.getElem?_eq_some_iff.mp e1)
      exact hk ((List.getElem_inj s.nod).mp (h1.2.trans h2.2.symm))
    exact (s.at_ k b w e1 e2).keep x (upd_ne ab)
def isRefL (a : D) (L : LH) : Bool := match a with
  | .ref n => (match L[n]? with
    | some (.lst _) => true
    | _ => false)
  | _ => false
def kAppend (a b : D) (L : LH) : R D := match a with
  | .ref n => (match L[n]? with
    | some (.lst ds) => if decide (ds.length < 16777216) then .ok .non (L.set n (.lst (ds ++ [b]))) else .no
    | _ => .no)
  | _ => .no
def dAppend (f g : DE) : DE := fun env L => (f env L).bind fun a L1 => if isRefL a L1 then (g env L1).bind fun b L2 => kAppend a b L2 else .no
theorem isRefL_ok {M : Mu} {H : Hp} {L : LH} {a : D} {x : V} (hs : Sim S.K M H L) (ra : Rep S.K M H a x) (e : isRefL a L = true) : ∃ n p ds vs, a = .ref n ∧ x = .ref p ∧ M.m[n]? = some p ∧ L[n]? = some (.lst ds) ∧ H p = some (.lst vs) ∧ RepAll S.K M H ds vs := by
  cases a with
  | ref n =>
    obtain ⟨p, rfl, hm⟩ := ra
    have e' : (match L[n]? with | some (.lst _) => true | _ => false) = true := e
    cases el : L[n]? with
    | none => rw [el] at e'; cases e'
    | some o =>
      rw [el] at e'
      cases o with
      | dic _ => cases e'
      | lst ds =>
        obtain ⟨vs, h1, rv⟩ := hs.at_ n p _ hm el
        exact ⟨n, p, ds, vs, rfl, rfl, hm, el, h1, rv⟩
  | _ => cases e
theorem tDA_one {g : DE} {env : DEnv} {σ : St} {H1 : Hp} {M : Mu} {L1 : LH} {k : D → LH → R D} {Q : VK} {P : List V → Hp → Prop} (he : EnvR S.K M H1 env σ) (s1 : Sim S.K M H1 L1) (q : PostG S (W σ) M H1 (PV S M Q) ((g env L1).bind k))
    (i : ∀ b L2 H2 y, Ext M.m H1 H2 → Sim S.K M H2 L2 → Rep S.K M H2 b y → PostG S (W σ) M H2 (PV S M Q) (k b L2) → P [y] H2) : tDA S W (daCons g daNil) σ H1 P := by
  refine ⟨env, L1, M, he, s1, ?_⟩
  show PostG S (W σ) M H1 (PVA S M P) ((g env L1).bind fun a L1 => R.bind (daNil env L1) fun b L2 => .ok (a :: b) L2)
  revert q
  cases eg : g env L1 with
  | ok b L2 =>
    intro q H2 x2 s2 v rv
    obtain ⟨y, rfl, ry⟩ := RepAll.single rv
    exact i b L2 H2 y x2 s2 ry (PostG.ext x2 q)
  | exc ex L2 => exact fun q => q
  | no => exact fun q => q
theorem de_append {o e : Expr} {f g : DE} {pos apos : Pos} (h : ∀ to t, PE X o to → PA X [e] t → PE X (.Call (.Attribute o "append" apos) [e] [] pos) (tBM X.K "list" rAppend to t)) (ho : PE X o (tD S W f)) (he : PA X [e] (tDA S W (daCons g daNil))) :
    PE X (.Call (.Attribute o "append" apos) [e] [] pos) (tD S W (dAppend f g)) := pe_imp (h _ _ ho he) fun σ H Q => by
  rintro ⟨env, L, M, he, hs, hp⟩
  refine ⟨env, L, M, he, hs, PostG.seq hp fun a L1 H1 x1 s1 q x ra => ?_⟩
  split at q
  · rename_i er
    obtain ⟨n, p, ds0, vs0, rfl, rfl, hm, el0, h0, _⟩ := isRefL_ok s1 ra er
    refine ⟨Or.inl ⟨rfl, _, Or.inl (Or.inl h0)⟩, tDA_one (he.mono x1 Grow.refl) s1 q fun b L2 H2 y x2 s2 ry q2 => ?_⟩
    unfold kAppend at q2
    cases el : L2[n]? with
    | none => simp only [el] at q2; exact q2.elim
    | some o =>
      cases o with
      | dic ds => simp only [el] at q2; exact q2.elim
      | lst ds =>
        simp only [el] at q2
        split at q2
        · rename_i hf
          obtain ⟨vs, h1, rv⟩ := s2.at_ n p _ hm el
          have hl2 : n < L2.length := (List.getElem?_eq_some_iff.mp el).1
          refine ⟨p, vs, y, rfl, rfl, h1, by rw [rv.len, sizeLine_eq]; exact of_decide_eq_true hf, ?_⟩
          obtain ⟨x3, s3⟩ := s2.put (u := .lst (vs ++ [y])) (o := .lst (ds ++ [b])) hm hl2 fun H' e' x' => ⟨_, e', (RepAll.mono x' Grow.refl _ _ rv).app (RepAll.one (ry.mono x' Grow.refl))⟩
          exact q2 _ x3 s3 _ rfl
        · exact q2.elim
  · exact q.elim
/-! ### x[i] = e -/
def kSetIx (a i d : D) (L : LH) : R Unit := match a, i with
  | .ref n, .int k => (match L[n]? with
    | some (.lst ds) => (match ixN ds.length k with
      | some j => .ok () (L.set n (.lst (ds.set j d)))
      | none => .no)
    | _ => .no)
  | _, _ => .no
def sSetIx (f g h : DE) : DS := fun env L => (h env L).toS env fun d L1 => (f env L1).toS env fun a L2 => (g env L2).toS env fun i L3 => (kSetIx a i d L3).toS env fun _ L4 => .nx env L4
theorem s_setIx {o i e : Expr} {f g h : DE} {pos p2 : Pos} (hh : ∀ to ti te, PE X o to → PE X i ti → PE X e te → PS X (.Assign [.Subscript o i p2] e pos) (tAsg te (gSub to ti rSetL))) (ho : PE X o (tD S W f)) (hi : PE X i (tD S W g)) (he : PE X e (tD S W h)) :
    PS X (.Assign [.Subscript o i p2] e pos) (tS S W (sSetIx f g h)) := ps_imp (hh _ _ _ ho hi he) fun E σ H => by
  rintro ⟨env, L, M, he, hs, hp⟩
  refine ⟨env, L, M, he, hs, PostS.expr he hp fun d L1 H1 x1 s1 q v rd => ?_⟩
  refine ⟨env, L1, M, he.mono x1 Grow.refl, s1, PostS.expr (he.mono x1 Grow.refl) q fun a L2 H2 x2 s2 q2 x ra => ?_⟩
  refine ⟨env, L2, M, (he.mono x1 Grow.refl).mono x2 Grow.refl, s2, PostS.expr ((he.mono x1 Grow.refl).mono x2 Grow.refl) q2 fun i L3 H3 x3 s3 q3 y ri => ?_⟩
  have ra' := ra.mono x3 Grow.refl
  unfold kSetIx at q3
  split at q3
  · rename_i n k
    obtain ⟨p, rfl, hm⟩ := ra'
    cases el : L3[n]? with
    | none => simp only [el] at q3; exact q3.elim
    | some o =>
      cases o with
      | dic ds => simp only [el] at q3; exact q3.elim
      | lst ds =>
        simp only [el] at q3
        cases ej : ixN ds.length k with
        | none => simp only [ej] at q3; exact q3.elim
        | some j =>
          simp only [ej] at q3
          obtain ⟨vs, h1, rv⟩ := s3.at_ n p _ hm el
          have hl3 : n < L3.length := (List.getElem?_eq_some_iff.mp el).1
          refine ⟨p, vs, k, j, rfl, ri, h1, by rw [rv.len]; exact ej, ?_⟩
          have rd' := (rd.mono x2 Grow.refl).mono x3 Grow.refl
          obtain ⟨x4, s4⟩ := s3.put (u := .lst (vs.set j v)) (o := .lst (ds.set j d)) hm hl3 fun H' e' x' => ⟨_, e', RepAll.set (rd'.mono x' Grow.refl) j (RepAll.mono x' Grow.refl _ _ rv)⟩
          exact q3 σ _ M Grow.refl x4 s4 ((((he.mono x1 Grow.refl).mono x2 Grow.refl).mono x3 Grow.refl).mono x4 Grow.refl)
  · exact q3.elim
end DL

set_option Elab.async false
set_option linter.all false
set_option maxRecDepth 100000
set_option maxHeartbeats 1000000
namespace DL
open PySem PySem.Spec L2
open PyProof.Rows (envOfC)
variable {S : Sg} {X : Cx} {W : St → WH}
/-! ### a def's local objects are let go at its end -/
mutual
/-- no object from b on is in it -/
def low (b : Nat) : D → Bool
  | .ref n => decide (n < b)
  | .tup ds => lowAll b ds
  | .lst ds => lowAll b ds
  | .frl ds => lowAll b ds
  | .dic ks => lowKV b ks
  | _ => true
def lowAll (b : Nat) : List D → Bool
  | [] => true
  | d :: ds => low b d && lowAll b ds
def lowKV (b : Nat) : List (Key × D) → Bool
  | [] => true
  | kd :: ds => low b kd.2 && lowKV b ds
end
def lowO (b : Nat) : LO → Bool
  | .lst ds => lowAll b ds
  | .dic ks => lowKV b ks
mutual
/-- objects from b on become values -/
def frzD (b : Nat) (L : LH) : D → Option D
  | .ref n => if n < b then some (.ref n) else (match L[n]? with
    | some (.lst ds) => if lowAll b ds then some (.lst ds) else none
    | some (.dic ks) => if lowKV b ks then some (.dic ks) else none
    | none => none)
  | .tup ds => (frzAll b L ds).map .tup
  | d => if low b d then some d else none
def frzAll (b : Nat) (L : LH) : List D → Option (List D)
  | [] => some []
  | d :: ds => match frzD b L d, frzAll b L ds with
    | some x, some r => some (x :: r)
    | _, _ => none
end
def leave (L L' : LH) (d : D) : R D := if L'.length = L.length then .ok d L' else
  (match frzD L.length L' d with
  | some d' => if (L'.take L.length).all (lowO L.length) then .ok d' (L'.take L.length) else .no
  | none => .no)
section
variable {K : PySem.W.Frag} {M M' : Mu} {H : Hp} {ex ey : List Addr}
theorem take_get {m : List Addr} {ex : List Addr} {n : Nat} {a : Addr} (h : (m ++ ex)[n]? = some a) (hn : n < m.length) : m[n]? = some a := by
  rw [List.getElem?_append_left hn] at h; exact h
theorem nap {a : Addr} {m ex : List Addr} (h : a ∉ m ++ ex) : a ∉ m := fun z => h (List.mem_append_left _ z)
theorem nap' {a : Addr} {m ex : List Addr} (h : a ∉ ex ++ m) : a ∉ m := fun z => h (List.mem_append_right _ z)
theorem SqM.low {a : Addr} {vs : List V} (h : SqM K (M.m ++ ex) H a vs) : SqM K M.m H a vs := by
  rcases h with ⟨o, h, d, n⟩ | h
  · exact .inl ⟨o, h, d, nap n⟩
  · exact .inr h
mutual
theorem low_ok : ∀ (d : D) (v : V), low M.m.length d = true → Rep K ⟨M.m ++ ex, ey ++ M.x⟩ H d v → Rep K M H d v
  | .non, _, _, h => h
  | .bl _, _, _, h => h
  | .int _, _, _, h => h
  | .str _, _, _, h => h
  | .tup ds, _, e, ⟨a, vs, e1, h, r⟩ => ⟨a, vs, e1, SqM.low h, lowAll_ok ds vs e r⟩
  | .lst ds, _, e, ⟨a, vs, e1, h, n, n2, r⟩ => ⟨a, vs, e1, h, nap n, nap' n2, lowAll_ok ds vs e r⟩
  | .frl ds, _, e, ⟨a, vs, e1, h, r⟩ => ⟨a, vs, e1, h.elim (fun z => .inl ⟨z.1, nap z.2.1, nap' z.2.2⟩) .inr, lowAll_ok ds vs e r⟩
  | .dic ds, _, e, ⟨a, vs, e1, h, n, n2, r⟩ => ⟨a, vs, e1, h, nap n, nap' n2, lowKV_ok ds vs e r⟩
  | .ref n, _, e, ⟨a, e1, h⟩ => ⟨a, e1, take_get h (of_decide_eq_true e)⟩
  | .obj _, _, _, h => h
theorem lowAll_ok : ∀ (ds : List D) (vs : List V), lowAll M.m.length ds = true → RepAll K ⟨M.m ++ ex, ey ++ M.x⟩ H ds vs → RepAll K M H ds vs
  | [], _, _, h => h
  | d :: ds, _, e, ⟨v, r, e1, h, t⟩ => by
    have e' : (low M.m.length d && lowAll M.m.length ds) = true := e
    rw [Bool.and_eq_true] at e'
    exact ⟨v, r, e1, low_ok d v e'.1 h, lowAll_ok ds r e'.2 t⟩
theorem lowKV_ok : ∀ (ds : List (Key × D)) (vs : List (Key × V)), lowKV M.m.length ds = true → RepKV K ⟨M.m ++ ex, ey ++ M.x⟩ H ds vs → RepKV K M H ds vs
  | [], _, _, h => h
  | kd :: ds, _, e, ⟨v, r, e1, h, t⟩ => by
    have e' : (low M.m.length kd.2 && lowKV M.m.length ds) = true := e
    rw [Bool.and_eq_true] at e'
    exact ⟨v, r, e1, low_ok kd.2 v e'.1 h, lowKV_ok ds r e'.2 t⟩
end
theorem nmem_right {m ex : List Addr} {n : Nat} {a : Addr} (hd : (m ++ ex).Nodup) (h : (m ++ ex)[n]? = some a) (hn : ¬ n < m.length) : a ∉ m := fun z => by
  rw [List.getElem?_append_right (by omega)] at h
  exact (List.nodup_append.mp hd).2.2 a z a (List.mem_of_getElem? h) rfl
mutual
theorem frz_ok {L : LH} (s : Sim K ⟨M.m ++ ex, ey ++ M.x⟩ H L) (hx : ∀ a ∈ M.x, a ∉ ex) : ∀ (d : D) (v : V) (d' : D), frzD M.m.length L d = some d' → Rep K ⟨M.m ++ ex, ey ++ M.x⟩ H d v → Rep K M H d' v
  | .ref n, v, d', e, ⟨a, e1, h⟩ => by
    unfold frzD at e
    split at e
    · rename_i hn
      cases e
      exact ⟨a, e1, take_get h hn⟩
    · rename_i hn
      have na : a ∉ M.m := nmem_right s.nod h hn
      have ae : a ∈ ex := by
        have h' : (M.m ++ ex)[n]? = some a := h
        rw [List.getElem?_append_right (by omega)] at h'
        exact List.mem_of_getElem? h'
      have nx : a ∉ M.x := fun z => hx a z ae
      split at e
      · rename_i ds el
        split at e
        · rename_i hl
          cases e
          obtain ⟨vs, q, r⟩ := s.at_ n a _ h el
          exact ⟨a, vs, e1, q, na, nx, lowAll_ok ds vs hl r⟩
        · cases e
      · rename_i ks el
        split at e
        · rename_i hl
          cases e
          obtain ⟨vs, q, r⟩ := s.at_ n a _ h el
          exact ⟨a, vs, e1, .inl q, na, nx, lowKV_ok ks vs hl r⟩
        · cases e
      · cases e
  | .tup ds, v, d', e, ⟨a, vs, e1, h, r⟩ => by
    have e' : (frzAll M.m.length L ds).map D.tup = some d' := e
    cases q : frzAll M.m.length L ds with
    | none => rw [q] at e'; cases e'
    | some xs =>
      rw [q] at e'
      cases e'
      exact ⟨a, vs, e1, SqM.low h, frzAll_ok s hx ds vs xs q r⟩
  | .non, _, _, e, h => by unfold frzD at e; split at e <;> cases e; exact h
  | .bl _, _, _, e, h => by unfold frzD at e; split at e <;> cases e; exact h
  | .int _, _, _, e, h => by unfold frzD at e; split at e <;> cases e; exact h
  | .str _, _, _, e, h => by unfold frzD at e; split at e <;> cases e; exact h
  | .lst _, _, _, e, h => by unfold frzD at e; split at e; cases e; exact low_ok _ _ (by assumption) h; cases e
  | .frl _, _, _, e, h => by unfold frzD at e; split at e; cases e; exact low_ok _ _ (by assumption) h; cases e
  | .dic _, _, _, e, h => by unfold frzD at e; split at e; cases e; exact low_ok _ _ (by assumption) h; cases e
  | .obj _, _, _, e, h => by unfold frzD at e; split at e <;> cases e; exact h
theorem frzAll_ok {L : LH} (s : Sim K ⟨M.m ++ ex, ey ++ M.x⟩ H L) (hx : ∀ a ∈ M.x, a ∉ ex) : ∀ (ds : List D) (vs : List V) (ds' : List D), frzAll M.m.length L ds = some ds' → RepAll K ⟨M.m ++ ex, ey ++ M.x⟩ H ds vs → RepAll K M H ds' vs
  | [], _, _, e, h => by cases e; exact h
  | d :: ds, _, ds', e, ⟨v, r, e1, h, t⟩ => by
    have e' : (match frzD M.m.length L d, frzAll M.m.length L ds with | some x, some r => some (x :: r) | _, _ => none) = some ds' := e
    cases hd : frzD M.m.length L d with
    | none => rw [hd] at e'; cases e'
    | some x =>
      cases hr : frzAll M.m.length L ds with
      | none => rw [hd, hr] at e'; cases e'
      | some xs =>
        rw [hd, hr] at e'
        cases e'
        exact ⟨v, r, e1, frz_ok s hx d v x hd h, frzAll_ok s hx ds r xs hr t⟩
end
theorem Sim.cut {L : LH} (s : Sim K ⟨M.m ++ ex, ey ++ M.x⟩ H L) (hl : (L.take M.m.length).all (lowO M.m.length) = true) : Sim K M H (L.take M.m.length) := by
  have len : (M.m ++ ex).length = L.length := s.len
  rw [List.length_append] at len
  refine ⟨by rw [List.length_take]; omega, (List.nodup_append.mp s.nod).1, fun n a o e1 e2 => ?_, fun a ha => s.xs a (List.mem_append_right _ ha)⟩
  have hn : n < M.m.length := (List.getElem?_eq_some_iff.mp e1).1
  have lo : lowO M.m.length o = true := List.all_eq_true.mp hl o (List.mem_of_getElem? e2)
  have e3 : (M.m ++ ex)[n]? = some a := by rw [List.getElem?_append_left hn]; exact e1
  have e4 : L[n]? = some o := by
    rw [List.getElem?_take, if_pos hn] at e2
    exact e2
  have ro := s.at_ n a o e3 e4
  cases o with
  | lst ds => obtain ⟨vs, q, r⟩ := ro; exact ⟨vs, q, lowAll_ok ds vs lo r⟩
  | dic ks => obtain ⟨vs, q, r⟩ := ro; exact ⟨vs, q, lowKV_ok ks vs lo r⟩
end
section
variable {M M' : Mu} {H H' : Hp} {L L' : LH}
/-- only what is being made has grown -/
theorem Mu.same {K : PySem.W.Frag} (g : Grow H M M') (s : Sim K M H L) (s' : Sim K M' H' L') (hl : L'.length = L.length) : M'.m = M.m := by
  obtain ⟨ex, e, f⟩ := g.m
  have h1 := s.len
  have h2 := s'.len
  rw [e, List.length_append] at h2
  have : ex = [] := List.eq_nil_of_length_eq_zero (by omega)
  rw [e, this, List.append_nil]
mutual
theorem Rep.lessx {K : PySem.W.Frag} {m x y : List Addr} : ∀ (d : D) (v : V), Rep K ⟨m, y ++ x⟩ H d v → Rep K ⟨m, x⟩ H d v
  | .non, _, h => h
  | .bl _, _, h => h
  | .int _, _, h => h
  | .str _, _, h => h
  | .tup ds, _, ⟨a, vs, e1, h, r⟩ => ⟨a, vs, e1, h, RepAll.lessx ds vs r⟩
  | .lst ds, _, ⟨a, vs, e1, h, n, n2, r⟩ => ⟨a, vs, e1, h, n, nap' n2, RepAll.lessx ds vs r⟩
  | .frl ds, _, ⟨a, vs, e1, h, r⟩ => ⟨a, vs, e1, h.elim (fun z => .inl ⟨z.1, z.2.1, nap' z.2.2⟩) .inr, RepAll.lessx ds vs r⟩
  | .dic ds, _, ⟨a, vs, e1, h, n, n2, r⟩ => ⟨a, vs, e1, h, n, nap' n2, RepKV.lessx ds vs r⟩
  | .ref _, _, h => h
  | .obj _, _, h => h
theorem RepAll.lessx {K : PySem.W.Frag} {m x y : List Addr} : ∀ (ds : List D) (vs : List V), RepAll K ⟨m, y ++ x⟩ H ds vs → RepAll K ⟨m, x⟩ H ds vs
  | [], _, h => h
  | d :: ds, _, ⟨v, r, e1, h, t⟩ => ⟨v, r, e1, Rep.lessx d v h, RepAll.lessx ds r t⟩
theorem RepKV.lessx {K : PySem.W.Frag} {m x y : List Addr} : ∀ (ds : List (Key × D)) (vs : List (Key × V)), RepKV K ⟨m, y ++ x⟩ H ds vs → RepKV K ⟨m, x⟩ H ds vs
  | [], _, h => h
  | kd :: ds, _, ⟨v, r, e1, h, t⟩ => ⟨v, r, e1, Rep.lessx kd.2 v h, RepKV.lessx ds r t⟩
end
theorem Sim.lessx {K : PySem.W.Frag} {m x y : List Addr} (s : Sim K ⟨m, y ++ x⟩ H L) : Sim K ⟨m, x⟩ H L :=
  ⟨s.len, s.nod, fun n a o e1 e2 => by
    have ro := s.at_ n a o e1 e2
    cases o with
    | lst ds => obtain ⟨vs, q, r⟩ := ro; exact ⟨vs, q, RepAll.lessx ds vs r⟩
    | dic ks => obtain ⟨vs, q, r⟩ := ro; exact ⟨vs, q, RepKV.lessx ks vs r⟩, fun a ha => s.xs a (List.mem_append_right _ ha)⟩
/-- at a def's end -/
theorem leave_ok {w : WH} {P : D → LH → Hp → Prop} {d : D} (g : Grow H M M') (x : Ext M.m H H') (s : Sim S.K M H L) (s' : Sim S.K M' H' L') {v : V} {Q : VK} (hp : PostG S w M H (PV S M Q) (leave L L' d)) (r : Rep S.K M' H' d v) : Q v H' := by
  unfold leave at hp
  split at hp
  · rename_i hl
    have em := Mu.same g s s' hl
    obtain ⟨ey, ex2, fy⟩ := g.x
    obtain ⟨m', x'⟩ := M'
    obtain ⟨m, x0⟩ := M
    simp only at em ex2
    subst em ex2
    exact hp H' x s'.lessx v (Rep.lessx d v r)
  · obtain ⟨ex, e, f⟩ := g.m
    obtain ⟨ey, e2, fy⟩ := g.x
    obtain ⟨m', x'⟩ := M'
    obtain ⟨m, x0⟩ := M
    simp only at e e2
    subst e e2
    have hlen : L.length = m.length := s.len.symm
    rw [hlen] at hp
    split at hp
    · rename_i d' ed
      split at hp
      · rename_i hall
        exact hp H' x (Sim.cut (M := ⟨m, x0⟩) s' hall) v (frz_ok (M := ⟨m, x0⟩) s' (fun a ha z => s.xs a ha (f a z)) d v d' ed r)
      · exact hp.elim
    · exact hp.elim
end
/-! ### what a def is worth -/
def startD (N : Nat) (ds : List D) : DEnv := ds.map some ++ List.replicate (N - ds.length) none
def leaveX (L L' : LH) (e : Exn) : R D := match e.val with
  | none => if L'.length = L.length then .exc e L' else if (L'.take L.length).all (lowO L.length) then .exc e (L'.take L.length) else .no
  | some (f, d) => if L'.length = L.length then .exc e L' else
    (match frzD L.length L' d with
    | some d' => if (L'.take L.length).all (lowO L.length) then .exc ⟨e.cls, some (f, d')⟩ (L'.take L.length) else .no
    | none => .no)
def fnD (N : Nat) (body : DS) : List D → LH → R D := fun ds L => match body (startD N ds) L with
  | .nx _ L' => leave L L' .non
  | .rt d L' => leave L L' d
  | .rf ds L' => leave L L' (.lst ds)
  | .exc e _ L' => leaveX L L' e
  | _ => .no
/-- .. of a def that hands back a new list -/
def fnF (N : Nat) (body : DS) : List D → LH → R (List D) := fun ds L => match body (startD N ds) L with
  | .rf ds L' => if L'.length = L.length then .ok ds L' else .no
  | .exc e _ L' => (leaveX L L' e).bind fun _ _ => .no
  | _ => .no
def spF (S : Sg) (n : Nat) (F : List D → LH → R (List D)) : Sp := fun vs H Q E => ∃ ds L M, ds.length = n ∧ RepAll S.K M H ds vs ∧ Sim S.K M H L ∧ PostG S E M H (fun xs _ H1 => ∀ us p, H1 p = none → RepAll S.K M H1 xs us → Q (.ref p) (upd H1 p (.lst us))) (F ds L)
def spD (S : Sg) (n : Nat) (F : List D → LH → R D) : Sp := fun vs H Q E => ∃ ds L M, ds.length = n ∧ RepAll S.K M H ds vs ∧ Sim S.K M H L ∧ PostG S E M H (PV S M Q) (F ds L)
theorem start_rep {K : PySem.W.Frag} {M : Mu} {H : Hp} {N : List Str} {ds : List D} {vs : List V} (r : RepAll K M H ds vs) : EnvR K M H (startD N.length ds) (L2.start N vs) := by
  have hl := r.len
  refine ⟨by simp [L2.start, startD, hl], fun i d e => ?_⟩
  unfold startD at e
  by_cases hi : i < ds.length
  · rw [List.getElem?_append_left (by simpa using hi), List.getElem?_map] at e
    cases q : ds[i]? with
    | none => rw [q] at e; cases e
    | some d' =>
      rw [q] at e
      have e' : d' = d := by simpa using e
      subst e'
      obtain ⟨v, e1, rv⟩ := r.get q
      refine ⟨v, ?_, rv⟩
      unfold L2.start
      rw [List.getElem?_append_left (by simp [hl]; exact hi), List.getElem?_map, e1]
      rfl
  · rw [List.getElem?_append_right (by simp; omega)] at e
    have := List.mem_of_getElem? e
    rw [List.mem_replicate] at this
    cases this.2
theorem leaveX_ok {w : WH} {P : D → LH → Hp → Prop} {M M' : Mu} {H H' : Hp} {L L' : LH} {e : Exn} (g : Grow H M M') (x : Ext M.m H H') (s : Sim S.K M H L) (s' : Sim S.K M' H' L') {cls : Value} {dd : Option Addr} (hp : PostG S w M H P (leaveX L L' e))
    (r : XR S.K S.ct M' e cls dd H') : w cls dd H' := by
  have nm : ∀ a, a ∉ M'.m → a ∉ M.m := fun a h => by
    obtain ⟨ex, q, _⟩ := g.m
    rw [q] at h
    exact nap h
  obtain ⟨C, c1, c2, c3⟩ := r
  unfold leaveX at hp
  cases ev : e.val with
  | none =>
    rw [ev] at hp
    simp only at hp
    split at hp
    · rename_i hl
      have em := Mu.same g s s' hl
      obtain ⟨ey, ex2, fy⟩ := g.x
      obtain ⟨m', x'⟩ := M'
      obtain ⟨m, x0⟩ := M
      simp only at em ex2
      subst em ex2
      exact hp cls dd H' x s'.lessx ⟨C, c1, c2, by rw [ev]; trivial⟩
    · split at hp
      · rename_i hall
        obtain ⟨ex, q, f⟩ := g.m
        obtain ⟨ey, e2, fy⟩ := g.x
        obtain ⟨m', x'⟩ := M'
        obtain ⟨m, x0⟩ := M
        simp only at q e2
        subst q e2
        have hlen : L.length = m.length := s.len.symm
        rw [hlen] at hall hp
        exact hp cls dd H' x (Sim.cut (M := ⟨m, x0⟩) s' hall) ⟨C, c1, c2, by rw [ev]; trivial⟩
      · exact hp.elim
  | some p =>
    obtain ⟨fn, d⟩ := p
    rw [ev] at hp c3
    simp only at hp
    obtain ⟨a, v, d1, d2, d3, d4⟩ := c3
    split at hp
    · rename_i hl
      have em := Mu.same g s s' hl
      obtain ⟨ey, ex2, fy⟩ := g.x
      obtain ⟨m', x'⟩ := M'
      obtain ⟨m, x0⟩ := M
      simp only at em ex2
      subst em ex2
      exact hp cls dd H' x s'.lessx ⟨C, c1, c2, by rw [ev]; exact ⟨a, v, d1, d2, d3, Rep.lessx d v d4⟩⟩
    · obtain ⟨ex, q, f⟩ := g.m
      obtain ⟨ey, e2, fy⟩ := g.x
      obtain ⟨m', x'⟩ := M'
      obtain ⟨m, x0⟩ := M
      simp only at q e2
      subst q e2
      have hlen : L.length = m.length := s.len.symm
      rw [hlen] at hp
      split at hp
      · rename_i d' ed
        split at hp
        · rename_i hall
          exact hp cls dd H' x (Sim.cut (M := ⟨m, x0⟩) s' hall) ⟨C, c1, c2, ⟨a, v, d1, d2, nap d3, frz_ok (M := ⟨m, x0⟩) s' (fun a ha z => s.xs a ha (f a z)) d v d' ed d4⟩⟩
        · exact hp.elim
      · exact hp.elim
/-- the body's reading, from what the def is worth -/
theorem fn_reading {N : List Str} {n : Nat} {body : DS} {vs : List V} {H : Hp} {Q : VK} {E : XK} (h : spD S n (fnD N.length body) vs H Q E) :
    tS S (fun _ => E) body { nx := fun _ H' => Q .non H', rt := Q } (L2.start N vs) H := by
  obtain ⟨ds, L, M, hn, r, s, hp⟩ := h
  refine ⟨startD N.length ds, L, M, start_rep r, s, ?_⟩
  unfold fnD at hp
  cases e : body (startD N.length ds) L with
  | nx env L' => rw [e] at hp; exact fun σ H' M' g x s' _ => leave_ok (P := fun _ _ _ => True) g x s s' hp rfl
  | rt d L' => rw [e] at hp; exact fun v H' M' g x s' r' => leave_ok (P := fun _ _ _ => True) g x s s' hp r'
  | rf xs L' => rw [e] at hp; exact fun H' M' vs p g x s' hn r' => leave_ok (P := fun _ _ _ => True) g (x.over g (Ext.new hn)) s (s'.new hn) hp (rep_lst_new s' hn r')
  | bk env L' => rw [e] at hp; exact hp.elim
  | ct env L' => rw [e] at hp; exact hp.elim
  | exc ex env L' => rw [e] at hp; exact fun σ c dd H' M' g x s' _ z => leaveX_ok g x s s' hp z
  | no => rw [e] at hp; exact hp.elim
theorem fn_readingF {N : List Str} {n : Nat} {body : DS} {vs : List V} {H : Hp} {Q : VK} {E : XK} (h : spF S n (fnF N.length body) vs H Q E) :
    tS S (fun _ => E) body { nx := fun _ H' => Q .non H', rt := Q } (L2.start N vs) H := by
  obtain ⟨ds, L, M, hn, r, s, hp⟩ := h
  refine ⟨startD N.length ds, L, M, start_rep r, s, ?_⟩
  unfold fnF at hp
  cases e : body (startD N.length ds) L with
  | nx env L' => rw [e] at hp; exact hp.elim
  | rt d L' => rw [e] at hp; exact hp.elim
  | rf xs L' =>
    rw [e] at hp
    intro H' M' us p g x s' hp' r'
    simp only at hp
    split at hp
    · rename_i hl
      have em := Mu.same g s s' hl
      obtain ⟨ey, ex2, fy⟩ := g.x
      obtain ⟨m', x'⟩ := M'
      obtain ⟨m, x0⟩ := M
      simp only at em ex2
      subst em ex2
      exact hp H' x s'.lessx us p hp' (RepAll.lessx xs us r')
    · exact hp.elim
  | bk env L' => rw [e] at hp; exact hp.elim
  | ct env L' => rw [e] at hp; exact hp.elim
  | exc ex env L' =>
    rw [e] at hp
    intro σ c dd H' M' g x s' _ z
    simp only at hp
    refine leaveX_ok (w := E) (P := fun _ _ _ => True) g x s s' ?_ z
    revert hp
    cases leaveX L L' ex with
    | ok d L2 => exact fun h => h.elim
    | exc e2 L2 => exact fun h => h
    | no => exact fun h => h.elim
  | no => rw [e] at hp; exact hp.elim
theorem spF_len {n : Nat} {F : List D → LH → R (List D)} {ps : List Str} (hn : ps.length = n) : ∀ vs H Q E, spF S n F vs H Q E → vs.length = ps.length := fun vs H Q E ⟨ds, L, M, h1, r, _⟩ => by rw [r.len, h1, hn]
/-- a call of a def that hands back a new list -/
def dCallF (n : Nat) (F : List D → LH → R (List D)) (g : DA) : DF := fun env L => (g env L).bind fun ds L1 => if ds.length = n then F ds L1 else .no
theorem df_call {n : Nat} {F : List D → LH → R (List D)} {x : Str} {es : List Expr} {g : DA} {p pos : Pos}
    (hc : ∀ t, PA X es t → PE X (.Call (.Name x p) es [] pos) (tCallS (spF S n F) W t)) (ha : PA X es (tDA S W g)) : PE X (.Call (.Name x p) es [] pos) (tF S W (dCallF n F g)) := pe_imp (hc _ ha) fun σ H Q => by
  rintro ⟨env, L, M, he, hs, hp⟩
  refine ⟨env, L, M, he, hs, PostG.seq hp fun ds L1 H1 x1 s1 q vs r => ?_⟩
  split at q
  · rename_i hn
    exact ⟨ds, L1, M, hn, r, s1, q⟩
  · exact q.elim
theorem spD_len {n : Nat} {F : List D → LH → R D} {ps : List Str} (hn : ps.length = n) : ∀ vs H Q E, spD S n F vs H Q E → vs.length = ps.length := fun vs H Q E ⟨ds, L, M, h1, r, _⟩ => by rw [r.len, h1, hn]
/-- a call of a def of the text -/
def dCall (n : Nat) (F : List D → LH → R D) (g : DA) : DE := fun env L => (g env L).bind fun ds L1 => if ds.length = n then F ds L1 else .no
theorem de_call {n : Nat} {F : List D → LH → R D} {x : Str} {es : List Expr} {g : DA} {p pos : Pos}
    (hc : ∀ t, PA X es t → PE X (.Call (.Name x p) es [] pos) (tCallS (spD S n F) W t)) (ha : PA X es (tDA S W g)) : PE X (.Call (.Name x p) es [] pos) (tD S W (dCall n F g)) := pe_imp (hc _ ha) fun σ H Q => by
  rintro ⟨env, L, M, he, hs, hp⟩
  refine ⟨env, L, M, he, hs, PostG.seq hp fun ds L1 H1 x1 s1 q vs r => ?_⟩
  split at q
  · rename_i hn
    exact ⟨ds, L1, M, hn, r, s1, q⟩
  · exact q.elim
/-- what of a context a body's terms lean on -/
abbrev wishOf (W : St → WH) : WX := fun c d σ H => W σ c d H
/-- THE RULE for a def: its body's term -/
theorem fun_okD {P : Program} {w : World} {K : PySem.W.Frag} {ct : Str → Option Addr} {mg : Str → Option Value} {base : Heap} {x qual : Str} {st : Stmt} {f : Addr} {fd : FuncData} {N ps : List Str} {k n : Nat} {body : DS} (F : Fun K x qual st f fd) (Sc : FnScope N ps (defScope st)) (hn : ps.length = n)
    (hbody : ∀ (cdv : Value) (A : Around) (outer : List Env) (s : Shared) (H : Hp) (E : XK), Room k (A.deeper (envOfC qual (defScope st) s.heap.objs.size f cdv)) →
      PSs (cxOf (L2.CX P w) P w K mg base N qual (defScope st) f cdv A outer s H E) (defBody st) (tS ⟨K, ct⟩ (fun _ => E) body)) : FnOk P w K mg base (L2.CX P w) (k + 1) f fd ps (spD ⟨K, ct⟩ n (fnD N.length body)) :=
  F.okX Sc (spD_len hn) fun cdv A outer s H vs Q E hr h => ⟨_, hbody cdv A outer s H E hr, fn_reading h⟩
theorem fun_okF {P : Program} {w : World} {K : PySem.W.Frag} {ct : Str → Option Addr} {mg : Str → Option Value} {base : Heap} {x qual : Str} {st : Stmt} {f : Addr} {fd : FuncData} {N ps : List Str} {k n : Nat} {body : DS} (F : Fun K x qual st f fd) (Sc : FnScope N ps (defScope st)) (hn : ps.length = n)
    (hbody : ∀ (cdv : Value) (A : Around) (outer : List Env) (s : Shared) (H : Hp) (E : XK), Room k (A.deeper (envOfC qual (defScope st) s.heap.objs.size f cdv)) →
      PSs (cxOf (L2.CX P w) P w K mg base N qual (defScope st) f cdv A outer s H E) (defBody st) (tS ⟨K, ct⟩ (fun _ => E) body)) : FnOk P w K mg base (L2.CX P w) (k + 1) f fd ps (spF ⟨K, ct⟩ n (fnF N.length body)) :=
  F.okX Sc (spF_len hn) fun cdv A outer s H vs Q E hr h => ⟨_, hbody cdv A outer s H E hr, fn_readingF h⟩
end DL

set_option Elab.async false
set_option linter.all false
set_option maxRecDepth 100000
set_option maxHeartbeats 1000000
namespace DL
open PySem PySem.Spec L2
open PyProof.Rows (envOfC)
variable {S : Sg} {X : Cx} {W : St → WH}
/-! ### what is walked -/
/-- an iterator gives the items, whatever else happens -/
structure IterOk (S : Sg) (M : Mu) (H1 : Hp) (items : List D) (J : It) (G : Hp → Prop) (Y : Nat → Hp → V → Hp → Prop) : Prop where
  w : Walk J items.length G Y
  g : ∀ M' H', Grow H1 M M' → Ext M.m H1 H' → G H'
  y : ∀ M' H2 L2 i x H3, Grow H1 M M' → Ext M.m H1 H2 → Sim S.K M' H2 L2 → i < items.length → Y i H2 x H3 → Ext M'.m H2 H3 ∧ Sim S.K M' H3 L2 ∧ ∃ d, items[i]? = some d ∧ Rep S.K M' H3 d x
abbrev DI := DEnv → LH → R (List D)
def tI (S : Sg) (W : St → WH) (f : DI) : TI := fun σ H Rr => ∃ env L M, EnvR S.K M H env σ ∧ Sim S.K M H L ∧ PostG S (W σ) M H (fun items _ H1 => ∀ J G Y, IterOk S M H1 items J G Y → Rr J H1) (f env L)
theorem pi_imp {tg iter : Expr} {t t' : TI} (h : PI X tg iter t) (i : ∀ σ H Q, t' σ H Q → t σ H Q) : PI X tg iter t' := ⟨fun pins s σ H Q I q => h.run pins s σ H Q I (i σ H Q q)⟩
/-- a list or a tuple -/
def iSeq (K : PySem.W.Frag) (tl : TE) : TI := fun σ H Rr => tl σ H fun x H1 => ∃ a, x = .ref a ∧ ((∃ xs, SqL K H1 a xs ∧ Rr (Itl K a) H1) ∨ (∃ xs, SqT K H1 a xs ∧ Rr (Itt K a) H1))
theorem pi_seq {tg l : Expr} {tl : TE} (hl : PE X l tl) : PI X tg l (iSeq X.K tl) := by
  refine ⟨fun pins s σ H Rr I h => ?_⟩
  refine thn (hl.run pins s σ H _ I h) fun v s1 ⟨x, H1, I1, r1, q1⟩ => ?_
  obtain ⟨a, e, q1⟩ := q1
  subst e
  cases r1
  rcases q1 with ⟨xs, hq, q⟩ | ⟨xs, hq, q⟩
  · obtain ⟨its, rv, p, hz⟩ := I1.list hq
    refine PySem.wpAny_pyIter_list p.isList ?_
    refine ⟨s1.heap.objs.size, [s1.heap.objs.size], _, _, H1, rfl, I1.kept (t' := s1.toks) fun b o e => Heap.get?_push_of_some _ e, turn_list a _, ⟨_, Heap.get?_push_size _ rfl, rfl, rfl⟩, fun b hb => ?_, q⟩
    have e : b = s1.heap.objs.size := by simpa using hb
    rw [e]
    exact I1.fpOk (Nat.le_refl _) (I1.hok.fresh (Nat.le_refl _))
  · obtain ⟨its, rv, p, hz⟩ := I1.tuple hq
    refine PySem.wpAny_pyIter_tuple (show s1.heap.IsTuple a its.toArray from p) ?_
    refine ⟨s1.heap.objs.size, [s1.heap.objs.size], _, _, H1, rfl, I1.kept (t' := s1.toks) fun b o e => Heap.get?_push_of_some _ e, turn_tuple a _, ⟨_, Heap.get?_push_size _ rfl, rfl, rfl⟩, fun b hb => ?_, q⟩
    have e : b = s1.heap.objs.size := by simpa using hb
    rw [e]
    exact I1.fpOk (Nat.le_refl _) (I1.hok.fresh (Nat.le_refl _))
/-- the items of a value (nothing that may be stored into) -/
def itemsV : D → Option (List D)
  | .tup ds => some ds
  | .lst ds => some ds
  | .frl ds => some ds
  | _ => none
def iVal (f : DE) : DI := fun env L => (f env L).bind fun d L1 => match itemsV d with
  | some xs => .ok xs L1
  | none => .no
theorem iter_list {M : Mu} {H1 : Hp} {a : Addr} {ds : List D} {vs : List V} (hl : ∀ M' H', Grow H1 M M' → Ext M.m H1 H' → SqL S.K H' a vs) (r : RepAll S.K M H1 ds vs) : IterOk S M H1 ds (Itl S.K a) (fun H => SqL S.K H a vs) (YAt vs) where
  w := by rw [← r.len]; exact walk_list
  g := hl
  y := fun M' H2 L2 i x H3 g xx s hi y => by
    obtain ⟨e, q⟩ := y
    subst e
    obtain ⟨d, e1, rd⟩ := r.get' q
    exact ⟨Ext.refl, s, d, e1, rd.mono xx g⟩
theorem iter_tup {M : Mu} {H1 : Hp} {a : Addr} {ds : List D} {vs : List V} (hl : SqM S.K M.m H1 a vs) (r : RepAll S.K M H1 ds vs) : IterOk S M H1 ds (Itt S.K a) (fun H => SqT S.K H a vs) (YAt vs) where
  w := by rw [← r.len]; exact walk_tup
  g := fun M' H' g x => (hl.mono x g).t
  y := fun M' H2 L2 i x H3 g xx s hi y => by
    obtain ⟨e, q⟩ := y
    subst e
    obtain ⟨d, e1, rd⟩ := r.get' q
    exact ⟨Ext.refl, s, d, e1, rd.mono xx g⟩
theorem di_seq {tg l : Expr} {f : DE} (hK : X.K = S.K) (hl : PE X l (tD S W f)) : PI X tg l (tI S W (iVal f)) := pi_imp (pi_seq hl) fun σ H Rr => by
  rintro ⟨env, L, M, he, hs, hp⟩
  refine ⟨env, L, M, he, hs, PostG.seq hp fun d L1 H1 x1 s1 q v r => ?_⟩
  rw [hK]
  cases d with
  | tup ds =>
    obtain ⟨a, vs, rfl, h, ra⟩ := r
    exact ⟨a, rfl, .inr ⟨vs, h.t, q H1 Ext.refl s1 _ _ _ (iter_tup h ra)⟩⟩
  | lst ds =>
    obtain ⟨a, vs, rfl, h, n1, n2, ra⟩ := r
    exact ⟨a, rfl, .inl ⟨vs, .inl (.inl h), q H1 Ext.refl s1 _ _ _ (iter_list (fun M' H' g x => .inl (.inl (x.keep a _ n1 h (fun ps z => nomatch z)))) ra)⟩⟩
  | frl ds =>
    obtain ⟨a, vs, rfl, h, ra⟩ := r
    exact ⟨a, rfl, .inl ⟨vs, h.l, q H1 Ext.refl s1 _ _ _ (iter_list (fun M' H' g x => (h.mono x g).l) ra)⟩⟩
  | _ => exact q.elim
def rangeD (lo : Int) (n : Nat) : List D := (List.range n).map fun (i : Nat) => .int (lo + (i : Int))
def inR (j : Int) : Bool := decide (-(2 ^ 62) ≤ j ∧ j < 2 ^ 62)
def iRange1 (g : DA) : DI := fun env L => (g env L).bind fun ds L1 => match ds with
  | [.int j] => if inR j then .ok (rangeD 0 j.toNat) L1 else .no
  | _ => .no
def iRange2 (g : DA) : DI := fun env L => (g env L).bind fun ds L1 => match ds with
  | [.int i, .int j] => if inR i && inR j then .ok (rangeD i (j - i).toNat) L1 else .no
  | _ => .no
theorem iter_range {M : Mu} {H1 : Hp} {lo : Int} {n : Nat} : IterOk S M H1 (rangeD lo n) (Itr lo n) (fun _ => True) (YFn fun i => .int (lo + i)) where
  w := by
    have : (rangeD lo n).length = n := by simp [rangeD]
    rw [this]
    exact walk_range
  g := fun _ _ _ _ => trivial
  y := fun M' H2 L2 i x H3 g xx s hi y => by
    obtain ⟨e, q⟩ := y
    subst e
    have hi' : i < n := by simpa [rangeD] using hi
    exact ⟨Ext.refl, s, .int (lo + i), by simp [rangeD, hi'], q⟩
theorem di_range1 {tg : Expr} {es : List Expr} {g : DA} {p pos : Pos} (h : ∀ t, PA X es t → PI X tg (.Call (.Name "range" p) es [] pos) (iRng1 t)) (ha : PA X es (tDA S W g)) : PI X tg (.Call (.Name "range" p) es [] pos) (tI S W (iRange1 g)) := pi_imp (h _ ha) fun σ H Rr => by
  rintro ⟨env, L, M, he, hs, hp⟩
  refine ⟨env, L, M, he, hs, PostG.seq hp fun ds L1 H1 x1 s1 q vs r => ?_⟩
  split at q
  · rename_i j
    split at q
    · rename_i hj
      obtain ⟨v, rfl, rv⟩ := r.single
      obtain ⟨h1, h2⟩ := of_decide_eq_true hj
      have rv' : v = .int j := rv
      subst rv'
      exact ⟨j, rfl, h1, h2, q H1 Ext.refl s1 _ _ _ iter_range⟩
    · exact q.elim
  · exact q.elim
theorem di_range2 {tg : Expr} {es : List Expr} {g : DA} {p pos : Pos} (h : ∀ t, PA X es t → PI X tg (.Call (.Name "range" p) es [] pos) (iRng2 t)) (ha : PA X es (tDA S W g)) : PI X tg (.Call (.Name "range" p) es [] pos) (tI S W (iRange2 g)) := pi_imp (h _ ha) fun σ H Rr => by
  rintro ⟨env, L, M, he, hs, hp⟩
  refine ⟨env, L, M, he, hs, PostG.seq hp fun ds L1 H1 x1 s1 q vs r => ?_⟩
  split at q
  · rename_i i j
    split at q
    · rename_i hj
      obtain ⟨v, u, rfl, rv, ru⟩ := r.two
      rw [Bool.and_eq_true] at hj
      obtain ⟨h1, h2⟩ := of_decide_eq_true hj.1
      obtain ⟨h3, h4⟩ := of_decide_eq_true hj.2
      have rv' : v = .int i := rv
      have ru' : u = .int j := ru
      subst rv' ru'
      exact ⟨i, j, rfl, ⟨h1, h2, h3, h4⟩, q H1 Ext.refl s1 _ _ _ iter_range⟩
    · exact q.elim
  · exact q.elim
/-! ### the targets -/
/-- a target takes a value into the slots -/
abbrev DG := D → DEnv → Option DEnv
def DoesG (S : Sg) (X : Cx) (g : TG) (k : DG) : Prop := ∀ (M : Mu) (H : Hp) (L : LH) (d : D) (v : V) (env env' : DEnv) (σ : St) (Q : St → Hp → Prop), Sim S.K M H L → Rep S.K M H d v → EnvR S.K M H env σ → k d env = some env' → (∀ σ', EnvR S.K M H env' σ' → Q σ' H) → g v σ H Q
def gSet (i : Nat) : DG := fun d env => some (env.set i (some d))
theorem does_gName {i : Nat} : DoesG S X (gName i) (gSet i) := fun M H L d v env env' σ Q hs r he e h => by
  cases e
  exact h _ (he.set r)
def gSet2 (i j : Nat) : DG := fun d env => match d with
  | .tup [a, b] => some ((env.set i (some a)).set j (some b))
  | _ => none
theorem does_gTup2 {K : PySem.W.Frag} {i j : Nat} (hK : K = S.K) : DoesG S X (gTup K 2 (gCons (gName i) (gCons (gName j) gNil))) (gSet2 i j) := fun M H L d v env env' σ Q hs r he e h => by
  unfold gSet2 at e
  split at e
  · rename_i a b
    cases e
    obtain ⟨p, vs, rfl, hq, ra⟩ := r
    obtain ⟨x, y, rfl, rx, ry⟩ := ra.two
    exact ⟨p, [x, y], rfl, by rw [hK]; exact hq.t, rfl, x, [y], rfl, y, [], rfl, rfl, h _ ((he.set rx).set ry)⟩
  · cases e
/-! ### for -/
def forD (k : DG) (body : DS) : List D → DEnv → LH → SR
  | [], env, L => .nx env L
  | d :: ds, env, L => match k d env with
    | none => .no
    | some env1 => match body env1 L with
      | .nx env2 L2 => forD k body ds env2 L2
      | .ct env2 L2 => forD k body ds env2 L2
      | .bk env2 L2 => .nx env2 L2
      | .rt d L2 => .rt d L2
      | .rf d L2 => .rf d L2
      | .exc e env2 L2 => .exc e env2 L2
      | .no => .no
def sFor (f : DI) (k : DG) (body : DS) : DS := fun env L => (f env L).toS env fun items L1 => forD k body items env L1
theorem s_for {tg iter : Expr} {body : List Stmt} {f : DI} {g : TG} {k : DG} {b : DS} {pos : Pos} (h : ∀ wi tb, PI X tg iter wi → PSs X body tb → PS X (.For tg iter body [] pos) (tFor wi g tb)) (hi : PI X tg iter (tI S W f)) (hg : DoesG S X g k) (hb : PSs X body (tS S W b)) :
    PS X (.For tg iter body [] pos) (tS S W (sFor f k b)) := ps_imp (h _ _ hi hb) fun E σ H => by
  rintro ⟨env, L, M, he, hs, hp⟩
  refine ⟨env, L, M, he, hs, PostS.expr he hp fun items L1 H1 x1 s1 q J G Y io => ?_⟩
  have he1 := he.mono x1 Grow.refl
  refine for_it io.w (fun i σ' H' => ∃ env' L' M', Grow H1 M M' ∧ Ext M.m H1 H' ∧ Sim S.K M' H' L' ∧ EnvR S.K M' H' env' σ' ∧ PostS S W M' H' E (forD k b (items.drop i) env' L')) ⟨env, L1, M, Grow.refl, Ext.refl, s1, he1, q⟩ (fun i σ' H' _ ⟨_, _, M', g, x, _⟩ => io.g M' H' g x) ?_ ?_
  · rintro i v σ' H' H'' hi ⟨env', L', M', gr, x, s, e, p⟩ y
    obtain ⟨x2, s2, d, ed, rd⟩ := io.y M' H' L' i v H'' gr x s hi y
    have hd : items.drop i = d :: items.drop (i + 1) := by
      rw [List.drop_eq_getElem_cons hi]
      have := (List.getElem?_eq_some_iff.mp ed).2
      rw [this]
    rw [hd] at p
    have p' : PostS S W M' H'' E (forD k b (d :: items.drop (i + 1)) env' L') := PostS.ext Grow.refl x2 p
    unfold forD at p'
    cases ek : k d env' with
    | none => rw [ek] at p'; exact p'.elim
    | some env1 =>
      rw [ek] at p'
      simp only at p'
      refine hg M' H'' L' d v env' env1 σ' _ s2 rd (e.mono x2 Grow.refl) ek fun σ2 e2 => ⟨env1, L', M', e2, s2, ?_⟩
      have x' : Ext M.m H1 H'' := x.over gr x2
      cases eb : b env1 L' with
      | nx env2 L2 =>
        rw [eb] at p'
        exact fun σ3 H3 M3 g3 x3 s3 e3 => ⟨env2, L2, M3, gr.trans x (Grow.trans (g := Grow.refl) x2 g3), x'.over gr x3, s3, e3, PostS.ext g3 x3 p'⟩
      | ct env2 L2 =>
        rw [eb] at p'
        exact fun σ3 H3 M3 g3 x3 s3 e3 => ⟨env2, L2, M3, gr.trans x (Grow.trans (g := Grow.refl) x2 g3), x'.over gr x3, s3, e3, PostS.ext g3 x3 p'⟩
      | bk env2 L2 => rw [eb] at p'; exact p'
      | rt d2 L2 => rw [eb] at p'; exact p'
      | rf d2 L2 => rw [eb] at p'; exact p'
      | exc ex env2 L2 => rw [eb] at p'; exact p'
      | no => rw [eb] at p'; exact p'.elim
  · rintro σ' H' ⟨env', L', M', gr, x, s, e, p⟩
    rw [List.drop_length] at p
    exact p σ' H' M' Grow.refl Ext.refl s e
/-! ### while -/
def whileD (t : DT) (body : DS) : Nat → DEnv → LH → SR
  | 0, _, _ => .no
  | n + 1, env, L => (t env L).toS env fun b L1 => if b = true then (match body env L1 with
      | .nx env2 L2 => whileD t body n env2 L2
      | .ct env2 L2 => whileD t body n env2 L2
      | .bk env2 L2 => .nx env2 L2
      | .rt d L2 => .rt d L2
      | .rf d L2 => .rf d L2
      | .exc e env2 L2 => .exc e env2 L2
      | .no => .no) else .nx env L1
def sWhile (fuel : Nat) (t : DT) (body : DS) : DS := fun env L => whileD t body fuel env L
theorem s_while {c : Expr} {body : List Stmt} {t : DT} {b : DS} {pos : Pos} (fuel : Nat) (h : ∀ tc tb, PT X c tc → PSs X body tb → PS X (.While c body [] pos) (tWhile tc tb)) (hc : PT X c (tT S W t)) (hb : PSs X body (tS S W b)) :
    PS X (.While c body [] pos) (tS S W (sWhile fuel t b)) := ps_imp (h _ _ hc hb) fun E σ H => by
  rintro ⟨env, L, M, he, hs, hp⟩
  refine ⟨fun n σ' H' => ∃ env' L' M', Sim S.K M' H' L' ∧ EnvR S.K M' H' env' σ' ∧ PostS S W M' H' E (whileD t b n env' L'), ⟨fuel, env, L, M, hs, he, hp⟩, ?_⟩
  rintro n σ' H' ⟨env', L', M', s, e, p⟩
  cases n with
  | zero => exact p.elim
  | succ n =>
    refine ⟨env', L', M', e, s, PostS.expr e p fun d L1 H1 x1 s1 q => ?_⟩
    cases d with
    | false => exact q σ' H1 M' Grow.refl Ext.refl s1 (e.mono x1 Grow.refl)
    | true =>
      have q' : PostS S W M' H1 E (match b env' L1 with
        | .nx env2 L2 => whileD t b n env2 L2
        | .ct env2 L2 => whileD t b n env2 L2
        | .bk env2 L2 => .nx env2 L2
        | .rt d L2 => .rt d L2
        | .rf d L2 => .rf d L2
        | .exc e env2 L2 => .exc e env2 L2
        | .no => .no) := q
      refine ⟨fun σ2 H2 => ∃ env2 L2 M2, Sim S.K M2 H2 L2 ∧ EnvR S.K M2 H2 env2 σ2 ∧ PostS S W M2 H2 E (whileD t b n env2 L2), fun σ2 H2 z => ⟨n, Nat.lt_succ_self n, z⟩, env', L1, M', e.mono x1 Grow.refl, s1, ?_⟩
      cases eb : b env' L1 with
      | nx env2 L2 => rw [eb] at q'; exact fun σ3 H3 M3 g3 x3 s3 e3 => ⟨env2, L2, M3, s3, e3, PostS.ext g3 x3 q'⟩
      | ct env2 L2 => rw [eb] at q'; exact fun σ3 H3 M3 g3 x3 s3 e3 => ⟨env2, L2, M3, s3, e3, PostS.ext g3 x3 q'⟩
      | bk env2 L2 => rw [eb] at q'; exact q'
      | rt d2 L2 => rw [eb] at q'; exact q'
      | rf d2 L2 => rw [eb] at q'; exact q'
      | exc ex env2 L2 => rw [eb] at q'; exact q'
      | no => rw [eb] at q'; exact q'.elim
end DL

set_option Elab.async false
set_option linter.all false
set_option maxRecDepth 100000
set_option maxHeartbeats 1000000
namespace DL
open PySem PySem.Spec L2
open PyProof.Rows (envOfC)
variable {S : Sg} {X : Cx} {W : St → WH}
/-! ### lists that are being made -/
section
variable {K : PySem.W.Frag} {M : Mu} {H : Hp} {D0 : Addr} {o : HO}
mutual
theorem Rep.sealed (hx : D0 ∈ M.x) (hl : ∃ vs, H D0 = some (.lst vs)) : ∀ (d : D) (v : V), Rep K M H d v → Rep K M (upd H D0 o) d v
  | .non, _, h => h
  | .bl _, _, h => h
  | .int _, _, h => h
  | .str _, _, h => h
  | .tup ds, _, ⟨a, vs, e1, h, r⟩ => by
    refine ⟨a, vs, e1, ?_, RepAll.sealed hx hl ds vs r⟩
    rcases h with ⟨ob, h, d, n⟩ | h
    · obtain ⟨us, hd⟩ := hl
      exact .inl ⟨ob, (upd_ne (fun z => by rw [z, hd] at h; cases h)).trans h, d, n⟩
    · exact .inr h
  | .lst ds, _, ⟨a, vs, e1, h, n, n2, r⟩ => ⟨a, vs, e1, (upd_ne (fun z : a = D0 => n2 (by rw [z]; exact hx))).trans h, n, n2, RepAll.sealed hx hl ds vs r⟩
  | .frl ds, _, ⟨a, vs, e1, h, r⟩ => by
    refine ⟨a, vs, e1, ?_, RepAll.sealed hx hl ds vs r⟩
    rcases h with ⟨h, n, n2⟩ | h
    · have na : a ≠ D0 := fun z : a = D0 => n2 (by rw [z]; exact hx)
      refine .inl ⟨?_, n, n2⟩
      rcases h with h | ⟨ob, h⟩
      · exact .inl ((upd_ne na).trans h)
      · exact .inr ⟨ob, (upd_ne na).trans h⟩
    · exact .inr h
  | .dic ds, _, ⟨a, vs, e1, h, n, n2, r⟩ => ⟨a, vs, e1, h.elim (fun q => .inl ((upd_ne (fun z : a = D0 => n2 (by rw [z]; exact hx))).trans q)) (fun ⟨o, q⟩ => .inr ⟨o, (upd_ne (fun z : a = D0 => n2 (by rw [z]; exact hx))).trans q⟩), n, n2, RepKV.sealed hx hl ds vs r⟩
  | .ref _, _, h => h
  | .obj _, _, h => h
theorem RepAll.sealed (hx : D0 ∈ M.x) (hl : ∃ vs, H D0 = some (.lst vs)) : ∀ (ds : List D) (vs : List V), RepAll K M H ds vs → RepAll K M (upd H D0 o) ds vs
  | [], _, h => h
  | d :: ds, _, ⟨v, r, e1, h, t⟩ => ⟨v, r, e1, Rep.sealed hx hl d v h, RepAll.sealed hx hl ds r t⟩
theorem RepKV.sealed (hx : D0 ∈ M.x) (hl : ∃ vs, H D0 = some (.lst vs)) : ∀ (ds : List (Key × D)) (vs : List (Key × V)), RepKV K M H ds vs → RepKV K M (upd H D0 o) ds vs
  | [], _, h => h
  | kd :: ds, _, ⟨v, r, e1, h, t⟩ => ⟨v, r, e1, Rep.sealed hx hl kd.2 v h, RepKV.sealed hx hl ds r t⟩
end
theorem Sim.sealed {L : LH} (s : Sim K M H L) (hx : D0 ∈ M.x) (hm : D0 ∉ M.m) (hl : ∃ vs, H D0 = some (.lst vs)) : Sim K M (upd H D0 o) L :=
  ⟨s.len, s.nod, fun n a ob e1 e2 => by
    have ro := s.at_ n a ob e1 e2
    have na : a ≠ D0 := fun z => hm (z ▸ List.mem_of_getElem? e1)
    cases ob with
    | lst ds => obtain ⟨vs, q, r⟩ := ro; exact ⟨vs, (upd_ne na).trans q, RepAll.sealed hx hl ds vs r⟩
    | dic ks => obtain ⟨vs, q, r⟩ := ro; exact ⟨vs, (upd_ne na).trans q, RepKV.sealed hx hl ks vs r⟩, fun a ha => by
    by_cases z : a = D0
    · rw [z, upd_same]; exact fun z => nomatch z
    · rw [upd_ne z]; exact s.xs a ha⟩
/-- what is being made is new -/
theorem Grow.make (hn : H D0 = none) : Grow H M ⟨M.m, D0 :: M.x⟩ := ⟨⟨[], by simp, fun _ z => nomatch z⟩, ⟨[D0], rfl, fun a ha => by rw [List.mem_singleton.mp ha]; exact hn⟩⟩
theorem Sim.make {L : LH} (s : Sim K M H L) (hn : H D0 = none) : Sim K ⟨M.m, D0 :: M.x⟩ (upd H D0 o) L :=
  ⟨s.len, s.nod, fun n a ob e1 e2 => by
    have ro := s.at_ n a ob e1 e2
    have na : a ≠ D0 := fun z => by
      have q := s.ms a (List.mem_of_getElem? e1)
      rw [z] at q; exact q hn
    cases ob with
    | lst ds => obtain ⟨vs, q, r⟩ := ro; exact ⟨vs, (upd_ne na).trans q, RepAll.mono (Ext.new hn) (Grow.make hn) ds vs r⟩
    | dic ks => obtain ⟨vs, q, r⟩ := ro; exact ⟨vs, (upd_ne na).trans q, RepKV.mono (Ext.new hn) (Grow.make hn) ks vs r⟩, fun a ha => by
    rcases List.mem_cons.mp ha with z | z
    · rw [z, upd_same]; exact fun z => nomatch z
    · exact (Ext.new (m := M.m) hn).live a (s.xs a z)⟩
end
/-! ### the block's own names -/
def wipeD (env : DEnv) : List Nat → DEnv
  | [] => env
  | v :: vs => (wipeD env vs).set v none
theorem wipe_env {K : PySem.W.Frag} {M : Mu} {H : Hp} {env : DEnv} {σ : St} (h : EnvR K M H env σ) : ∀ vs, EnvR K M H (wipeD env vs) (wipe σ vs)
  | [] => h
  | v :: vs => by
    have ih := wipe_env h vs
    unfold wipeD wipe
    refine ⟨by simp [ih.1], fun i d q => ?_⟩
    by_cases e : v = i
    · subst e
      by_cases hl : v < (wipeD env vs).length
      · rw [List.getElem?_set_self hl] at q; cases q
      · rw [List.set_eq_of_length_le (by omega)] at q
        have := (List.getElem?_eq_some_iff.mp q).1
        omega
    · rw [List.getElem?_set_ne e] at q
      obtain ⟨u, e1, r⟩ := ih.2 i d q
      exact ⟨u, by rw [List.getElem?_set_ne e]; exact e1, r⟩
theorem wipe_set {σ : St} {i : Nat} {v : Option V} : ∀ {vs : List Nat}, i ∈ vs → wipe (σ.set i v) vs = wipe σ vs
  | [], h => nomatch h
  | w :: vs, h => by
    unfold wipe
    by_cases hi : i ∈ vs
    · rw [wipe_set hi]
    · have e : i = w := by
        rcases List.mem_cons.mp h with q | q
        · exact q
        · exact absurd q hi
      subst e
      have : ∀ (vs : List Nat), i ∉ vs → wipe (σ.set i v) vs = (wipe σ vs).set i v := fun vs => by
        induction vs with
        | nil => intro _; rfl
        | cons u us ih =>
          intro hn
          unfold wipe
          rw [ih (fun z => hn (List.mem_cons_of_mem _ z)), List.set_comm _ _ (fun z => hn (by rw [z]; exact List.mem_cons_self))]
      rw [this vs hi, List.set_set]
theorem wipe_wipe {σ : St} : ∀ (vs us : List Nat), (∀ i ∈ us, i ∈ vs) → wipe (wipe σ us) vs = wipe σ vs
  | vs, [], _ => rfl
  | vs, u :: us, h => by
    show wipe ((wipe σ us).set u none) vs = wipe σ vs
    rw [wipe_set (h u List.mem_cons_self), wipe_wipe vs us fun i hi => h i (List.mem_cons_of_mem _ hi)]
/-- a target that stores into the block's own names alone -/
def DoesGV (S : Sg) (vs : List Nat) (g : TG) (k : DG) : Prop := ∀ (M : Mu) (H : Hp) (L : LH) (d : D) (v : V) (env env' : DEnv) (σ : St) (Q : St → Hp → Prop), Sim S.K M H L → Rep S.K M H d v → EnvR S.K M H env σ → k d env = some env' → (∀ σ', EnvR S.K M H env' σ' → wipe σ' vs = wipe σ vs → Q σ' H) → g v σ H Q
theorem doesv_gName {i : Nat} {vs : List Nat} (hi : i ∈ vs) : DoesGV S vs (gName i) (gSet i) := fun M H L d v env env' σ Q hs r he e h => by
  cases e
  exact h _ (he.set r) (wipe_set hi)
theorem doesv_gTup2 {K : PySem.W.Frag} {i j : Nat} {vs : List Nat} (hK : K = S.K) (hi : i ∈ vs) (hj : j ∈ vs) : DoesGV S vs (gTup K 2 (gCons (gName i) (gCons (gName j) gNil))) (gSet2 i j) := fun M H L d v env env' σ Q hs r he e h => by
  unfold gSet2 at e
  split at e
  · rename_i a b
    cases e
    obtain ⟨p, us, rfl, hq, ra⟩ := r
    obtain ⟨x, y, rfl, rx, ry⟩ := ra.two
    exact ⟨p, [x, y], rfl, by rw [hK]; exact hq.t, rfl, x, [y], rfl, y, [], rfl, rfl, h _ ((he.set rx).set ry) (by rw [wipe_set hj, wipe_set hi])⟩
  · cases e
def noX {α : Type} : R α → R α
  | .ok a L => .ok a L
  | _ => .no
abbrev WF : St → WH := fun _ _ _ _ => False
def lcD (k : DG) (vs : List Nat) (t : DT) (e : DE) (env : DEnv) : List D → LH → R (List D)
  | [], L => .ok [] L
  | d :: ds, L => match k d (wipeD env vs) with
    | none => .no
    | some env1 => (noX (t env1 L)).bind fun b L1 => if b = true then (noX (e env1 L1)).bind fun y L2 => (lcD k vs t e env ds L2).bind fun ys L3 => .ok (y :: ys) L3 else lcD k vs t e env ds L1
def dLc (f : DI) (k : DG) (vs : List Nat) (t : DT) (e : DE) : DE := fun env L => (f env L).bind fun items L1 => if fits items.length then (lcD k vs t e env items L1).bind fun ys L2 => .ok (.lst ys) L2 else .no
theorem PostG.noX {α : Type} {M : Mu} {H : Hp} {P : α → LH → Hp → Prop} {w w' : WH} : ∀ {r : R α}, PostG S w M H P (noX r) → PostG S w' M H P r
  | .ok _ _, h => h
  | .exc _ _, h => h.elim
  | .no, h => h
theorem lcD_noexc {k : DG} {vs : List Nat} {t : DT} {e : DE} {env : DEnv} {w w' : WH} {M : Mu} {H : Hp} {P : List D → LH → Hp → Prop} : ∀ {ds : List D} {L : LH}, PostG S w M H P (lcD k vs t e env ds L) → PostG S w' M H P (lcD k vs t e env ds L) := by
  intro ds
  have : ∀ (ds : List D) (L : LH), (∃ ys L', lcD k vs t e env ds L = .ok ys L') ∨ lcD k vs t e env ds L = .no := by
    intro ds
    induction ds with
    | nil => exact fun L => .inl ⟨_, _, rfl⟩
    | cons d ds ih =>
      intro L
      unfold lcD
      cases k d (wipeD env vs) with
      | none => exact .inr rfl
      | some env1 =>
        simp only
        cases t env1 L with
        | ok b L1 =>
          cases b with
          | true =>
            show (∃ ys L', ((DL.noX (e env1 L1)).bind fun y L2 => (lcD k vs t e env ds L2).bind fun ys L3 => .ok (y :: ys) L3) = R.ok ys L') ∨ ((DL.noX (e env1 L1)).bind fun y L2 => (lcD k vs t e env ds L2).bind fun ys L3 => .ok (y :: ys) L3) = R.no
            cases e env1 L1 with
            | ok y L2 =>
              show (∃ ys L', ((lcD k vs t e env ds L2).bind fun ys L3 => .ok (y :: ys) L3) = R.ok ys L') ∨ ((lcD k vs t e env ds L2).bind fun ys L3 => .ok (y :: ys) L3) = R.no
              rcases ih L2 with ⟨ys, L', q⟩ | q
              · rw [q]; exact .inl ⟨_, _, rfl⟩
              · rw [q]; exact .inr rfl
            | exc _ _ => exact .inr rfl
            | no => exact .inr rfl
          | false => exact ih L1
        | exc _ _ => exact .inr rfl
        | no => exact .inr rfl
  intro L h
  rcases this ds L with ⟨ys, L', q⟩ | q
  · rw [q] at h ⊢; exact h
  · rw [q] at h; exact h.elim
theorem lc_imp {f : DI} {k : DG} {vs : List Nat} {t : DT} {e : DE} {g : TG} (hg : DoesGV S vs g k) (σ : St) (H : Hp) (Q : VK) : tD S W (dLc f k vs t e) σ H Q → tLc (tI S W f) g (tT S WF t) (tD S WF e) vs σ H Q := by
  rintro ⟨env, L, M, he, hs, hp⟩
  refine ⟨env, L, M, he, hs, PostG.seq hp fun items L1 H1 x1 s1 q J G Y io D0 hn => ?_⟩
  split at q
  case isFalse => exact q.elim
  rename_i hfit
  have he1 := he.mono x1 Grow.refl
  have dm := (nm_new s1 hn).1
  have dx := (nm_new s1 hn).2
  have sM : Sim S.K ⟨M.m, D0 :: M.x⟩ (upd H1 D0 (.lst [])) L1 := s1.make hn
  -- what is left to do
  refine lc_it io.w (fun i H' => i ≤ items.length ∧ ∃ L' acc ds, Ext M.m H1 H' ∧ Sim S.K ⟨M.m, D0 :: M.x⟩ H' L' ∧ H' D0 = some (.lst acc) ∧ RepAll S.K ⟨M.m, D0 :: M.x⟩ H' ds acc ∧ acc.length ≤ i ∧
      PostG S (W σ) M H1 (PV S M Q) ((lcD k vs t e env (items.drop i) L').bind fun ys L2 => .ok (.lst (ds ++ ys)) L2)) ⟨Nat.zero_le _, L1, [], [], Ext.new hn, sM, upd_same, rfl, Nat.le_refl _, q⟩
    (fun i H' _ ⟨_, L', acc, ds, x, s, hD, r, _, p⟩ => io.g ⟨M.m, D0 :: M.x⟩ H' (Grow.make hn) x) ?_ ?_
  · rintro i v H' H'' hi ⟨_, L', acc, ds, x, s, hD, r, hacc, p⟩ y
    obtain ⟨x2, s2, d, ed, rd⟩ := io.y ⟨M.m, D0 :: M.x⟩ H' L' i v H'' (Grow.make hn) x s hi y
    have hd : items.drop i = d :: items.drop (i + 1) := by
      rw [List.drop_eq_getElem_cons hi]
      have := (List.getElem?_eq_some_iff.mp ed).2
      rw [this]
    rw [hd] at p
    unfold lcD at p
    have heM : EnvR S.K ⟨M.m, D0 :: M.x⟩ H'' env σ := he1.mono (x.trans x2) (Grow.make hn)
    cases ek : k d (wipeD env vs) with
    | none => rw [ek] at p; exact p.elim
    | some env1 =>
      rw [ek] at p
      simp only at p
      refine hg ⟨M.m, D0 :: M.x⟩ H'' L' d v _ env1 _ _ s2 rd (wipe_env heM vs) ek fun σ2 e2 ew => ⟨by rw [ew, wipe_wipe _ _ (fun i hi => hi)], ?_⟩
      refine ⟨env1, L', ⟨M.m, D0 :: M.x⟩, e2, s2, ?_⟩
      cases et : t env1 L' with
      | exc ex L2 => rw [et] at p; exact p.elim
      | no => rw [et] at p; exact p.elim
      | ok b L2 =>
        rw [et] at p
        intro H3 x3 s3
        have xx : Ext M.m H1 H3 := (x.trans x2).trans x3
        have hD3 : H3 D0 = some (.lst acc) := x3.keep D0 _ dm (x2.keep D0 _ dm hD (fun ps z => nomatch z)) (fun ps z => nomatch z)
        have r3 := RepAll.mono (x2.trans x3) Grow.refl ds acc r
        show if b = true then _ else _
        cases b with
        | false =>
          rw [if_neg Bool.false_ne_true]
          exact ⟨hi, L2, acc, ds, xx, s3, hD3, r3, by omega, p⟩
        | true =>
          rw [if_pos rfl]
          have p1 : PostG S (W σ) M H1 (PV S M Q) (((DL.noX (e env1 L2)).bind fun y L3 => (lcD k vs t e env (items.drop (i + 1)) L3).bind fun ys L4 => .ok (y :: ys) L4).bind fun ys L2 => .ok (.lst (ds ++ ys)) L2) := p
          refine ⟨env1, L2, ⟨M.m, D0 :: M.x⟩, e2.mono x3 Grow.refl, s3, ?_⟩
          cases ee : e env1 L2 with
          | exc ex L3 => rw [ee] at p1; exact p1.elim
          | no => rw [ee] at p1; exact p1.elim
          | ok dy L3 =>
            rw [ee] at p1
            intro H4 x4 s4 y4 ry
            have hD4 : H4 D0 = some (.lst acc) := x4.keep D0 _ dm hD3 (fun ps z => nomatch z)
            have r4 := RepAll.mono x4 Grow.refl ds acc r3
            refine ⟨acc, hD4, ?_, hi, L3, acc ++ [y4], ds ++ [dy], ?_, s4.sealed List.mem_cons_self dm ⟨acc, hD4⟩, upd_same, (RepAll.sealed List.mem_cons_self ⟨acc, hD4⟩ ds acc r4).app (RepAll.one (Rep.sealed List.mem_cons_self ⟨acc, hD4⟩ dy y4 ry)), ?_, ?_⟩
            · have := fits_ok hfit
              omega
            · have xx4 := xx.trans x4
              refine ⟨fun b o nb hb ht => ?_, fun b hb => ?_⟩
              · rw [upd_ne (fun z => by rw [z, hn] at hb; cases hb)]
                exact xx4.keep b o nb hb ht
              · rw [upd_ne (fun z => hb (by rw [z]; exact hn))]
                exact xx4.live b hb
            · rw [List.length_append, List.length_singleton]
              omega
            · have p2 : PostG S (W σ) M H1 (PV S M Q) (((lcD k vs t e env (items.drop (i + 1)) L3).bind fun ys L4 => .ok (dy :: ys) L4).bind fun ys L2 => .ok (.lst (ds ++ ys)) L2) := p1
              revert p2
              cases lcD k vs t e env (items.drop (i + 1)) L3 with
              | ok ys L4 =>
                intro p2
                show PostG S (W σ) M H1 (PV S M Q) (.ok (.lst ((ds ++ [dy]) ++ ys)) L4)
                rw [List.append_assoc]
                exact p2
              | exc ex L4 => exact fun p2 => p2
              | no => exact fun p2 => p2
  · rintro H' ⟨_, L', acc, ds, x, s, hD, r, hacc, p⟩
    rw [List.drop_length] at p
    have p' : PostG S (W σ) M H1 (PV S M Q) (.ok (.lst (ds ++ [])) L') := p
    rw [List.append_nil] at p'
    exact p' H' x (Sim.lessx (y := [D0]) s) _ ⟨D0, acc, rfl, hD, dm, dx, RepAll.lessx (y := [D0]) ds acc r⟩
def dYes : DT := fun _ L => .ok true L
theorem pts_imp {ifs : List Expr} {t t' : TT} (h : PTs X ifs t) (i : ∀ σ H Q, t' σ H Q → t σ H Q) : PTs X ifs t' := ⟨fun pins s σ H Q I q => h.run pins s σ H Q I (i σ H Q q)⟩
theorem dts_nil : PTs X [] (tT S W dYes) := pts_imp pts_nil fun σ H Q ⟨env, L, M, he, hs, hp⟩ => hp H Ext.refl hs
theorem dts_one {c : Expr} {t : DT} (h : PT X c (tT S W t)) : PTs X [c] (tT S W t) := pts_one h
/-- [e for x in xs if t], by the rule of the hand layer -/
theorem de_lc {e0 : Expr} {f : DI} {k : DG} {vs : List Nat} {t : DT} {e : DE} {g : TG} (h : PE X e0 (tLc (tI S W f) g (tT S WF t) (tD S WF e) vs)) (hg : DoesGV S vs g k) : PE X e0 (tD S W (dLc f k vs t e)) := pe_imp h (lc_imp hg)
theorem s_setLc {st : Stmt} {i : Nat} {f : DI} {k : DG} {vs : List Nat} {t : DT} {e : DE} {g : TG} (h : PS X st (tAsg (tLc (tI S W f) g (tT S WF t) (tD S WF e) vs) (gName i))) (hg : DoesGV S vs g k) : PS X st (tS S W (sSet i (dLc f k vs t e))) := ps_imp h fun E σ H => by
  rintro ⟨env, L, M, he, hs, hp⟩
  refine lc_imp hg σ H _ ⟨env, L, M, he, hs, PostS.expr he hp fun d L1 H1 x1 s1 q v r => ?_⟩
  exact q _ H1 M Grow.refl Ext.refl s1 ((he.mono x1 Grow.refl).set r)
end DL

set_option Elab.async false
set_option linter.all false
set_option maxRecDepth 100000
set_option maxHeartbeats 2000000
namespace DL
open PySem PySem.Spec L2 PySem.W
open PyProof.Rows (envOfC)
theorem ad {N i j : Nat} (h : i ≠ j := by decide) : N + i ≠ N + j := by omega
theorem ad0 {N i : Nat} (h : i ≠ 0 := by decide) : N + i ≠ N := by omega
theorem ad1 {N i : Nat} (h : i ≠ 0 := by decide) : N ≠ N + i := by omega
theorem five_lt {N c m : Nat} (h : N + 4 < m) (e : c = N + 4 ∨ c = N + 2 ∨ c = N + 3 ∨ c = N ∨ c = N + 1) : c < m := by omega
theorem five_le {N c : Nat} (e : c = N + 4 ∨ c = N + 2 ∨ c = N + 3 ∨ c = N ∨ c = N + 1) : N ≤ c := by omega
def ItB (b : Bool) (h : Heap) (it a : Addr) (i : Nat) : Prop := if b = true then h.IsTupleIter it a i else h.IsListIter it a i
def CtB (b : Bool) (h : Heap) (a : Addr) (items : Array Value) : Prop := if b = true then h.IsTuple a items else h.IsList a items
theorem draws_b {prog : Program} {w : World} {A : Around} (b : Bool) (hh : A.handled = none) (it a : Addr) (hne : a ≠ it) (items : Array Value) : Draws prog w A it [it, a] items.size (fun i v => items[i]? = some v) (fun i h => ItB b h it a i ∧ CtB b h a items) := by
  cases b with
  | true => exact Draws.tuple hh it a hne items
  | false => exact Draws.list hh it a hne items
def iterObj (b : Bool) (a : Addr) : Obj := if b = true then { cls := .type "tuple_iterator", data := .fields #[.ref a, .int 0 0] } else { cls := .type "list_iterator", data := .fields #[.ref a, .int 0 0] }
theorem begins_b (b : Bool) (a : Addr) (items : Array Value) : Begins (.ref a) (iterObj b a) fun h => CtB b h a items := by
  cases b with
  | true => exact begins_tuple a items
  | false => exact begins_list a items
theorem ItB.start {b : Bool} {h : Heap} {it a : Addr} (e : h.get? it = some (iterObj b a)) : ItB b h it a 0 := by
  cases b with
  | true => exact ⟨_, e, rfl, rfl⟩
  | false => exact ⟨_, e, rfl, rfl⟩
theorem ItB.at {b : Bool} {h h' : Heap} {it a : Addr} {i : Nat} (x : ItB b h it a i) (k : ∀ o, h.get? it = some o → h'.get? it = some o) : ItB b h' it a i := by
  cases b with
  | true => obtain ⟨o, e, r⟩ := x; exact ⟨o, k o e, r⟩
  | false => obtain ⟨o, e, r⟩ := x; exact ⟨o, k o e, r⟩
theorem ItB.ex {b : Bool} {h : Heap} {it a : Addr} {i : Nat} (x : ItB b h it a i) : ∃ o, h.get? it = some o ∧ ∀ v, o.data ≠ .cell v := by
  cases b with
  | true => obtain ⟨o, e, _, d⟩ := x; exact ⟨o, e, fun v q => by rw [d] at q; cases q⟩
  | false => obtain ⟨o, e, _, d⟩ := x; exact ⟨o, e, fun v q => by rw [d] at q; cases q⟩
section
variable {X : Cx} {pins : List (Addr × Obj)} {σ : St} {H : Hp} {s : Shared} {a : Addr} {xs ys : List V}
theorem inv_sqB {b : Bool} (I : Inv X pins σ H s) (h : SqB X.K H b a xs) : ∃ its : List Value, Vals xs its ∧ CtB b s.heap a its.toArray ∧ a < s.heap.objs.size := by
  cases b with
  | true =>
    obtain ⟨its, rv, p, _⟩ := I.tuple h
    obtain ⟨o, ho, _⟩ := id p
    exact ⟨its, rv, p, Heap.lt_size ho⟩
  | false =>
    obtain ⟨its, rv, p, _⟩ := I.list h
    exact ⟨its, rv, p.isList, p.lt⟩
theorem inv_sqB_inj {b : Bool} (I : Inv X pins σ H s) (h : SqB X.K H b a xs) (h' : SqB X.K H b a ys) : xs = ys := by
  cases b with
  | true => exact I.tuple_inj h h'
  | false => exact I.list_inj h h'
end
/-- the items of two lists or tuples, in new pairs -/
def ItzB (K : PySem.W.Frag) (b1 b2 : Bool) (a b : Addr) : It :=
  ⟨fun i H => ∃ (xs ys : List V) (x y : V), SqB K H b1 a xs ∧ SqB K H b2 b ys ∧ xs[i]? = some x ∧ ys[i]? = some y,
    fun i H v H' => ∃ T x y, ∃ o : Obj, v = .ref T ∧ H T = none ∧ o.dict = none ∧ H' = upd H T (.frz o (.tup [x, y])) ∧ (∀ xs, SqB K H b1 a xs → xs[i]? = some x) ∧ ∀ ys, SqB K H b2 b ys → ys[i]? = some y,
    fun i H => ∃ xs ys : List V, SqB K H b1 a xs ∧ SqB K H b2 b ys ∧ i ≤ xs.length ∧ i ≤ ys.length ∧ (i = xs.length ∨ i = ys.length)⟩
theorem turn_zipB {P : Program} {w : World} {K : PySem.W.Frag} {elts : List Expr} {kk : Nat} {tpos : Pos} {b1 b2 : Bool} {a b N : Addr} (la : a < N) (lb : b < N) :
    Turn P w K (.Tuple elts kk tpos) (ItzB K b1 b2 a b) [N + 4, N + 2, N + 3, N, N + 1] (N + 4) (fun i h => IsZip h (N + 4) (N + 2) (N + 3) .none ∧ IsTupOf2 h (N + 2) (.ref N) (.ref (N + 1)) ∧ (∃ x y, IsTupOf2 h (N + 3) x y) ∧ ItB b1 h N a i ∧ ItB b2 h (N + 1) b i) where
  mem := by simp
  obj := fun i h st c hc => by
    obtain ⟨hz, hTI, ⟨x, y, hTO⟩, h1, h2⟩ := st
    have e' : c = N + 4 ∨ c = N + 2 ∨ c = N + 3 ∨ c = N ∨ c = N + 1 := by simpa using hc
    rcases e' with q | q | q | q | q
    · rw [q]; exact ⟨_, hz, fun v q => nomatch q⟩
    · rw [q]; exact ⟨_, hTI, fun v q => nomatch q⟩
    · rw [q]; exact ⟨_, hTO, fun v q => nomatch q⟩
    · rw [q]; exact h1.ex
    · rw [q]; exact h2.ex
  keep := fun i h h' st k => by
    obtain ⟨hz, hTI, ⟨x, y, hTO⟩, h1, h2⟩ := st
    exact ⟨k (N + 4) (by simp) _ hz, k (N + 2) (by simp) _ hTI, ⟨x, y, k (N + 3) (by simp) _ hTO⟩, h1.at fun o q => k N (by simp) o q, h2.at fun o q => k (N + 1) (by simp) o q⟩
  item := by
    intro X hP hw hK hc i pins s σ H E I hf st hg
    subst hP hw hK
    obtain ⟨hz, hTI, ⟨x0, y0, hTO⟩, h1, h2⟩ := st
    obtain ⟨xs, ys, x, y, hqx, hqy, hx, hy⟩ := hg
    obtain ⟨its, rv, p, _⟩ := inv_sqB I hqx
    obtain ⟨its2, rv2, p2, _⟩ := inv_sqB I hqy
    obtain ⟨u, hu, ru⟩ := rv.get hx
    obtain ⟨u2, hu2, ru2⟩ := rv2.get hy
    have hzl : N + 4 < s.heap.objs.size := Heap.lt_size hz
    have hh : X.A.in1.in1.handled = none := I.ok.hd hc
    have hh1 : X.A.in1.handled = none := I.ok.hd hc
    have l1 : i < its.toArray.size := by
      have := (List.getElem?_eq_some_iff.mp hu).1
      simpa using this
    have l2 : i < its2.toArray.size := by
      have := (List.getElem?_eq_some_iff.mp hu2).1
      simpa using this
    refine wpAny_pyNext_zipD2_item (A := X.A) (zip_sep2 (N := N) (fp1 := [a]) (fp2 := [b]) (fun c hc => by rw [List.mem_singleton.mp hc]; exact la) (fun c hc => by rw [List.mem_singleton.mp hc]; exact lb))
      (draws_b b1 hh1 N a (Nat.ne_of_lt la) its.toArray) (draws_b b2 hh1 (N + 1) b (Nat.ne_of_lt (Nat.lt_succ_of_lt lb)) its2.toArray) hz hTI hTO ⟨h1, p⟩ ⟨h2, p2⟩ l1 l2 fun x1 x2 h' tk y1 y2 z' TO' d1 d2 hT hsz hk => ?_
    have ex1 : x1 = u := by
      have q : its[i]? = some x1 := by simpa using y1
      rw [hu] at q; exact (Option.some.inj q).symm
    have ex2 : x2 = u2 := by
      have q : its2[i]? = some x2 := by simpa using y2
      rw [hu2] at q; exact (Option.some.inj q).symm
    subst ex1 ex2
    refine ⟨_, rfl, wpAny_letOwnedTupleGo_zip (s := { s with heap := h', toks := tk }) z' fun h'' z'' sb => ?_⟩
    have hT2 : h''.get? s.heap.objs.size = some { cls := .type "tuple", data := .seq #[x1, x2] } := (sb.2 _ (Nat.ne_of_gt hzl)).trans hT
    have new : ObjOk X.prog X.w (upd H s.heap.objs.size (.frz { cls := .type "tuple", data := .seq #[x1, x2] } (.tup [x, y]))) h'' s.heap.objs.size (.frz { cls := .type "tuple", data := .seq #[x1, x2] } (.tup [x, y])) :=
      ⟨hT2, by show 2 ≤ sizeLine; decide, [x1, x2], .cons ru (.cons ru2 .nil), ⟨_, hT2, rfl, _, rfl⟩⟩
    have I1 : Inv X pins σ (upd H s.heap.objs.size (.frz { cls := .type "tuple", data := .seq #[x1, x2] } (.tup [x, y]))) { s with heap := h'', toks := tk } :=
      I.turnedNew (t' := tk) (ch := [N + 4, N + 2, N + 3, N, N + 1]) (fun c o hb q => (sb.2 c (fun q' => hb (by simp [q']))).trans (hk c o (fun q' => hb (by simp [q'])) (fun q' => hb (by simp [q'])) (fun q' => hb (by simp [q'])) (fun q' => hb (by simp [q'])) q)) hf (Nat.le_refl _) new
    refine ⟨.ref s.heap.objs.size, _, I1, rfl, ⟨_, x, y, _, rfl, I.hok.fresh (Nat.le_refl _), rfl, rfl, fun l hl => by rw [inv_sqB_inj I hl hqx]; exact hx, fun l hl => by rw [inv_sqB_inj I hl hqy]; exact hy⟩, ⟨z'', ?_, ⟨x1, x2, ?_⟩, ?_, ?_⟩, fun c hcm => ?_⟩
    · exact (sb.2 _ ad).trans (hk _ _ ad ad ad0 ad hTI)
    · exact (sb.2 _ ad).trans TO'
    · exact d1.1.at fun o q => (sb.2 _ ad1).trans q
    · exact d2.1.at fun o q => (sb.2 _ ad).trans q
    · have hlt : c < s.heap.objs.size := by
        have e' : c = N + 4 ∨ c = N + 2 ∨ c = N + 3 ∨ c = N ∨ c = N + 1 := by simpa using hcm
        exact five_lt hzl e'
      rw [upd_ne (Nat.ne_of_lt hlt)]
      exact (hf c hcm).1
  done := by
    intro X hP hw hK hc i pins s σ H E I hf st hg
    subst hP hw hK
    obtain ⟨hz, hTI, ⟨x0, y0, hTO⟩, h1, h2⟩ := st
    obtain ⟨xs, ys, hqx, hqy, q1, q2, hend⟩ := hg
    obtain ⟨its, rv, p, _⟩ := inv_sqB I hqx
    obtain ⟨its2, rv2, p2, _⟩ := inv_sqB I hqy
    have l1 := rv.length
    have l2 := rv2.length
    have hh1 : X.A.in1.handled = none := I.ok.hd hc
    refine wpAny_pyNext_zipD2_end (A := X.A) (zip_sep2 (N := N) (fp1 := [a]) (fp2 := [b]) (fun c hc => by rw [List.mem_singleton.mp hc]; exact la) (fun c hc => by rw [List.mem_singleton.mp hc]; exact lb))
      (draws_b b1 hh1 N a (Nat.ne_of_lt la) its.toArray) (draws_b b2 hh1 (N + 1) b (Nat.ne_of_lt (Nat.lt_succ_of_lt lb)) its2.toArray) hz hTI hTO ⟨h1, p⟩ ⟨h2, p2⟩ (by simp; omega) (by simp; omega) (by simp; omega)
      fun h' tk hk => ⟨rfl, I.turnedL (t' := tk) (ch := [N + 4, N + 2, N + 3, N, N + 1]) (fun c o hb q => hk c o (fun q' => hb (by simp [q'])) (fun q' => hb (by simp [q'])) (fun q' => hb (by simp [q'])) (fun q' => hb (by simp [q'])) q) hf⟩
  self := fun A i s Q E st h => wpAny_pyIter_zip st.1 h
def iZipB (K : PySem.W.Frag) (ta : TA) : TI := fun σ H Rr => ta σ H fun vs H1 => ∃ b1 b2 a b xs ys, vs = [.ref a, .ref b] ∧ SqB K H1 b1 a xs ∧ SqB K H1 b2 b ys ∧ Rr (ItzB K b1 b2 a b) H1
theorem pi_zipB {X : Cx} {e e2 : Expr} {ta : TA} {p pos tpos : Pos} {elts : List Expr} {kk : Nat} (hg : Gl X "zip") (hm : X.mg "zip" = none) (ha : PA X [e, e2] ta)
    (hs : starEach [e, e2] X.env = (false, eval e X.env) :: starEach [e2] X.env := by rfl) (hpl : (backTo pos (starEach [e2] X.env)).any (·.1) = false := by rfl) :
    PI X (.Tuple elts kk tpos) (.Call (.Name "zip" p) [e, e2] [] pos) (iZipB X.K ta) := by
  refine ⟨fun pins s σ H Rr I h => ?_⟩
  refine PyProof.Rows.Call_ (ld_blt I hg hm PyProof.Rows.boot_zip (PyProof.Rows.callWith_type1 (thn (ha.run pos pins s σ H _ I h) fun us s1 ⟨vs, H1, I1, r1, q1⟩ => ?_) hs hpl))
  obtain ⟨b1, b2, a, b, xs, ys, ex, hqx, hqy, q⟩ := q1
  subst ex
  cases r1 with
  | cons r rr =>
    cases rr with
    | cons r' rr =>
      cases rr
      cases r
      cases r'
      obtain ⟨its, rv, p1, la⟩ := inv_sqB I1 hqx
      obtain ⟨its2, rv2, p2, lb⟩ := inv_sqB I1 hqy
      refine zip_begins2 (begins_b b1 a its.toArray) (begins_b b2 b its2.toArray) p1 p2 fun h' hz hTI hTO h1 h2 hsz hk => wpAny_pyIter_zip hz ?_
      have I2 : Inv X pins σ H1 { s1 with heap := h' } := I1.kept (t' := s1.toks) hk
      refine ⟨s1.heap.objs.size + 4, [s1.heap.objs.size + 4, s1.heap.objs.size + 2, s1.heap.objs.size + 3, s1.heap.objs.size, s1.heap.objs.size + 1], _, _, H1, rfl, I2, turn_zipB la lb, ⟨hz, hTI, ⟨_, _, hTO⟩, ItB.start h1, ItB.start h2⟩, fun c hcm => ?_, q⟩
      have e' : c = s1.heap.objs.size + 4 ∨ c = s1.heap.objs.size + 2 ∨ c = s1.heap.objs.size + 3 ∨ c = s1.heap.objs.size ∨ c = s1.heap.objs.size + 1 := by simpa using hcm
      have hle : s1.heap.objs.size ≤ c := five_le e'
      exact I1.fpOk hle (I1.hok.fresh hle)
end DL

set_option Elab.async false
set_option linter.all false
set_option maxRecDepth 100000
set_option maxHeartbeats 2000000
namespace DL
open PySem PySem.Spec L2 PySem.W
open PyProof.Rows (envOfC)
open AutoSeq1 (wpAny_loadPart')
theorem meets_enumerate_newB1 {v : Value} {o : Obj} {H : Heap → Prop} (B : Begins v o H) :
    Meets (Builtin.«enumerate.__new__» ⟨[.type "enumerate", v], []⟩) (fun _ R s => H s.heap ∧
      R (.ok (.ret (.ref (s.heap.push o).objs.size))) { s with heap := (s.heap.push o).push { cls := .type "enumerate", data := .fields #[.none, .bool false, .ref s.heap.objs.size, rawInt 0, .none, .none] } }) :=
  .of_wp fun prog w A R s h => by
    obtain ⟨hp, g, d, tk, os⟩ := s; obtain ⟨h1, h⟩ := h
    have hsub := sub_enumerate
    have q1 : ∀ {A' : Around} {E : Value → Shared → Prop} {Q : Value → Shared → Prop}, Q (.ref hp.objs.size) ⟨hp.push o, g, d, tk, os⟩ → wpAny (model prog w) A' (pyIter v) Q E ⟨hp, g, d, tk, os⟩ :=
      fun q => B.iter prog w _ _ ⟨hp, g, d, tk, os⟩ _ h1 q
    wp_walk using q1
    refine wpAny_stack_any fun st => wpAny_pure ?_
    split
    · rename_i c _ _ _ _ _
      cases (c == Value.type "enumerate")
      · wp_walk using q1
        exact ⟨_, rfl, h⟩
      · wp_walk using q1
        exact ⟨_, rfl, h⟩
    · wp_walk using q1
      exact ⟨_, rfl, h⟩
section
variable {prog : Program} {w : World} {A : Around} {E : Value → Shared → Prop} {s : Shared}
theorem enum_begins1 {v : Value} {o : Obj} {H : Heap → Prop} {Q : Value → Shared → Prop} (B : Begins v o H) (h1 : H s.heap)
    (h : ∀ h', IsEnum h' (s.heap.objs.size + 1) s.heap.objs.size 0 .none → h'.get? s.heap.objs.size = some o → h'.objs.size = s.heap.objs.size + 2 →
      (∀ b o, s.heap.get? b = some o → h'.get? b = some o) → Q (.ref (s.heap.objs.size + 1)) { s with heap := h' }) :
    wpAny (model prog w) A (call (.type "enumerate") [v]) Q E s := by
  refine callType_new F.called_enumerate (by decide) (F.typeCall_enumerate_1 _) (F.newCall_enumerate_1 _) (fun obj => F.args_object_init_2 obj _) F.entry_enumerate_new
    (meets_enumerate_newB1 B) ⟨h1, ?_⟩
  have hz : (s.heap.push o).objs.size = s.heap.objs.size + 1 := Heap.size_push ..
  show _ ∧ _
  rw [hz]
  have he : IsEnum ((s.heap.push o).push { cls := .type "enumerate", data := .fields #[.none, .bool false, .ref s.heap.objs.size, rawInt 0, .none, .none] }) (s.heap.objs.size + 1) s.heap.objs.size 0 .none := by
    have := Heap.get?_push_size (s.heap.push o) (o := { cls := .type "enumerate", data := .fields #[.none, .bool false, .ref s.heap.objs.size, rawInt 0, .none, .none] }) rfl
    rw [hz] at this; exact this
  refine ⟨⟨_, he, rfl⟩, h _ he (Heap.get?_push_of_some _ (Heap.get?_push_size _ B.free)) (by rw [Heap.size_push, hz]) fun b o x => Heap.get?_push_of_some _ (Heap.get?_push_of_some _ x)⟩
end
def IteB (K : PySem.W.Frag) (b : Bool) (a : Addr) : It :=
  ⟨fun i H => ∃ (xs : List V) (x : V), SqB K H b a xs ∧ xs[i]? = some x, fun i H v H' => ∃ T x, ∃ o : Obj, v = .ref T ∧ H T = none ∧ o.dict = none ∧ H' = upd H T (.frz o (.tup [.int (i : Nat), x])) ∧ ∀ xs, SqB K H b a xs → xs[i]? = some x, fun i H => ∃ xs : List V, SqB K H b a xs ∧ i = xs.length⟩
theorem turn_enumB {P : Program} {w : World} {K : PySem.W.Frag} {elts : List Expr} {kk : Nat} {tpos : Pos} {b : Bool} {a N : Addr} (la : a < N) :
    Turn P w K (.Tuple elts kk tpos) (IteB K b a) [N + 1, N] (N + 1) (fun i h => (∃ old, IsEnum h (N + 1) N ((i : Nat) : Int) old) ∧ ItB b h N a i) where
  mem := by simp
  obj := fun i h st c hc => by
    obtain ⟨⟨old, he⟩, hi⟩ := st
    have e' : c = N + 1 ∨ c = N := by simpa using hc
    rcases e' with z | z
    · rw [z]; exact ⟨_, he, fun v q => nomatch q⟩
    · rw [z]; exact hi.ex
  keep := fun i h h' st k => let ⟨⟨old, he⟩, hi⟩ := st; ⟨⟨old, k (N + 1) (by simp) _ he⟩, hi.at fun o q => k N (by simp) o q⟩
  item := by
    intro X hP hw hK hc i pins s σ H E I hf st hg
    subst hP hw hK
    obtain ⟨⟨old, he⟩, hit⟩ := st
    obtain ⟨xs, x, hq, hx⟩ := hg
    obtain ⟨its, rv, p, _⟩ := inv_sqB I hq
    obtain ⟨u, hu, ru⟩ := rv.get hx
    have hel : N + 1 < s.heap.objs.size := Heap.lt_size he
    have hh1 : X.A.in1.handled = none := I.ok.hd hc
    have l1 : i < its.toArray.size := by
      have := (List.getElem?_eq_some_iff.mp hu).1
      simpa using this
    refine wpAny_pyNext_enum_itemC (A := X.A) (draws_b b hh1 N a (Nat.ne_of_lt la) its.toArray) he ⟨hit, p⟩ l1 ad0 (by
      intro z
      have z' : N + 1 = N ∨ N + 1 = a := by simpa using z
      rcases z' with q | q
      · exact (ad0 (N := N) (i := 1)) q
      · exact absurd (q ▸ la : N + 1 < N) (Nat.not_lt.mpr (Nat.le_succ N))) fun x1 h' tk y1 ho d1 hT hsz hk => ?_
    have ex1 : x1 = u := by
      have q : its[i]? = some x1 := by simpa using y1
      rw [hu] at q; exact (Option.some.inj q).symm
    subst ex1
    refine ⟨_, rfl, wpAny_letOwnedTupleGo_enum (s := { s with heap := h', toks := tk + 1 }) ho fun h'' he' sb => ?_⟩
    have hT2 : h''.get? s.heap.objs.size = some { cls := .type "tuple", data := .seq #[.int i tk, x1] } := (sb.2 _ (Nat.ne_of_gt hel)).trans hT
    have new : ObjOk X.prog X.w (upd H s.heap.objs.size (.frz { cls := .type "tuple", data := .seq #[.int i tk, x1] } (.tup [.int (i : Nat), x]))) h'' s.heap.objs.size (.frz { cls := .type "tuple", data := .seq #[.int i tk, x1] } (.tup [.int (i : Nat), x])) :=
      ⟨hT2, by show 2 ≤ sizeLine; decide, [.int i tk, x1], .cons ⟨_, rfl⟩ (.cons ru .nil), ⟨_, hT2, rfl, _, rfl⟩⟩
    have I1 : Inv X pins σ (upd H s.heap.objs.size (.frz { cls := .type "tuple", data := .seq #[.int i tk, x1] } (.tup [.int (i : Nat), x]))) { s with heap := h'', toks := tk + 1 } :=
      I.turnedNew (ch := [N + 1, N]) (fun c ob hb q => (sb.2 c (fun z => hb (by simp [z]))).trans (hk c ob (fun z => hb (by simp [z])) (fun z => hb (by simp [z])) q)) hf (Nat.le_refl _) new
    refine ⟨.ref s.heap.objs.size, _, I1, rfl, ⟨_, x, _, rfl, I.hok.fresh (Nat.le_refl _), rfl, rfl, fun ys hy => by rw [inv_sqB_inj I hy hq]; exact hx⟩, ⟨⟨x1, ?_⟩, d1.1.at fun o q => (sb.2 N ad1).trans q⟩, fun c hb => ?_⟩
    · have e1 : ((i + 1 : Nat) : Int) = (i : Int) + 1 := by omega
      rw [e1]; exact he'
    · have hb' : c < s.heap.objs.size := by
        have e' : c = N + 1 ∨ c = N := by simpa using hb
        rcases e' with z | z
        · rw [z]; exact hel
        · rw [z]; exact Nat.lt_of_succ_lt hel
      rw [upd_ne (Nat.ne_of_lt hb')]
      exact (hf c hb).1
  done := by
    intro X hP hw hK hc i pins s σ H E I hf st hg
    subst hP hw hK
    obtain ⟨⟨old, he⟩, hit⟩ := st
    obtain ⟨xs, hq, hx⟩ := hg
    obtain ⟨its, rv, p, _⟩ := inv_sqB I hq
    obtain ⟨f0, f1, f2, f3, f4, f5⟩ := hf N (by simp)
    have hl := rv.length
    have hh1 : X.A.in1.handled = none := I.ok.hd hc
    have e : i = its.toArray.size := by simp; omega
    refine wpAny_pyNext_enum_endD (A := X.A) (draws_b b hh1 N a (Nat.ne_of_lt la) its.toArray) he (by rw [← e]; exact ⟨hit, p⟩) fun h' eb => ⟨rfl, I.turned (t' := s.toks) (fun b o hb q => eb b o hb q) f0 f1 f3 f4 f5⟩
  self := fun A i s Q E st h => let ⟨⟨_, he⟩, _⟩ := st; wpAny_pyIter_enum he h
def iEnumB (K : PySem.W.Frag) (ta : TA) : TI := fun σ H Rr => ta σ H fun vs H1 => ∃ b a xs, vs = [.ref a] ∧ SqB K H1 b a xs ∧ Rr (IteB K b a) H1
theorem pi_enumB {X : Cx} {e : Expr} {ta : TA} {p pos tpos : Pos} {elts : List Expr} {kk : Nat} (hg : Gl X "enumerate") (hm : X.mg "enumerate" = none) (ha : PA X [e] ta) (hs : starEach [e] X.env = [(false, eval e X.env)] := by rfl) :
    PI X (.Tuple elts kk tpos) (.Call (.Name "enumerate" p) [e] [] pos) (iEnumB X.K ta) := by
  refine ⟨fun pins s σ H Rr I h => ?_⟩
  refine PyProof.Rows.Call_ (ld_blt I hg hm PyProof.Rows.boot_enumerate (PyProof.Rows.callWith_type1 (thn (ha.run pos pins s σ H _ I h) fun us s1 ⟨vs, H1, I1, r1, q1⟩ => ?_) hs rfl))
  obtain ⟨b, a, xs, ex, hq, q⟩ := q1
  subst ex
  cases r1 with
  | cons r rr =>
    cases rr
    cases r
    obtain ⟨its, rv, p', la⟩ := inv_sqB I1 hq
    refine enum_begins1 (begins_b b a its.toArray) p' fun h' he hit hsz hk => wpAny_pyIter_enum he ?_
    have I2 : Inv X pins σ H1 { s1 with heap := h' } := I1.kept (t' := s1.toks) hk
    refine ⟨s1.heap.objs.size + 1, [s1.heap.objs.size + 1, s1.heap.objs.size], _, _, H1, rfl, I2, turn_enumB la, ⟨⟨.none, he⟩, ItB.start hit⟩, fun c hcm => ?_, q⟩
    have e' : c = s1.heap.objs.size + 1 ∨ c = s1.heap.objs.size := by simpa using hcm
    have hle : s1.heap.objs.size ≤ c := by
      rcases e' with z | z
      · rw [z]; exact Nat.le_add_right _ _
      · rw [z]; exact Nat.le_refl _
    exact I1.fpOk hle (I1.hok.fresh hle)
/-! ### as data -/
variable {S : Sg} {X : Cx} {W : St → WH}
/-- a value that may be walked: where it stands -/
theorem val_sq {M : Mu} {H : Hp} {d : D} {v : V} {xs : List D} (r : Rep S.K M H d v) (e : itemsV d = some xs) : ∃ b a vs, v = .ref a ∧ SqB S.K H b a vs ∧ RepAll S.K M H xs vs ∧ ∀ M' H', Grow H M M' → Ext M.m H H' → SqB S.K H' b a vs := by
  cases d with
  | tup ds =>
    cases e
    obtain ⟨a, vs, rfl, h, ra⟩ := r
    exact ⟨true, a, vs, rfl, h.t, ra, fun M' H' g x => (h.mono x g).t⟩
  | lst ds =>
    cases e
    obtain ⟨a, vs, rfl, h, n1, n2, ra⟩ := r
    exact ⟨false, a, vs, rfl, .inl (.inl h), ra, fun M' H' g x => .inl (.inl (x.keep a _ n1 h (fun ps z => nomatch z)))⟩
  | frl ds =>
    cases e
    obtain ⟨a, vs, rfl, h, ra⟩ := r
    exact ⟨false, a, vs, rfl, h.l, ra, fun M' H' g x => (h.mono x g).l⟩
  | _ => cases e
/-- a turn hands out a new pair, its object known -/
def YPairF (f g : Nat → Option V) (i : Nat) (H : Hp) (v : V) (H' : Hp) : Prop := ∃ T x y, ∃ o : Obj, v = .ref T ∧ H T = none ∧ o.dict = none ∧ H' = upd H T (.frz o (.tup [x, y])) ∧ f i = some x ∧ g i = some y
def zipD (xs ys : List D) : List D := (xs.zip ys).map fun p => .tup [p.1, p.2]
def iZip2 (g : DA) : DI := fun env L => (g env L).bind fun ds L1 => match ds with
  | [a, b] => (match itemsV a, itemsV b with
    | some xs, some ys => .ok (zipD xs ys) L1
    | _, _ => .no)
  | _ => .no
theorem walk_zipB {K : PySem.W.Frag} {b1 b2 : Bool} {a b : Addr} {xs ys : List V} {n : Nat} (hn : n = min xs.length ys.length) : Walk (ItzB K b1 b2 a b) n (fun H => SqB K H b1 a xs ∧ SqB K H b2 b ys) (YPairF (fun i => xs[i]?) (fun i => ys[i]?)) where
  goes := fun i H hi h => ⟨xs, ys, xs[i]'(by omega), ys[i]'(by omega), h.1, h.2, by simp, by simp⟩
  stops := fun H h => ⟨xs, ys, h.1, h.2, by omega, by omega, by omega⟩
  yields := fun i H x H' hi h y => by
    obtain ⟨T, u, v, o, e1, e2, eo, e3, q1, q2⟩ := y
    exact ⟨T, u, v, o, e1, e2, eo, e3, q1 xs h.1, q2 ys h.2⟩
theorem iter_zip {M : Mu} {H1 : Hp} {b1 b2 : Bool} {a b : Addr} {xs ys : List D} {vs us : List V} (ha : ∀ M' H', Grow H1 M M' → Ext M.m H1 H' → SqB S.K H' b1 a vs) (hb : ∀ M' H', Grow H1 M M' → Ext M.m H1 H' → SqB S.K H' b2 b us)
    (ra : RepAll S.K M H1 xs vs) (rb : RepAll S.K M H1 ys us) : IterOk S M H1 (zipD xs ys) (ItzB S.K b1 b2 a b) (fun H => SqB S.K H b1 a vs ∧ SqB S.K H b2 b us) (YPairF (fun i => vs[i]?) (fun i => us[i]?)) where
  w := walk_zipB (by simp [zipD, ra.len, rb.len])
  g := fun M' H' g x => ⟨ha M' H' g x, hb M' H' g x⟩
  y := fun M' H2 L2 i x H3 g xx s hi y => by
    obtain ⟨T, u, v, o, e1, e2, eo, e3, q1, q2⟩ := y
    subst e1 e3
    obtain ⟨d1, f1, r1⟩ := ra.get' q1
    obtain ⟨d2, f2, r2⟩ := rb.get' q2
    refine ⟨Ext.new e2, s.new e2, .tup [d1, d2], ?_, rep_tup_new s e2 eo ⟨u, [v], rfl, r1.mono xx g, v, [], rfl, r2.mono xx g, rfl⟩⟩
    unfold zipD
    rw [List.getElem?_map, List.getElem?_zip_eq_some (z := (d1, d2)) |>.mpr ⟨f1, f2⟩]
    rfl
theorem di_zip {elts : List Expr} {kk : Nat} {tpos : Pos} {es : List Expr} {g : DA} {p pos : Pos} (hK : X.K = S.K) (h : ∀ t, PA X es t → PI X (.Tuple elts kk tpos) (.Call (.Name "zip" p) es [] pos) (iZipB X.K t)) (ha : PA X es (tDA S W g)) :
    PI X (.Tuple elts kk tpos) (.Call (.Name "zip" p) es [] pos) (tI S W (iZip2 g)) := pi_imp (h _ ha) fun σ H Rr => by
  rintro ⟨env, L, M, he, hs, hp⟩
  refine ⟨env, L, M, he, hs, PostG.seq hp fun ds L1 H1 x1 s1 q vs r => ?_⟩
  split at q
  · rename_i da db
    split at q
    · rename_i xs ys e1 e2
      obtain ⟨v, u, rfl, rv, ru⟩ := r.two
      obtain ⟨b1, a, vs, rfl, h1, ra, g1⟩ := val_sq rv e1
      obtain ⟨b2, b, us, rfl, h2, rb, g2⟩ := val_sq ru e2
      rw [hK]
      exact ⟨b1, b2, a, b, vs, us, rfl, h1, h2, q H1 Ext.refl s1 _ _ _ (iter_zip g1 g2 ra rb)⟩
    · exact q.elim
  · exact q.elim
def enumD (xs : List D) : List D := (List.range xs.length).zip xs |>.map fun p => .tup [.int (p.1 : Nat), p.2]
def iEnum1 (g : DA) : DI := fun env L => (g env L).bind fun ds L1 => match ds with
  | [a] => (match itemsV a with
    | some xs => .ok (enumD xs) L1
    | none => .no)
  | _ => .no
theorem iter_enum {M : Mu} {H1 : Hp} {b : Bool} {a : Addr} {xs : List D} {vs : List V} (ha : ∀ M' H', Grow H1 M M' → Ext M.m H1 H' → SqB S.K H' b a vs) (ra : RepAll S.K M H1 xs vs) :
    IterOk S M H1 (enumD xs) (IteB S.K b a) (fun H => SqB S.K H b a vs) (YPairF (fun i => some (.int (i : Nat))) (fun i => vs[i]?)) where
  w := {
    goes := fun i H hi h => by
      have hi' : i < vs.length := by rw [ra.len]; simpa [enumD] using hi
      exact ⟨vs, vs[i], h, by simp⟩
    stops := fun H h => ⟨vs, h, by simp [enumD, ra.len]⟩
    yields := fun i H x H' hi h y => by
      obtain ⟨T, u, o, e1, e2, eo, e3, q1⟩ := y
      exact ⟨T, _, u, o, e1, e2, eo, e3, rfl, q1 vs h⟩ }
  g := fun M' H' g x => ha M' H' g x
  y := fun M' H2 L2 i x H3 g xx s hi y => by
    obtain ⟨T, u, v, o, e1, e2, eo, e3, q1, q2⟩ := y
    subst e1 e3
    cases q1
    obtain ⟨d2, f2, r2⟩ := ra.get' q2
    have hi' : i < xs.length := (List.getElem?_eq_some_iff.mp f2).1
    refine ⟨Ext.new e2, s.new e2, .tup [.int (i : Nat), d2], ?_, rep_tup_new s e2 eo ⟨_, [v], rfl, rfl, v, [], rfl, r2.mono xx g, rfl⟩⟩
    unfold enumD
    rw [List.getElem?_map, List.getElem?_zip_eq_some (z := (i, d2)) |>.mpr ⟨by simp [hi'], f2⟩]
    rfl
theorem di_enum {elts : List Expr} {kk : Nat} {tpos : Pos} {es : List Expr} {g : DA} {p pos : Pos} (hK : X.K = S.K) (h : ∀ t, PA X es t → PI X (.Tuple elts kk tpos) (.Call (.Name "enumerate" p) es [] pos) (iEnumB X.K t)) (ha : PA X es (tDA S W g)) :
    PI X (.Tuple elts kk tpos) (.Call (.Name "enumerate" p) es [] pos) (tI S W (iEnum1 g)) := pi_imp (h _ ha) fun σ H Rr => by
  rintro ⟨env, L, M, he, hs, hp⟩
  refine ⟨env, L, M, he, hs, PostG.seq hp fun ds L1 H1 x1 s1 q vs r => ?_⟩
  split at q
  · rename_i da
    split at q
    · rename_i xs e1
      obtain ⟨v, rfl, rv⟩ := r.single
      obtain ⟨b1, a, vs, rfl, h1, ra, g1⟩ := val_sq rv e1
      rw [hK]
      exact ⟨b1, a, vs, rfl, h1, q H1 Ext.refl s1 _ _ _ (iter_enum g1 ra)⟩
    · exact q.elim
  · exact q.elim
/-- reversed(range(n)) -/
def revD (n : Int) : List D := (List.range n.toNat).map fun (i : Nat) => .int (n - 1 - (i : Int))
def iRev (f : DE) : DI := fun env L => (f env L).bind fun d L1 => match d with
  | .int n => if inR n then .ok (revD n) L1 else .no
  | _ => .no
theorem rev_imp {f : DE} (σ : St) (H : Hp) (Rr : It → Hp → Prop) : tI S W (iRev f) σ H Rr → iRevR (tRg1 (tD S W f)) σ H Rr := by
  rintro ⟨env, L, M, he, hs, hp⟩
  refine ⟨env, L, M, he, hs, PostG.seq hp fun d L1 H1 x1 s1 q v r => ?_⟩
  cases d with
  | int n =>
    have q' : PostG S (W σ) M H1 (fun items _ H1 => ∀ J G Y, IterOk S M H1 items J G Y → Rr J H1) (if inR n then .ok (revD n) L1 else .no) := q
    split at q'
    · rename_i hn
      obtain ⟨h1, h2⟩ := of_decide_eq_true hn
      have r' : v = .int n := r
      refine ⟨n, r', by decide, by decide, h1, h2, ?_⟩
      have e1 : (n - 0).toNat = n.toNat := by simp
      rw [e1]
      refine q' H1 Ext.refl s1 _ (fun _ => True) (YFn fun i => .int ((0 + ((n.toNat : Nat) : Int) - 1) + (i : Nat) * (-1))) ⟨?_, fun _ _ _ _ => trivial, fun M' H2 L2 i x H3 g xx s hi y => ?_⟩
      · have : (revD n).length = n.toNat := by simp [revD]
        rw [this]
        exact walk_rangeC
      · obtain ⟨e, q2⟩ := y
        subst e
        have hi' : i < n.toNat := by simpa [revD] using hi
        refine ⟨Ext.refl, s, .int (n - 1 - (i : Int)), by simp [revD, hi'], ?_⟩
        show x = .int (n - 1 - (i : Int))
        rw [q2]
        show V.int _ = V.int _
        congr 1
        have : ((n.toNat : Nat) : Int) = n := Int.toNat_of_nonneg (by omega)
        rw [this]
        omega
    · exact q'.elim
  | _ => exact q.elim
end DL

set_option Elab.async false
set_option linter.all false
set_option maxRecDepth 100000
set_option maxHeartbeats 2000000
namespace DL
open PySem PySem.Spec L2 PySem.W
open PyProof.Rows (envOfC)
variable {S : Sg} {X : Cx} {W : St → WH}
theorem hu64 {k : Nat} {A : Around} (hr : Room k A) : A.units + 64 < cLine := by have := hr.un; omega
/-! ### isinstance -/
def tyD (L : LH) : D → Option String
  | .non => some "NoneType"
  | .bl _ => some "bool"
  | .int _ => some "int"
  | .str _ => some "str"
  | .tup _ => some "tuple"
  | .lst _ => some "list"
  | .frl _ => some "list"
  | .dic _ => some "dict"
  | .ref n => match L[n]? with
    | some (.lst _) => some "list"
    | some (.dic _) => some "dict"
    | none => none
  | .obj _ => none
theorem tyD_ok {M : Mu} {H : Hp} {L : LH} {d : D} {v : V} {t : String} (hs : Sim S.K M H L) (r : Rep S.K M H d v) (e : tyD L d = some t) : TyX S.K H v (.type t) := by
  cases d with
  | non => cases r; cases e; exact .base .non
  | bl b => cases r; cases e; exact .base (.bl b)
  | int b => cases r; cases e; exact .base (.int b)
  | str b => cases r; cases e; exact .base (.str b)
  | tup ds =>
    obtain ⟨a, vs, rfl, h, _⟩ := r
    cases e
    rcases h with ⟨o, h, _⟩ | ⟨o, its, n, h, hc, _⟩
    · exact .fTuple h
    · exact .kTuple h hc
  | lst ds =>
    obtain ⟨a, vs, rfl, h, _⟩ := r
    cases e
    exact .base (.lst h)
  | frl ds =>
    obtain ⟨a, vs, rfl, h, _⟩ := r
    cases e
    rcases h with ⟨h | ⟨o, h⟩, _⟩ | ⟨o, its, n, h, hc, _⟩
    · exact .base (.lst h)
    · exact .base (.frz h)
    · exact .kList h hc
  | dic ds =>
    obtain ⟨a, vs, rfl, h, _⟩ := r
    cases e
    exact h.elim (fun h => .base (.dK h)) fun ⟨o, h⟩ => .fDict h
  | ref n =>
    obtain ⟨a, rfl, hm⟩ := r
    have e0 : (match L[n]? with | some (.lst _) => some "list" | some (.dic _) => some "dict" | none => none) = some t := e
    cases hl : L[n]? with
    | none => rw [hl] at e0; cases e0
    | some o =>
      rw [hl] at e0
      cases o with
      | lst xs =>
        cases e0
        obtain ⟨vs, h, _⟩ := hs.at_ n a _ hm hl
        exact .base (.lst h)
      | dic xs =>
        cases e0
        obtain ⟨vs, h, _⟩ := hs.at_ n a _ hm hl
        exact .base (.dK h)
  | obj w => cases e
/-- isinstance's answer for the built-in kinds -/
def isiB (t n : String) : Option Bool :=
  if ["NoneType", "bool", "int", "str", "tuple", "list", "dict"].contains t && ["bool", "int", "str", "tuple", "list", "dict"].contains n then some (t == n || (t == "bool" && n == "int")) else none
theorem isiB_ok : ∀ {t n : String} {b : Bool}, isiB t n = some b → kitB t n = some b := by
  have all : ∀ t ∈ ["NoneType", "bool", "int", "str", "tuple", "list", "dict"], ∀ n ∈ ["bool", "int", "str", "tuple", "list", "dict"], kitB t n = some (t == n || (t == "bool" && n == "int")) := by decide +kernel
  intro t n b e
  unfold isiB at e
  split at e
  · rename_i h
    rw [Bool.and_eq_true, List.contains_iff_mem, List.contains_iff_mem] at h
    rw [all t h.1 n h.2]
    exact e
  · cases e
def kIsi : List D → LH → R D := fun ds L => match ds with
  | [d, .obj (.ty n)] => (match tyD L d with
    | some t => (match isiB t n with
      | some b => .ok (.bl b) L
      | none => .no)
    | none => .no)
  | _ => .no
theorem does_isi : DoesL S (rIsi S.K) kIsi := by
  intro M H L a x Q w hs ra hp
  unfold kIsi at hp
  split at hp
  · rename_i d n
    split at hp
    · rename_i t et
      split at hp
      · rename_i b eb
        obtain ⟨v, u, rfl, rv, ru⟩ := ra.two
        have ru' : u = .ty n := ru
        subst ru'
        exact ⟨v, .ty n, .type t, .type n, b, rfl, .ty n, tyD_ok hs rv et, kit_ty (isiB_ok eb), hp H Ext.refl hs _ rfl⟩
      · exact hp.elim
    · exact hp.elim
  · exact hp.elim
/-- a built-in class as a value -/
theorem de_ty {x : Str} {n : String} {pos : Pos} (h : PE X (.Name x pos) (tC (.ty n))) : PE X (.Name x pos) (tD S W (dC (.obj (.ty n)))) := de_c h fun _ _ => rfl
/-! ### calls of built-ins by their name -/
theorem de_callB {x : Str} {es : List Expr} {g : DA} {p pos : Pos} {r : List V → Hp → VK → Prop} {k : List D → LH → R D} (hc : ∀ t, PA X es t → PE X (.Call (.Name x p) es [] pos) (tCB r t)) (hk : DoesL S r k) (ha : PA X es (tDA S W g)) : PE X (.Call (.Name x p) es [] pos) (tD S W (dL k g)) := pe_imp (hc _ ha) (tDL hk)
/-! ### sums and the like, of values that are lists of ints -/
def intsD : List D → Option (List Int)
  | [] => some []
  | .int i :: ds => (intsD ds).map (i :: ·)
  | _ :: _ => none
theorem intsD_ok : ∀ {ds : List D} {is : List Int}, intsD ds = some is → ds = is.map D.int
  | [], _, e => by cases e; rfl
  | .int i :: ds, is, e => by
    have e' : (intsD ds).map (i :: ·) = some is := e
    cases q : intsD ds with
    | none => rw [q] at e'; cases e'
    | some js => rw [q] at e'; cases e'; rw [intsD_ok q]; rfl
  | .non :: _, _, e => by cases e
  | .bl _ :: _, _, e => by cases e
  | .str _ :: _, _, e => by cases e
  | .tup _ :: _, _, e => by cases e
  | .lst _ :: _, _, e => by cases e
  | .frl _ :: _, _, e => by cases e
  | .dic _ :: _, _, e => by cases e
  | .ref _ :: _, _, e => by cases e
  | .obj _ :: _, _, e => by cases e
def blsD : List D → Option (List Bool)
  | [] => some []
  | .bl i :: ds => (blsD ds).map (i :: ·)
  | _ :: _ => none
theorem blsD_ok : ∀ {ds : List D} {is : List Bool}, blsD ds = some is → ds = is.map D.bl
  | [], _, e => by cases e; rfl
  | .bl i :: ds, is, e => by
    have e' : (blsD ds).map (i :: ·) = some is := e
    cases q : blsD ds with
    | none => rw [q] at e'; cases e'
    | some js => rw [q] at e'; cases e'; rw [blsD_ok q]; rfl
  | .non :: _, _, e => by cases e
  | .int _ :: _, _, e => by cases e
  | .str _ :: _, _, e => by cases e
  | .tup _ :: _, _, e => by cases e
  | .lst _ :: _, _, e => by cases e
  | .frl _ :: _, _, e => by cases e
  | .dic _ :: _, _, e => by cases e
  | .ref _ :: _, _, e => by cases e
  | .obj _ :: _, _, e => by cases e
/-- a built-in of one list (no tuple) of ints, or of bools -/
def kList (f : List D → Option D) : List D → LH → R D := fun ds L => match ds with
  | [d] => (match seqD L d with
    | some (false, xs) => orNo (f xs) L
    | _ => .no)
  | _ => .no
def fSum (xs : List D) : Option D := (intsD xs).map fun is => .int is.sum
def fAll (xs : List D) : Option D := (blsD xs).map fun bs => .bl (bs.all id)
def fAny (xs : List D) : Option D := (blsD xs).map fun bs => .bl (bs.any id)
theorem kList_ok {f : List D → Option D} {M : Mu} {H : Hp} {L : LH} {a : List D} {x : List V} {Q : VK} {w : WH} (hs : Sim S.K M H L) (ra : RepAll S.K M H a x) (hp : PostG S w M H (PV S M Q) (kList f a L)) :
    ∃ p vs xs d, x = [.ref p] ∧ SqL S.K H p vs ∧ RepAll S.K M H xs vs ∧ f xs = some d ∧ ∀ v, Rep S.K M H d v → Q v H := by
  unfold kList at hp
  split at hp
  · split at hp
    · rename_i xs e
      cases ef : f xs with
      | none => rw [ef] at hp; exact hp.elim
      | some d =>
        rw [ef] at hp
        obtain ⟨v, rfl, rv⟩ := ra.single
        obtain ⟨p, vs, rfl, h, q⟩ := seqD_ok hs rv e
        exact ⟨p, vs, xs, d, rfl, h, q, ef, fun v r => hp H Ext.refl hs v r⟩
    · exact hp.elim
  · exact hp.elim
theorem does_sum : DoesL S (rSum S.K) (kList fSum) := by
  intro M H L a x Q w hs ra hp
  obtain ⟨p, vs, xs, d, rfl, h, q, ef, fin⟩ := kList_ok hs ra hp
  unfold fSum at ef
  cases ei : intsD xs with
  | none => rw [ei] at ef; cases ef
  | some is =>
    rw [ei] at ef
    cases ef
    have e := intsD_ok ei
    subst e
    have ev := q.ints
    subst ev
    exact ⟨p, is, rfl, h, fin _ rfl⟩
theorem does_all : DoesL S (rAll S.K) (kList fAll) := by
  intro M H L a x Q w hs ra hp
  obtain ⟨p, vs, xs, d, rfl, h, q, ef, fin⟩ := kList_ok hs ra hp
  unfold fAll at ef
  cases ei : blsD xs with
  | none => rw [ei] at ef; cases ef
  | some is =>
    rw [ei] at ef
    cases ef
    have e := blsD_ok ei
    subst e
    have ev := q.bls
    subst ev
    exact ⟨p, is, rfl, h, fin _ rfl⟩
theorem does_any : DoesL S (rAny S.K) (kList fAny) := by
  intro M H L a x Q w hs ra hp
  obtain ⟨p, vs, xs, d, rfl, h, q, ef, fin⟩ := kList_ok hs ra hp
  unfold fAny at ef
  cases ei : blsD xs with
  | none => rw [ei] at ef; cases ef
  | some is =>
    rw [ei] at ef
    cases ef
    have e := blsD_ok ei
    subst e
    have ev := q.bls
    subst ev
    exact ⟨p, is, rfl, h, fin _ rfl⟩
/-- built-ins of ints -/
def kI1 (f : Int → Int) : List D → LH → R D := fun ds L => match ds with
  | [.int i] => .ok (.int (f i)) L
  | _ => .no
def kI2 (f : Int → Int → Int) : List D → LH → R D := fun ds L => match ds with
  | [.int i, .int j] => .ok (.int (f i j)) L
  | _ => .no
def kIntOf : List D → LH → R D := fun ds L => match ds with
  | [.int i] => .ok (.int i) L
  | [.bl b] => .ok (.int (if b then 1 else 0)) L
  | _ => .no
theorem does_abs : DoesL S (fun xs H Q => ∃ i, xs = [.int i] ∧ Q (.int (if i < 0 then -i else i)) H) (kI1 fun i => if i < 0 then -i else i) := by
  intro M H L a x Q w hs ra hp
  unfold kI1 at hp
  split at hp
  · obtain ⟨v, rfl, rv⟩ := ra.single
    cases rv
    exact ⟨_, rfl, hp H Ext.refl hs _ rfl⟩
  · exact hp.elim
theorem does_max2 : DoesL S (fun xs H Q => ∃ i j, xs = [.int i, .int j] ∧ Q (.int (if j > i then j else i)) H) (kI2 fun i j => if j > i then j else i) := by
  intro M H L a x Q w hs ra hp
  unfold kI2 at hp
  split at hp
  · obtain ⟨v, u, rfl, rv, ru⟩ := ra.two
    cases rv
    cases ru
    exact ⟨_, _, rfl, hp H Ext.refl hs _ rfl⟩
  · exact hp.elim
theorem does_min2 : DoesL S (fun xs H Q => ∃ i j, xs = [.int i, .int j] ∧ Q (.int (if j < i then j else i)) H) (kI2 fun i j => if j < i then j else i) := by
  intro M H L a x Q w hs ra hp
  unfold kI2 at hp
  split at hp
  · obtain ⟨v, u, rfl, rv, ru⟩ := ra.two
    cases rv
    cases ru
    exact ⟨_, _, rfl, hp H Ext.refl hs _ rfl⟩
  · exact hp.elim
theorem does_intOf : DoesL S (fun xs H Q => (∃ i, xs = [.int i] ∧ Q (.int i) H) ∨ ∃ k, xs = [.bl k] ∧ Q (.int (if k then 1 else 0)) H) kIntOf := by
  intro M H L a x Q w hs ra hp
  unfold kIntOf at hp
  split at hp
  · obtain ⟨v, rfl, rv⟩ := ra.single
    cases rv
    exact .inl ⟨_, rfl, hp H Ext.refl hs _ rfl⟩
  · obtain ⟨v, rfl, rv⟩ := ra.single
    cases rv
    exact .inr ⟨_, rfl, hp H Ext.refl hs _ rfl⟩
  · exact hp.elim
/-! ### in -/
def flatD : D → Option V
  | .non => some .non
  | .bl b => some (.bl b)
  | .int i => some (.int i)
  | .str x => some (.str x)
  | _ => none
theorem flatD_ok {M : Mu} {H : Hp} {d : D} {v w : V} (r : Rep S.K M H d v) (e : flatD d = some w) : v = w ∧ flatV v = true := by
  cases d with
  | non => cases e; cases r; exact ⟨rfl, rfl⟩
  | bl b => cases e; cases r; exact ⟨rfl, rfl⟩
  | int b => cases e; cases r; exact ⟨rfl, rfl⟩
  | str b => cases e; cases r; exact ⟨rfl, rfl⟩
  | _ => cases e
def flatAll : List D → Option (List V)
  | [] => some []
  | d :: ds => match flatD d, flatAll ds with
    | some v, some r => some (v :: r)
    | _, _ => none
theorem flatAll_ok {M : Mu} {H : Hp} : ∀ {ds : List D} {vs ws : List V}, RepAll S.K M H ds vs → flatAll ds = some ws → vs = ws ∧ vs.all flatV = true
  | [], _, _, r, e => by cases e; cases r; exact ⟨rfl, rfl⟩
  | d :: ds, _, ws, ⟨v, t, e1, h, q⟩, e => by
    have e' : (match flatD d, flatAll ds with | some v, some r => some (v :: r) | _, _ => none) = some ws := e
    cases hd : flatD d with
    | none => rw [hd] at e'; cases e'
    | some w =>
      cases hr : flatAll ds with
      | none => rw [hd, hr] at e'; cases e'
      | some us =>
        rw [hd, hr] at e'
        cases e'
        obtain ⟨a1, a2⟩ := flatD_ok h hd
        obtain ⟨b1, b2⟩ := flatAll_ok q hr
        subst a1 b1
        rw [e1]
        exact ⟨rfl, by rw [List.all_cons, a2, b2]; rfl⟩
def kIn (neg : Bool) : D → D → LH → R D := fun a b L => match flatD a, seqD L b with
  | some x, some (_, ys) => (match flatAll ys with
    | some vs => .ok (.bl (if neg then !inV x vs else inV x vs)) L
    | none => .no)
  | _, _ => .no
theorem does_in {neg : Bool} : Does2 S (rIn S.K neg) (kIn neg) := by
  intro M H L a b x y Q w hs ra rb hp
  unfold kIn at hp
  split at hp
  · rename_i v bb ys e1 e2
    split at hp
    · rename_i vs e3
      obtain ⟨a1, a2⟩ := flatD_ok ra e1
      obtain ⟨p, us, rfl, h, q⟩ := seqD_ok hs rb e2
      obtain ⟨b1, b2⟩ := flatAll_ok q e3
      subst a1 b1
      refine ⟨p, us, rfl, ?_, a2, b2, hp H Ext.refl hs _ rfl⟩
      cases bb with
      | true => exact .inr h
      | false => exact .inl h
    · exact hp.elim
  · exact hp.elim
/-- -a -/
def kNeg : D → LH → R D := fun a L => match a with
  | .int i => .ok (.int (-i)) L
  | _ => .no
theorem does_neg : Does1 S (rU fun i => .int (-i)) kNeg := by
  intro M H L a x Q w hs ra hp
  unfold kNeg at hp
  split at hp
  · exact ⟨_, ra, hp H Ext.refl hs _ rfl⟩
  · exact hp.elim
theorem de_neg {a : Expr} {f : DE} {pos : Pos} (ha : PE X a (tD S W f)) : PE X (.UnaryOp .USub a pos) (tD S W (d1 kNeg f)) := pe_imp (pe_un un_neg ha) (tD1 does_neg)
/-! ### the module's constants -/
theorem de_gInt {x : Str} {i : Int} {t : Tok} {pos : Pos} (hg : Gl X x) (hm : X.mg x = some (.int i t)) (hd : (x == ("__debug__" : Str)) = false := by decide) : PE X (.Name x pos) (tD S W (dC (.int i))) := de_c (v := .int i) (pe_glob hg hm ⟨t, rfl⟩ hd) fun _ _ => rfl
def IsT (v : Value) (i : Int) : Prop := ∃ t, v = .int i t
theorem vals_ints : ∀ {is : List Int} {us : List Value}, Paired (fun (i : Int) (u : Value) => ∃ t, u = .int i t) is us → Vals (is.map V.int) us
  | _, _, .nil => .nil
  | _, _, .cons r t => .cons r (vals_ints t)
theorem small_tup {its : Array Value} {n : Nat} (h : its.size = n) (hn : n ≤ 16777216) : its.size ≤ sizeLine := by rw [h, sizeLine_eq]; exact hn
/-- a written tuple of ints -/
structure KTup (K : PySem.W.Frag) (a : Addr) (is : List Int) : Prop where
  ex : ∃ (o : Obj) (its : Array Value) (n : Nat), K.lookup a = some o ∧ o.cls = .type "tuple" ∧ o.dict = none ∧ o.data = .seq its n ∧ its.size ≤ sizeLine ∧ Vals (is.map V.int) its.toList
theorem de_gTup {x : Str} {a : Addr} {is : List Int} {pos : Pos} (hK : X.K = S.K) (hg : Gl X x) (hm : X.mg x = some (.ref a)) (hk : KTup X.K a is) (hd : (x == ("__debug__" : Str)) = false := by decide) : PE X (.Name x pos) (tD S W (dC (.tup (is.map D.int)))) := by
  obtain ⟨o, its, n, h1, h2, hd0, h3, h4, h5⟩ := hk.ex
  rw [hK] at h1
  exact de_c (v := .ref a) (pe_glob hg hm rfl hd) fun M H => ⟨a, is.map V.int, rfl, .inr ⟨o, its, n, h1, h2, hd0, h3, h4, h5⟩, RepAll.of_ints is⟩
/-! ### a, b = e, f -/
def sPar (i j : Nat) (g : DA) : DS := fun env L => (g env L).toS env fun ds L1 => match ds with
  | [a, b] => .nx ((env.set i (some a)).set j (some b)) L1
  | _ => .no
theorem s_par {st : Stmt} {es : List Expr} {i j : Nat} {g : DA} (h : ∀ t, PA X es t → PS X st (tPar i j t)) (ha : PA X es (tDA S W g)) : PS X st (tS S W (sPar i j g)) := ps_imp (h _ ha) fun E σ H => by
  rintro ⟨env, L, M, he, hs, hp⟩
  refine ⟨env, L, M, he, hs, PostS.expr he hp fun ds L1 H1 x1 s1 q vs r => ?_⟩
  split at q
  · obtain ⟨v, u, rfl, rv, ru⟩ := r.two
    exact ⟨v, u, rfl, q _ H1 M Grow.refl Ext.refl s1 (((he.mono x1 Grow.refl).set rv).set ru)⟩
  · exact q.elim
/-- an assignment to a target of any kind -/
def sAsg (f : DE) (k : DG) : DS := fun env L => (f env L).toS env fun d L1 => match k d env with
  | some env1 => .nx env1 L1
  | none => .no
theorem s_asg {st : Stmt} {e : Expr} {f : DE} {g : TG} {k : DG} (h : ∀ te, PE X e te → PS X st (tAsg te g)) (he : PE X e (tD S W f)) (hg : DoesG S X g k) : PS X st (tS S W (sAsg f k)) := ps_imp (h _ he) fun E σ H => by
  rintro ⟨env, L, M, he, hs, hp⟩
  refine ⟨env, L, M, he, hs, PostS.expr he hp fun d L1 H1 x1 s1 q v r => ?_⟩
  cases ek : k d env with
  | none => rw [ek] at q; exact q.elim
  | some env1 =>
    rw [ek] at q
    exact hg M H1 L1 d v env env1 σ _ s1 r (he.mono x1 Grow.refl) ek fun σ' e' => q σ' H1 M Grow.refl Ext.refl s1 e'
/-- a raise that is never met -/
def sNever : DS := fun _ _ => .no
theorem s_never {st : Stmt} (h : PS X st tNever) : PS X st (tS S W sNever) := ps_imp h fun E σ H ⟨env, L, M, he, hs, hp⟩ => hp.elim
/-- {} as a value -/
theorem de_dict0 {e : Expr} (h : PE X e (fun σ H Q => ∀ d, H d = none → Q (.ref d) (upd H d (.dK [])))) : PE X e (tD S W (dC (.dic []))) := pe_imp h fun σ H Q ⟨env, L, M, he, hs, hp⟩ d hn =>
  post_new hp hs hn _ ⟨d, [], rfl, .inl upd_same, (nm_new hs hn).1, (nm_new hs hn).2, rfl⟩
/-! ### comparisons as tests -/
def dB (f : DE) : DT := fun env L => (f env L).bind fun d L1 => match d with
  | .bl b => .ok b L1
  | _ => .no
theorem tTest_imp {t : TE} {f : DE} (i : ∀ σ H Q, tD S W f σ H Q → t σ H Q) : ∀ σ H Q, tT S W (dB f) σ H Q → tTest t σ H Q := fun σ H Q => by
  rintro ⟨env, L, M, he, hs, hp⟩
  refine i σ H _ ⟨env, L, M, he, hs, PostG.seq hp fun d L1 H1 x1 s1 q v r => ?_⟩
  cases d with
  | bl b => exact ⟨b, r, q H1 Ext.refl s1⟩
  | _ => exact q.elim
theorem dt_cmp {a b : Expr} {op : CmpOp} {f g : DE} {k : D → D → LH → R D} {r : R2} {pos : Pos} (ho : OpR X (compareOp op) r) (hk : Does2 S r k) (ha : PE X a (tD S W f)) (hb : PE X b (tD S W g)) (hm : behindInMarks op b = false) : PT X (.Compare a [op] [b] pos) (tT S W (dB (d2 k f g))) :=
  pt_imp (pt_cmpR ho ha hb hm) (tTest_imp (tD2 hk))
theorem chain_imp {r r' : R2} {k k' : D → D → LH → R D} {f g h : DE} (hk : Does2 S r k) (hk' : Does2 S r' k') (σ : St) (H : Hp) (Q : VK) : tD S W (dChain k k' f g h) σ H Q → tChain r r' (tD S W f) (tD S W g) (tD S W h) σ H Q := by
  rintro ⟨env, L, M, he, hs, hp⟩
  refine ⟨env, L, M, he, hs, PostG.seq hp fun a L1 H1 x1 s1 q x ra => ⟨env, L1, M, he.mono x1 Grow.refl, s1, PostG.seq q fun b L2 H2 x2 s2 q2 y rb => ?_⟩⟩
  refine hk M H2 L2 a b x y _ _ s2 (ra.mono x2 Grow.refl) rb (PostG.seq q2 fun z L3 H3 x3 s3 q3 zv rz => ?_)
  cases z with
  | bl t =>
    refine ⟨t, rz, ?_⟩
    have q4 : PostG S (W σ) M H3 (PV S M Q) (if t = true then (h env L3).bind fun c L4 => k' b c L4 else .ok (.bl false) L3) := q3
    split
    · rename_i e
      rw [if_pos e] at q4
      refine ⟨env, L3, M, he.mono ((x1.trans x2).trans x3) Grow.refl, s3, PostG.seq q4 fun c L4 H4 x4 s4 q5 cv rc => ?_⟩
      exact hk' M H4 L4 b c y cv Q _ s4 (rb.mono (x3.trans x4) Grow.refl) rc q5
    · rename_i e
      rw [if_neg e] at q4
      exact q4 H3 Ext.refl s3 _ rfl
  | _ => exact q3.elim
theorem dt_chain {op op' : CmpOp} {a b c : Expr} {r r' : R2} {k k' : D → D → LH → R D} {f g h : DE} {pos : Pos} (ho : OpR X (compareOp op) r) (ho' : OpR X (compareOp op') r') (hk : Does2 S r k) (hk' : Does2 S r' k') (ha : PE X a (tD S W f)) (hb : PE X b (tD S W g)) (hc : PE X c (tD S W h))
    (hm : lastMarks [op, op'] [b, c] = false := by with_unfolding_all rfl) : PT X (.Compare a [op, op'] [b, c] pos) (tT S W (dB (dChain k k' f g h))) := pt_imp (pt_chain ho ho' ha hb hc hm) (tTest_imp (chain_imp hk hk'))
end DL

set_option Elab.async false
set_option linter.all false
set_option maxRecDepth 100000
set_option maxHeartbeats 1000000
namespace DL
open PySem PySem.Spec L2
/-! ### dicts whose keys are ints and texts -/
def keyD : D → Option Key
  | .int i => some (.inl i)
  | .str x => some (.inr x)
  | _ => none
def keyDD : Key → D
  | .inl i => .int i
  | .inr x => .str x
def dictD (L : LH) : D → Option (List (Key × D))
  | .dic ks => some ks
  | .ref n => match L[n]? with
    | some (.dic ks) => some ks
    | _ => none
  | _ => none
def valD : List (Key × D) → Key → Option D
  | [], _ => none
  | kd :: ks, k => if kd.1 = k then some kd.2 else valD ks k
def hasD (ks : List (Key × D)) (k : Key) : Bool := ks.any fun kv => decide (kv.1 = k)
def putD (ks : List (Key × D)) (k : Key) (d : D) : List (Key × D) := if hasD ks k = true then ks.map (fun kv => if kv.1 = k then (kv.1, d) else kv) else ks ++ [(k, d)]
section
variable {K : PySem.W.Frag} {M : Mu} {H : Hp}
theorem keyD_ok {d : D} {v : V} {k : Key} (r : Rep K M H d v) (e : keyD d = some k) : v = kV k := by
  cases d with
  | int i => cases e; exact r
  | str x => cases e; exact r
  | _ => cases e
theorem RepKV.len : ∀ {ks : List (Key × D)} {kvs : List (Key × V)}, RepKV K M H ks kvs → kvs.length = ks.length
  | [], _, h => by rw [show _ = [] from h]; rfl
  | kd :: ks, _, ⟨v, r, e, _, t⟩ => by rw [e]; simp [RepKV.len t]
theorem RepKV.keys : ∀ {ks : List (Key × D)} {kvs : List (Key × V)}, RepKV K M H ks kvs → kvs.map (·.1) = ks.map (·.1)
  | [], _, h => by rw [show _ = [] from h]; rfl
  | kd :: ks, _, ⟨v, r, e, _, t⟩ => by rw [e]; simp [RepKV.keys t]
theorem RepKV.val : ∀ {ks : List (Key × D)} {kvs : List (Key × V)} {k : Key}, RepKV K M H ks kvs → (∀ d, valD ks k = some d → ∃ v, valV kvs k = some v ∧ Rep K M H d v) ∧ (valD ks k = none → valV kvs k = none)
  | [], _, k, h => by
    rw [show _ = [] from h]
    exact ⟨(fun d e => nomatch e), fun _ => rfl⟩
  | kd :: ks, _, k, ⟨v, r, e, rv, t⟩ => by
    rw [e]
    unfold valD
    by_cases q : kd.1 = k
    · rw [if_pos q, valV_pos (p := (kd.1, v)) q]
      exact ⟨fun d z => by cases z; exact ⟨v, rfl, rv⟩, fun z => nomatch z⟩
    · rw [if_neg q, valV_neg (p := (kd.1, v)) q]
      exact RepKV.val t
theorem RepKV.any {k : Key} : ∀ {ks : List (Key × D)} {kvs : List (Key × V)}, RepKV K M H ks kvs → (kvs.any fun kv => decide (kv.1 = k)) = hasD ks k
  | [], _, h => by rw [show _ = [] from h]; rfl
  | kd :: ks, _, ⟨v, r, e, _, t⟩ => by
    rw [e]
    show (decide (kd.1 = k) || (r.any fun kv => decide (kv.1 = k))) = (decide (kd.1 = k) || hasD ks k)
    rw [RepKV.any t]
theorem RepKV.repl {k : Key} {d : D} {v : V} (rd : Rep K M H d v) : ∀ {ks : List (Key × D)} {kvs : List (Key × V)}, RepKV K M H ks kvs → RepKV K M H (ks.map fun kv => if kv.1 = k then (kv.1, d) else kv) (kvs.map fun kv => if kv.1 = k then (kv.1, v) else kv)
  | [], _, h => by rw [show _ = [] from h]; rfl
  | kd :: ks, _, ⟨u, r, e, ru, t⟩ => by
    rw [e]
    by_cases q : kd.1 = k
    · refine ⟨v, r.map (fun kv => if kv.1 = k then (kv.1, v) else kv), ?_, ?_, RepKV.repl rd t⟩
      · simp [q]
      · simp [q]; exact rd
    · refine ⟨u, r.map (fun kv => if kv.1 = k then (kv.1, v) else kv), ?_, ?_, RepKV.repl rd t⟩
      · simp [q]
      · simp [q]; exact ru
theorem RepKV.app {k : Key} {d : D} {v : V} (rd : Rep K M H d v) : ∀ {ks : List (Key × D)} {kvs : List (Key × V)}, RepKV K M H ks kvs → RepKV K M H (ks ++ [(k, d)]) (kvs ++ [(k, v)])
  | [], _, h => by
    rw [show _ = [] from h]
    exact ⟨v, [], rfl, rd, rfl⟩
  | kd :: ks, _, ⟨u, r, e, ru, t⟩ => by
    rw [e]
    exact ⟨u, r ++ [(k, v)], rfl, ru, RepKV.app rd t⟩
theorem RepKV.put {k : Key} {d : D} {v : V} {ks : List (Key × D)} {kvs : List (Key × V)} (h : RepKV K M H ks kvs) (rd : Rep K M H d v) : RepKV K M H (putD ks k d) (putK kvs k v) := by
  unfold putD putK
  rw [h.any]
  split
  · exact h.repl rd
  · exact h.app rd
theorem dictD_ok {L : LH} (s : Sim K M H L) {d : D} {v : V} {ks : List (Key × D)} (r : Rep K M H d v) (e : dictD L d = some ks) : ∃ a kvs, v = .ref a ∧ Rd H a (.dK kvs) ∧ RepKV K M H ks kvs := by
  cases d with
  | dic xs =>
    cases e
    obtain ⟨a, kvs, e1, h, _, _, q⟩ := r
    exact ⟨a, kvs, e1, h, q⟩
  | ref n =>
    obtain ⟨a, e1, hm⟩ := r
    have e0 : (match L[n]? with | some (.dic ks) => some ks | _ => none) = some ks := e
    cases hl : L[n]? with
    | none => rw [hl] at e0; cases e0
    | some o =>
      rw [hl] at e0
      cases o with
      | lst _ => cases e0
      | dic xs =>
        cases e0
        obtain ⟨vs, h, q⟩ := s.at_ n a _ hm hl
        exact ⟨a, vs, e1, .inl h, q⟩
  | _ => cases e
end
/-- d[k] -/
def kDx : D → D → LH → R D := fun a b L => match dictD L a, keyD b with
  | some ks, some k => orNo (valD ks k) L
  | _, _ => .no
def rDGet : R2 := fun x y H Q => ∃ a v, x = .ref a ∧ DGet H a y (some v) ∧ Q v H
theorem does_dx : Does2 S rDGet kDx := by
  intro M H L a b x y Q w hs ra rb hp
  unfold kDx at hp
  split at hp
  · rename_i ks k e1 e2
    obtain ⟨p, kvs, rfl, h, q⟩ := dictD_ok hs ra e1
    have ek := keyD_ok rb e2
    subst ek
    cases ev : valD ks k with
    | none => rw [ev] at hp; exact hp.elim
    | some d =>
      rw [ev] at hp
      obtain ⟨v, e3, rv⟩ := (RepKV.val (k := k) q).1 d ev
      exact ⟨p, v, rfl, by rw [← e3]; exact .inl ⟨kvs, k, h, rfl, rfl⟩, hp H Ext.refl hs v rv⟩
  · exact hp.elim
theorem de_dx {a b : Expr} {f g : DE} {pos : Pos} (hu : X.A.units + 1 < cLine) (ha : PE X a (tD S W f)) (hb : PE X b (tD S W g)) (hs : NoSl b) : PE X (.Subscript a b pos) (tD S W (d2 kDx f g)) := pe_imp (pe_dget hu ha hb hs) (tD2 does_dx)
/-- k in d -/
def kDIn (neg : Bool) : D → D → LH → R D := fun a b L => match keyD a, dictD L b with
  | some k, some ks => .ok (.bl (if neg then !(valD ks k).isSome else (valD ks k).isSome)) L
  | _, _ => .no
def rDIn (neg : Bool) : R2 := fun y x H Q => ∃ a o, x = .ref a ∧ DGet H a y o ∧ Q (.bl (if neg then !o.isSome else o.isSome)) H
theorem does_din {neg : Bool} : Does2 S (rDIn neg) (kDIn neg) := by
  intro M H L a b x y Q w hs ra rb hp
  unfold kDIn at hp
  split at hp
  · rename_i k ks e1 e2
    obtain ⟨p, kvs, rfl, h, q⟩ := dictD_ok hs rb e2
    have ek := keyD_ok ra e1
    subst ek
    refine ⟨p, valV kvs k, rfl, .inl ⟨kvs, k, h, rfl, rfl⟩, ?_⟩
    have e3 : (valV kvs k).isSome = (valD ks k).isSome := by
      cases ev : valD ks k with
      | none => rw [(RepKV.val q).2 ev]; rfl
      | some d =>
        obtain ⟨v, e4, _⟩ := (RepKV.val q).1 d ev
        rw [e4]; rfl
    rw [e3]
    exact hp H Ext.refl hs _ rfl
  · exact hp.elim
theorem de_din {a b : Expr} {f g : DE} {pos : Pos} (hu : X.A.units + 1 < cLine) (ha : PE X a (tD S W f)) (hb : PE X b (tD S W g)) (hm : behindInMarks .In b = false) : PE X (.Compare a [.In] [b] pos) (tD S W (d2 (kDIn false) f g)) := pe_imp (pe_cmp (pc_din hu ha hb) hm) (tD2 (r := rDIn false) does_din)
theorem de_dnin {a b : Expr} {f g : DE} {pos : Pos} (hu : X.A.units + 1 < cLine) (ha : PE X a (tD S W f)) (hb : PE X b (tD S W g)) (hm : behindInMarks .NotIn b = false) : PE X (.Compare a [.NotIn] [b] pos) (tD S W (d2 (kDIn true) f g)) := pe_imp (pe_cmp (pc_dnotin hu ha hb) hm) (tD2 (r := rDIn true) does_din)
theorem dB_imp {f : DE} (σ : St) (H : Hp) (Q : Bool → Hp → Prop) : tT S W (dB f) σ H Q → tB (tD S W f) σ H Q := by
  rintro ⟨env, L, M, he, hs, hp⟩
  refine ⟨env, L, M, he, hs, PostG.seq hp fun d L1 H1 x1 s1 q v r => ?_⟩
  cases d with
  | bl b => exact ⟨b, r, q H1 Ext.refl s1⟩
  | _ => exact q.elim
theorem dt_din {a b : Expr} {f g : DE} {pos : Pos} (hu : X.A.units + 1 < cLine) (ha : PE X a (tD S W f)) (hb : PE X b (tD S W g)) (hm : behindInMarks .In b = false) : PT X (.Compare a [.In] [b] pos) (tT S W (dB (d2 (kDIn false) f g))) := pt_imp (pt_cmp (pc_din hu ha hb) hm) fun σ H Q q => by
  obtain ⟨env, L, M, he, hs, hp⟩ := dB_imp σ H Q q
  exact tD2 (r := rDIn false) does_din σ H _ ⟨env, L, M, he, hs, hp⟩
theorem dt_dnin {a b : Expr} {f g : DE} {pos : Pos} (hu : X.A.units + 1 < cLine) (ha : PE X a (tD S W f)) (hb : PE X b (tD S W g)) (hm : behindInMarks .NotIn b = false) : PT X (.Compare a [.NotIn] [b] pos) (tT S W (dB (d2 (kDIn true) f g))) := pt_imp (pt_cmp (pc_dnotin hu ha hb) hm) fun σ H Q q => by
  obtain ⟨env, L, M, he, hs, hp⟩ := dB_imp σ H Q q
  exact tD2 (r := rDIn true) does_din σ H _ ⟨env, L, M, he, hs, hp⟩
/-- x = {}, a dict that is stored into -/
theorem Sim.addD {K : PySem.W.Frag} {M : Mu} {H : Hp} {L : LH} {p : Addr} (s : Sim K M H L) (hn : H p = none) :
    Grow H M ⟨M.m ++ [p], M.x⟩ ∧ Sim K ⟨M.m ++ [p], M.x⟩ (upd H p (.dK [])) (L ++ [.dic []]) := by
  have g : Grow H M ⟨M.m ++ [p], M.x⟩ := ⟨⟨[p], rfl, fun a ha => by rw [List.mem_singleton.mp ha]; exact hn⟩, ⟨[], rfl, fun _ z => nomatch z⟩⟩
  have x : Ext M.m H (upd H p (.dK [])) := Ext.new hn
  have pm := (nm_new s hn).1
  refine ⟨g, ⟨by simp [s.len], ?_, fun n a o e1 e2 => ?_, fun a ha => x.live a (s.xs a ha)⟩⟩
  · rw [List.nodup_append]
    exact ⟨s.nod, by simp, fun a ha b hb => by rw [List.mem_singleton.mp hb]; exact fun z => pm (z ▸ ha)⟩
  · by_cases hlt : n < M.m.length
    · have e1' : M.m[n]? = some a := by
        have q : (M.m ++ [p])[n]? = some a := e1
        rw [List.getElem?_append_left hlt] at q
        exact q
      have e2' : L[n]? = some o := by
        rw [List.getElem?_append_left (by rw [← s.len]; exact hlt)] at e2
        exact e2
      have ap : a ≠ p := fun z => pm (z ▸ List.mem_of_getElem? e1')
      have ro := s.at_ n a o e1' e2'
      cases o with
      | lst es =>
        obtain ⟨us, q, ra⟩ := ro
        exact ⟨us, (upd_ne ap).trans q, ra.mono x g⟩
      | dic es =>
        obtain ⟨us, q, ra⟩ := ro
        exact ⟨us, (upd_ne ap).trans q, RepKV.mono x g _ _ ra⟩
    · have hn2 : n = M.m.length := by
        have q : (M.m ++ [p])[n]? = some a := e1
        have := (List.getElem?_eq_some_iff.mp q).1
        simp at this
        omega
      subst hn2
      have q : (M.m ++ [p])[M.m.length]? = some a := e1
      simp at q
      subst q
      rw [s.len] at e2
      simp at e2
      subst e2
      exact ⟨[], upd_same, rfl⟩
def sNewD (i : Nat) : DS := fun env L => .nx (env.set i (some (.ref L.length))) (L ++ [.dic []])
theorem s_newD {i : Nat} {x : Str} {pos pos' p2 : Pos} (h : ∀ te, PE X (.Dict [] [] p2) te → PS X (.Assign [.Name x pos'] (.Dict [] [] p2) pos) (tAsg te (gName i))) : PS X (.Assign [.Name x pos'] (.Dict [] [] p2) pos) (tS S W (sNewD i)) := ps_imp (h _ pe_dnewK) fun E σ H => by
  rintro ⟨env, L, M, he, hs, hp⟩
  intro p hn
  obtain ⟨g, s2⟩ := hs.addD hn
  refine hp _ _ _ g (Ext.new hn) s2 ((he.mono (Ext.new hn) g).set ⟨p, rfl, ?_⟩)
  show (M.m ++ [p])[L.length]? = some p
  rw [← hs.len]
  simp
/-- d[k] = e -/
def kDPut (a i d : D) (L : LH) : R Unit := match a, keyD i with
  | .ref n, some k => (match L[n]? with
    | some (.dic ks) => if decide (ks.length < 16777216) = true then .ok () (L.set n (.dic (putD ks k d))) else .no
    | _ => .no)
  | _, _ => .no
def sDSet (f g h : DE) : DS := fun env L => (h env L).toS env fun d L1 => (f env L1).toS env fun a L2 => (g env L2).toS env fun i L3 => (kDPut a i d L3).toS env fun _ L4 => .nx env L4
theorem s_dput {o i e : Expr} {f g h : DE} {pos p2 : Pos} (hu : X.A.units + 1 < cLine) (hsw : swapsWith e (some (.Subscript o i p2)) pos.line X.env = pure false) (ho : PE X o (tD S W f)) (hi : PE X i (tD S W g)) (he : PE X e (tD S W h)) :
    PS X (.Assign [.Subscript o i p2] e pos) (tS S W (sDSet f g h)) := ps_imp (ps_dput hu ho hi he hsw) fun E σ H => by
  rintro ⟨env, L, M, he, hs, hp⟩
  refine ⟨env, L, M, he, hs, PostS.expr he hp fun d L1 H1 x1 s1 q v rd => ?_⟩
  refine ⟨env, L1, M, he.mono x1 Grow.refl, s1, PostS.expr (he.mono x1 Grow.refl) q fun a L2 H2 x2 s2 q2 x ra => ?_⟩
  refine ⟨env, L2, M, (he.mono x1 Grow.refl).mono x2 Grow.refl, s2, PostS.expr ((he.mono x1 Grow.refl).mono x2 Grow.refl) q2 fun i L3 H3 x3 s3 q3 y ri => ?_⟩
  have ra' := ra.mono x3 Grow.refl
  unfold kDPut at q3
  split at q3
  · rename_i n k ek
    obtain ⟨p, rfl, hm⟩ := ra'
    cases el : L3[n]? with
    | none => simp only [el] at q3; exact q3.elim
    | some o =>
      cases o with
      | lst ds => simp only [el] at q3; exact q3.elim
      | dic ks =>
        simp only [el] at q3
        split at q3
        · rename_i hlt
          obtain ⟨kvs, h1, rv⟩ := s3.at_ n p _ hm el
          have hl3 : n < L3.length := (List.getElem?_eq_some_iff.mp el).1
          have rd' := (rd.mono x2 Grow.refl).mono x3 Grow.refl
          obtain ⟨x4, s4⟩ := s3.put (u := .dK (putK kvs k v)) (o := .dic (putD ks k d)) hm hl3 fun H' e' x' => ⟨_, e', RepKV.put (RepKV.mono x' Grow.refl _ _ rv) (rd'.mono x' Grow.refl)⟩
          have eky := keyD_ok ri ek
          subst eky
          refine ⟨p, _, rfl, DPut.k h1 (by rw [rv.len, sizeLine_eq]; exact of_decide_eq_true hlt), ?_⟩
          exact q3 _ _ M Grow.refl x4 s4 ((((he.mono x1 Grow.refl).mono x2 Grow.refl).mono x3 Grow.refl).mono x4 Grow.refl)
        · exact q3.elim
  · exact q3.elim
end DL

set_option Elab.async false
set_option linter.all false
set_option maxRecDepth 100000
set_option maxHeartbeats 2000000
namespace DL
open PySem PySem.Spec L2 PyProof.Rows
/-! ### sorted keys -/
theorem cr_sortedDR {X : Cx} {b : Bool} (hcalm : X.calm = true) : CallRK X (.builtin "sorted") [Str.ofString "reverse"] (fun xs zs H Q => ∃ (a : Addr) (kvs : List (Key × V)) (ks : List Int), xs = [.ref a] ∧ zs = [.bl b] ∧ Rd H a (.dK kvs) ∧ kvs.map (·.1) = ks.map Sum.inl ∧ ks.length < 64 ∧
    ∀ (ys : List Int) (p : Addr), ys.Perm ks → OrdB b ys → H p = none → Q (.ref p) (upd H p (.lst (ys.map V.int)))) := by
  intro pins s σ H xs zs us ws Q I r rz ⟨a, kvs, ks, ex, ez, hd, hks, h64, q⟩
  subst ex; subst ez
  obtain rfl := Vals.ref1 r
  obtain ⟨w1, rfl, e1⟩ := vals1 rz
  obtain rfl : w1 = Value.bool b := e1
  obtain ⟨z, lo, vs, rel, dd⟩ := dk_rd I.hok hd; obtain ⟨ep, hat⟩ := dd.dictAt
  have hkeys : vs.map (·.1) = ks.map Sum.inl := rel.keys.symm.trans hks
  have hl : vs.length = ks.length := by
    have e := congrArg List.length hkeys; rwa [List.length_map, List.length_map] at e
  have h16 : vs.length ≤ sizeLine := by rw [hl, sizeLine_eq]; omega
  refine call_function_entry_kw kind_sorted plain_sorted entry_sorted (PyProof.Rows.args_sorted_rev _ _) ?_
  unfold Builtin.«sorted»
  refine wpAny_bind (m := checkCount "sorted" 1 1 _) (wpAny_pure (wpAny_bind (PySem.W.kdu_collect (A := X.A.in1) (PySem.W.kdl_dict (knd := mixKind X.prog X.w) (kvs := vs) (ep := ep) lo) (I.ok.hd hcalm) hat h16 fun h' tk acc hk hacc => ?_)))
  have hal : acc.toList.length = ks.length := by rw [Array.length_toList, hacc.1, hl]
  have hS : IntsAre acc.toList ks := ints_each hal fun j v e => by
    obtain ⟨k, x, e1, e2⟩ := hacc.2 j v (by rw [← Array.getElem?_toList]; exact e)
    have e3 : (ks.map Sum.inl)[j]? = some k := by rw [← hkeys, List.getElem?_map, e1]; rfl
    rw [List.getElem?_map] at e3
    cases e4 : ks[j]? with
    | none => rw [e4] at e3; cases e3
    | some y =>
      rw [e4] at e3
      have e5 : Sum.inl y = k := Option.some.inj e3
      subst e5
      rcases keyIs_shape (show keyIs (Sum.inl y) v = true from e2) with ⟨i, t, ek, ev⟩ | ⟨z, t, ek, ev⟩
      · cases ek; exact ⟨y, t, rfl, ev⟩
      · cases ek
  have I1 : Inv X pins σ H { s with heap := h', toks := tk } := I.kept hk
  have hz : acc.toList.length ≤ sizeLine := by rw [hal, sizeLine_eq]; omega
  refine wpAny_bind (wpAny_newList ?_ hz)
  have hoL : (h'.push (seqObj "list" acc.toList.toArray 0)).get? h'.objs.size = some (seqObj "list" acc.toList.toArray 0) := Heap.get?_push_size _ rfl
  show wpAny _ _ _ _ _ { s with heap := h'.push (seqObj "list" acc.toList.toArray 0), toks := tk }
  refine wpAny_bind (wpAny_holding (wpAny_call_entry_kw slot_list_sort ⟨_, hoL, rfl⟩ entry_list_sort (SrtR.list_sort_ordR (b := b) SrtO.swo_int hoL hz (fun h2 => SrtO.ints_sortable hS h2) fun out h1 h2 => ⟨_, rfl, ?_⟩) (PyProof.Rows.args_list_sort_rev _ _)))
  obtain ⟨ns', k1, k2, k3⟩ := SrtR.ints_outR hS h1 h2
  obtain ⟨e', he'⟩ := PyProof.Rows.sortedHeap_at (vs := acc.toList) (out := if b = true then out.toArray.reverse else out.toArray) hoL
  have hlen : (ns'.map V.int).length ≤ sizeLine := by rw [List.length_map, k2.length_eq]; exact Nat.le_trans (Nat.le_of_lt h64) (by decide)
  refine wpAny_pure ⟨_, rfl, .ref h'.objs.size, upd H h'.objs.size (.lst (ns'.map V.int)), I1.laid (t' := tk) (fun c u e => ?_) (Nat.le_refl _) (show ObjOk X.prog X.w _ _ _ (.lst (ns'.map V.int)) from ⟨hlen, _, e', vals_of_ints k1, by rw [Array.toArray_toList]; exact he'⟩), rfl, q ns' _ k2 k3 (I1.hok.fresh (Nat.le_refl _))⟩
  have hb : c < h'.objs.size := Heap.lt_size e
  rw [PyProof.Rows.sortedHeap_old (Nat.ne_of_lt hb) (by rw [size_push']; exact Nat.lt_succ_of_lt hb)]; exact Heap.get?_push_of_some _ e
/-! ### sorted ints as a function -/
def insI (x : Int) : List Int → List Int
  | [] => [x]
  | y :: l => if x ≤ y then x :: y :: l else y :: insI x l
def srtI : List Int → List Int
  | [] => []
  | x :: l => insI x (srtI l)
theorem insI_perm (x : Int) : ∀ l, (insI x l).Perm (x :: l)
  | [] => List.Perm.refl _
  | y :: l => by
    unfold insI
    split
    · exact List.Perm.refl _
    · exact ((insI_perm x l).cons y).trans (List.Perm.swap x y l)
theorem srtI_perm : ∀ l, (srtI l).Perm l
  | [] => List.Perm.refl _
  | x :: l => (insI_perm x _).trans ((srtI_perm l).cons x)
theorem insI_srt (x : Int) : ∀ l, l.Pairwise (· ≤ ·) → (insI x l).Pairwise (· ≤ ·)
  | [], _ => by simp [insI]
  | y :: l, h => by
    unfold insI
    rw [List.pairwise_cons] at h
    split
    · rename_i q
      refine List.pairwise_cons.mpr ⟨fun z hz => ?_, List.pairwise_cons.mpr h⟩
      rcases List.mem_cons.mp hz with rfl | hz
      · exact q
      · exact Int.le_trans q (h.1 z hz)
    · rename_i q
      refine List.pairwise_cons.mpr ⟨fun z hz => ?_, insI_srt x l h.2⟩
      rcases List.mem_cons.mp ((insI_perm x l).mem_iff.mp hz) with rfl | hz
      · omega
      · exact h.1 z hz
theorem srtI_srt : ∀ l, (srtI l).Pairwise (· ≤ ·)
  | [] => List.Pairwise.nil
  | x :: l => insI_srt x _ (srtI_srt l)
theorem srt_uniq : ∀ {l r : List Int}, l.Perm r → l.Pairwise (· ≤ ·) → r.Pairwise (· ≤ ·) → l = r
  | [], r, p, _, _ => by rw [List.Perm.nil_eq p]
  | x :: l, [], p, _, _ => by have := p.length_eq; simp at this
  | x :: l, y :: r, p, h, k => by
    rw [List.pairwise_cons] at h k
    have e : x = y := by
      have h1 : x ∈ y :: r := p.mem_iff.mp List.mem_cons_self
      have h2 : y ∈ x :: l := p.mem_iff.mpr List.mem_cons_self
      rcases List.mem_cons.mp h1 with q | q
      · exact q
      · rcases List.mem_cons.mp h2 with q2 | q2
        · exact q2.symm
        · have a1 := k.1 x q; have a2 := h.1 y q2; omega
    subst e
    rw [srt_uniq (List.Perm.cons_inv p) h.2 k.2]
def revI (b : Bool) (l : List Int) : List Int := if b = true then (srtI l).reverse else srtI l
theorem ord_uniq {b : Bool} {ys ks : List Int} (p : ys.Perm ks) (o : OrdB b ys) : ys = revI b ks := by
  cases b with
  | false => exact srt_uniq (p.trans (srtI_perm ks).symm) o (srtI_srt ks)
  | true =>
    have o' : ys.Pairwise (· ≥ ·) := o
    have h1 : ys.reverse.Pairwise (· ≤ ·) := by rw [List.pairwise_reverse]; exact o'
    have := srt_uniq ((List.reverse_perm ys).trans (p.trans (srtI_perm ks).symm)) h1 (srtI_srt ks)
    show ys = (srtI ks).reverse
    rw [← this, List.reverse_reverse]
def keysI : List (Key × D) → Option (List Int)
  | [] => some []
  | (.inl i, _) :: ks => (keysI ks).map (i :: ·)
  | (.inr _, _) :: _ => none
theorem keysI_ok : ∀ {ks : List (Key × D)} {is : List Int}, keysI ks = some is → ks.map (·.1) = is.map Sum.inl
  | [], _, e => by cases e; rfl
  | (.inl i, d) :: ks, is, e => by
    have e' : (keysI ks).map (i :: ·) = some is := e
    cases q : keysI ks with
    | none => rw [q] at e'; cases e'
    | some js => rw [q] at e'; cases e'; rw [List.map_cons, keysI_ok q]; rfl
  | (.inr _, _) :: _, _, e => by cases e
theorem rep_ints_new {K : PySem.W.Frag} {M : Mu} {H : Hp} {L : LH} (hs : Sim K M H L) {p : Addr} (hn : H p = none) (is : List Int) : Rep K M (upd H p (.lst (is.map V.int))) (.lst (is.map D.int)) (.ref p) :=
  ⟨p, _, rfl, upd_same, (nm_new hs hn).1, (nm_new hs hn).2, RepAll.of_ints is⟩
/-- sorted(d), the keys ints -/
def kSortD (b : Bool) : List D → LH → R D := fun ds L => match ds with
  | [d] => (match dictD L d with
    | some ks => (match keysI ks with
      | some is => if decide (is.length < 64) = true then .ok (.lst ((revI b is).map D.int)) L else .no
      | none => .no)
    | none => .no)
  | _ => .no
theorem kSortD_ok {b : Bool} {M : Mu} {H : Hp} {L : LH} {ds : List D} {xs : List V} {Q : VK} {w : WH} (hs : Sim S.K M H L) (ra : RepAll S.K M H ds xs) (hp : PostG S w M H (PV S M Q) (kSortD b ds L)) :
    ∃ (a : Addr) (kvs : List (Key × V)) (ks : List Int), xs = [.ref a] ∧ Rd H a (.dK kvs) ∧ kvs.map (·.1) = ks.map Sum.inl ∧ ks.length < 64 ∧ ∀ (ys : List Int) (p : Addr), ys.Perm ks → OrdB b ys → H p = none → Q (.ref p) (upd H p (.lst (ys.map V.int))) := by
  unfold kSortD at hp
  split at hp
  · rename_i d
    split at hp
    · rename_i ks e1
      split at hp
      · rename_i is e2
        split at hp
        · rename_i hl
          obtain ⟨v, rfl, r⟩ := ra.single
          obtain ⟨a, kvs, rfl, h, q⟩ := dictD_ok hs r e1
          refine ⟨a, kvs, is, rfl, h, q.keys.trans (keysI_ok e2), of_decide_eq_true hl, fun ys p pm o hn => ?_⟩
          rw [ord_uniq pm o]
          exact post_new hp hs hn _ (rep_ints_new hs hn _)
        · exact hp.elim
      · exact hp.elim
    · exact hp.elim
  · exact hp.elim
theorem de_sortD {es : List Expr} {e : Expr} {g : DA} (h : ∀ t, PA X es t → PE X e (tCB (fun xs H Q => ∃ (a : Addr) (kvs : List (Key × V)) (ks : List Int), xs = [.ref a] ∧ Rd H a (.dK kvs) ∧ kvs.map (·.1) = ks.map Sum.inl ∧ ks.length < 64 ∧ ∀ (ys : List Int) (p : Addr), ys.Perm ks → ys.Pairwise (· ≤ ·) → H p = none → Q (.ref p) (upd H p (.lst (ys.map V.int)))) t)) (ha : PA X es (tDA S W g)) : PE X e (tD S W (dL (kSortD false) g)) := pe_imp (h _ ha) (tDL fun M H L a x Q w hs ra hp => kSortD_ok (b := false) hs ra hp)
theorem de_sortDR {b : Bool} {es : List Expr} {e : Expr} {g : DA} {tk : TA} (htk : ∀ σ H (P : List V → Hp → Prop), P [.bl b] H → tk σ H P) (h : ∀ t, PA X es t → PE X e (tCKw (fun xs zs H Q => ∃ (a : Addr) (kvs : List (Key × V)) (ks : List Int), xs = [.ref a] ∧ zs = [.bl b] ∧ Rd H a (.dK kvs) ∧ kvs.map (·.1) = ks.map Sum.inl ∧ ks.length < 64 ∧ ∀ (ys : List Int) (p : Addr), ys.Perm ks → OrdB b ys → H p = none → Q (.ref p) (upd H p (.lst (ys.map V.int)))) t tk)) (ha : PA X es (tDA S W g)) : PE X e (tD S W (dL (kSortD b) g)) := pe_imp (h _ ha) fun σ H Q => by
  rintro ⟨env, L, M, he, hs, hp⟩
  refine ⟨env, L, M, he, hs, PostG.seq hp fun a L1 H1 x1 s1 q v ra => htk _ _ _ ?_⟩
  obtain ⟨c, kvs, ks, h1, h2⟩ := kSortD_ok s1 ra q
  exact ⟨c, kvs, ks, h1, rfl, h2⟩
end DL

set_option Elab.async false
set_option linter.all false
set_option maxRecDepth 100000
set_option maxHeartbeats 1000000
namespace DL
open PySem PySem.Spec L2
variable {S : Sg} {X : Cx} {W : St → WH}
/-! ### dict comprehensions -/
section
variable {K : PySem.W.Frag} {M : Mu} {H : Hp} {D0 : Addr} {o : HO}
mutual
theorem Rep.sealedK (hx : D0 ∈ M.x) (hl : ∃ ks, H D0 = some (.dK ks)) : ∀ (d : D) (v : V), Rep K M H d v → Rep K M (upd H D0 o) d v
  | .non, _, h => h
  | .bl _, _, h => h
  | .int _, _, h => h
  | .str _, _, h => h
  | .tup ds, _, ⟨a, vs, e1, h, r⟩ => by
    refine ⟨a, vs, e1, ?_, RepAll.sealedK hx hl ds vs r⟩
    rcases h with ⟨ob, h, d, n⟩ | h
    · obtain ⟨us, hd⟩ := hl
      exact .inl ⟨ob, (upd_ne (fun z => by rw [z, hd] at h; cases h)).trans h, d, n⟩
    · exact .inr h
  | .lst ds, _, ⟨a, vs, e1, h, n, n2, r⟩ => ⟨a, vs, e1, (upd_ne (fun z : a = D0 => n2 (by rw [z]; exact hx))).trans h, n, n2, RepAll.sealedK hx hl ds vs r⟩
  | .frl ds, _, ⟨a, vs, e1, h, r⟩ => by
    refine ⟨a, vs, e1, ?_, RepAll.sealedK hx hl ds vs r⟩
    rcases h with ⟨h, n, n2⟩ | h
    · have na : a ≠ D0 := fun z : a = D0 => n2 (by rw [z]; exact hx)
      refine .inl ⟨?_, n, n2⟩
      rcases h with h | ⟨ob, h⟩
      · exact .inl ((upd_ne na).trans h)
      · exact .inr ⟨ob, (upd_ne na).trans h⟩
    · exact .inr h
  | .dic ds, _, ⟨a, vs, e1, h, n, n2, r⟩ => ⟨a, vs, e1, h.elim (fun q => .inl ((upd_ne (fun z : a = D0 => n2 (by rw [z]; exact hx))).trans q)) (fun ⟨o, q⟩ => .inr ⟨o, (upd_ne (fun z : a = D0 => n2 (by rw [z]; exact hx))).trans q⟩), n, n2, RepKV.sealedK hx hl ds vs r⟩
  | .ref _, _, h => h
  | .obj _, _, h => h
theorem RepAll.sealedK (hx : D0 ∈ M.x) (hl : ∃ ks, H D0 = some (.dK ks)) : ∀ (ds : List D) (vs : List V), RepAll K M H ds vs → RepAll K M (upd H D0 o) ds vs
  | [], _, h => h
  | d :: ds, _, ⟨v, r, e1, h, t⟩ => ⟨v, r, e1, Rep.sealedK hx hl d v h, RepAll.sealedK hx hl ds r t⟩
theorem RepKV.sealedK (hx : D0 ∈ M.x) (hl : ∃ ks, H D0 = some (.dK ks)) : ∀ (ds : List (Key × D)) (vs : List (Key × V)), RepKV K M H ds vs → RepKV K M (upd H D0 o) ds vs
  | [], _, h => h
  | kd :: ds, _, ⟨v, r, e1, h, t⟩ => ⟨v, r, e1, Rep.sealedK hx hl kd.2 v h, RepKV.sealedK hx hl ds r t⟩
end
theorem Sim.sealedK {L : LH} (s : Sim K M H L) (hx : D0 ∈ M.x) (hm : D0 ∉ M.m) (hl : ∃ ks, H D0 = some (.dK ks)) : Sim K M (upd H D0 o) L :=
  ⟨s.len, s.nod, fun n a ob e1 e2 => by
    have ro := s.at_ n a ob e1 e2
    have na : a ≠ D0 := fun z => hm (z ▸ List.mem_of_getElem? e1)
    cases ob with
    | lst ds => obtain ⟨vs, q, r⟩ := ro; exact ⟨vs, (upd_ne na).trans q, RepAll.sealedK hx hl ds vs r⟩
    | dic ks => obtain ⟨vs, q, r⟩ := ro; exact ⟨vs, (upd_ne na).trans q, RepKV.sealedK hx hl ks vs r⟩, fun a ha => by
    by_cases z : a = D0
    · rw [z, upd_same]; exact fun z => nomatch z
    · rw [upd_ne z]; exact s.xs a ha⟩
end
def dcD (k : DG) (vs : List Nat) (t : DT) (ke e : DE) (env : DEnv) : List D → List (Key × D) → LH → R (List (Key × D))
  | [], ks, L => .ok ks L
  | d :: ds, ks, L => match k d (wipeD env vs) with
    | none => .no
    | some env1 => (noX (t env1 L)).bind fun b L1 => if b = true then (noX (ke env1 L1)).bind fun y L2 => (noX (e env1 L2)).bind fun z L3 => (match keyD y with
      | some ky => dcD k vs t ke e env ds (putD ks ky z) L3
      | none => .no) else dcD k vs t ke e env ds ks L1
def dDc (f : DI) (k : DG) (vs : List Nat) (t : DT) (ke e : DE) : DE := fun env L => (f env L).bind fun items L1 => if fits items.length then (dcD k vs t ke e env items [] L1).bind fun ks L2 => .ok (.dic ks) L2 else .no
theorem length_putD (ks : List (Key × D)) (k : Key) (d : D) : (putD ks k d).length ≤ ks.length + 1 := by
  unfold putD; split <;> simp
theorem dc_it {J : It} {n : Nat} {G : Hp → Prop} {Y : Nat → Hp → V → Hp → Prop} (w : Walk J n G Y) {g : TG} {tt : TT} {tk te : TE} {vs : List Nat} {σ : St} {H1 : Hp} {D : Addr} {Qd : Hp → Prop} (Pv : Nat → Hp → Prop) (h0 : Pv 0 (upd H1 D (.dK []))) (hG : ∀ i H, i ≤ n → Pv i H → G H)
    (hs : ∀ i x H H', i < n → Pv i H → Y i H x H' → g x (wipe σ vs) H' fun σ2 H2 => wipe σ2 vs = wipe σ vs ∧ tt σ2 H2 fun b H3 =>
      if b = true then tk σ2 H3 fun y H4 => te σ2 H4 fun z H5 => ∃ kvs k, y = kV k ∧ H5 D = some (.dK kvs) ∧ kvs.length < sizeLine ∧ Pv (i + 1) (upd H5 D (.dK (putK kvs k z))) else Pv (i + 1) H3) (hd : ∀ H, Pv n H → Qd H) :
    ∃ W : Nat → Nat → Hp → Prop, (∃ m, W 0 m (upd H1 D (.dK []))) ∧ ∀ i m H, W i m H → (J.stop i H ∧ Qd H) ∨ (J.go i H ∧ ∃ Nx : Hp → Prop, (∀ H', Nx H' → ∃ m', m' < m ∧ W (i + 1) m' H') ∧ ∀ x H', J.yld i H x H' → g x (wipe σ vs) H' fun σ2 H2 => wipe σ2 vs = wipe σ vs ∧ tt σ2 H2 fun b H3 =>
        if b = true then tk σ2 H3 fun y H4 => te σ2 H4 fun z H5 => ∃ kvs k, y = kV k ∧ H5 D = some (.dK kvs) ∧ kvs.length < sizeLine ∧ Nx (upd H5 D (.dK (putK kvs k z))) else Nx H3) := by
  refine ⟨fun i m H => m = n - i ∧ i ≤ n ∧ Pv i H, ⟨n, by simp, Nat.zero_le _, h0⟩, fun i m H ⟨hm, hi, p⟩ => ?_⟩
  subst hm
  by_cases hlt : i < n
  · exact .inr ⟨w.goes i H hlt (hG i H hi p), Pv (i + 1), fun H' p' => ⟨n - (i + 1), by omega, rfl, hlt, p'⟩, fun x H' y => hs i x H H' hlt p (w.yields i H x H' hlt (hG i H hi p) y)⟩
  · obtain rfl : i = n := by omega
    exact .inl ⟨w.stops H (hG i H hi p), hd H p⟩
theorem dc_imp {f : DI} {k : DG} {vs : List Nat} {t : DT} {ke e : DE} {g : TG} (hg : DoesGV S vs g k) (σ : St) (H : Hp) (Q : VK) : tD S W (dDc f k vs t ke e) σ H Q → tDc (tI S W f) g (tT S WF t) (tD S WF ke) (tD S WF e) vs σ H Q := by
  rintro ⟨env, L, M, he, hs, hp⟩
  refine ⟨env, L, M, he, hs, PostG.seq hp fun items L1 H1 x1 s1 q J G Y io D0 hn => ?_⟩
  split at q
  case isFalse => exact q.elim
  rename_i hfit
  have he1 := he.mono x1 Grow.refl
  have dm := (nm_new s1 hn).1
  have dx := (nm_new s1 hn).2
  have sM : Sim S.K ⟨M.m, D0 :: M.x⟩ (upd H1 D0 (.dK [])) L1 := s1.make hn
  refine dc_it io.w (fun i H' => i ≤ items.length ∧ ∃ L' acc ks, Ext M.m H1 H' ∧ Sim S.K ⟨M.m, D0 :: M.x⟩ H' L' ∧ H' D0 = some (.dK acc) ∧ RepKV S.K ⟨M.m, D0 :: M.x⟩ H' ks acc ∧ ks.length ≤ i ∧
      PostG S (W σ) M H1 (PV S M Q) ((dcD k vs t ke e env (items.drop i) ks L').bind fun ks L2 => .ok (.dic ks) L2)) ⟨Nat.zero_le _, L1, [], [], Ext.new hn, sM, upd_same, rfl, Nat.le_refl _, q⟩
    (fun i H' _ ⟨_, L', acc, ks, x, s, hD, r, _, p⟩ => io.g ⟨M.m, D0 :: M.x⟩ H' (Grow.make hn) x) ?_ ?_
  · rintro i v H' H'' hi ⟨_, L', acc, ks, x, s, hD, r, hacc, p⟩ y
    obtain ⟨x2, s2, d, ed, rd⟩ := io.y ⟨M.m, D0 :: M.x⟩ H' L' i v H'' (Grow.make hn) x s hi y
    have hd : items.drop i = d :: items.drop (i + 1) := by
      rw [List.drop_eq_getElem_cons hi, (List.getElem?_eq_some_iff.mp ed).2]
    rw [hd] at p
    unfold dcD at p
    have heM : EnvR S.K ⟨M.m, D0 :: M.x⟩ H'' env σ := he1.mono (x.trans x2) (Grow.make hn)
    cases ek : k d (wipeD env vs) with
    | none => rw [ek] at p; exact p.elim
    | some env1 =>
      rw [ek] at p
      simp only at p
      refine hg ⟨M.m, D0 :: M.x⟩ H'' L' d v _ env1 _ _ s2 rd (wipe_env heM vs) ek fun σ2 e2 ew => ⟨by rw [ew, wipe_wipe _ _ (fun i hi => hi)], ?_⟩
      refine ⟨env1, L', ⟨M.m, D0 :: M.x⟩, e2, s2, ?_⟩
      cases et : t env1 L' with
      | exc ex L2 => rw [et] at p; exact p.elim
      | no => rw [et] at p; exact p.elim
      | ok b L2 =>
        rw [et] at p
        intro H3 x3 s3
        have xx : Ext M.m H1 H3 := (x.trans x2).trans x3
        have hD3 : H3 D0 = some (.dK acc) := x3.keep D0 _ dm (x2.keep D0 _ dm hD (fun ps z => nomatch z)) (fun ps z => nomatch z)
        have r3 := RepKV.mono (x2.trans x3) Grow.refl ks acc r
        show if b = true then _ else _
        cases b with
        | false =>
          rw [if_neg Bool.false_ne_true]
          exact ⟨hi, L2, acc, ks, xx, s3, hD3, r3, by omega, p⟩
        | true =>
          rw [if_pos rfl]
          refine ⟨env1, L2, ⟨M.m, D0 :: M.x⟩, e2.mono x3 Grow.refl, s3, ?_⟩
          have p1 : PostG S (W σ) M H1 (PV S M Q) (((DL.noX (ke env1 L2)).bind fun y L3 => (DL.noX (e env1 L3)).bind fun z L4 => (match keyD y with | some ky => dcD k vs t ke e env (items.drop (i + 1)) (putD ks ky z) L4 | none => .no)).bind fun ks L2 => .ok (.dic ks) L2) := p
          cases eke : ke env1 L2 with
          | exc ex L3 => rw [eke] at p1; exact p1.elim
          | no => rw [eke] at p1; exact p1.elim
          | ok dy L3 =>
            rw [eke] at p1
            intro H4 x4 s4 y4 ry
            refine ⟨env1, L3, ⟨M.m, D0 :: M.x⟩, (e2.mono x3 Grow.refl).mono x4 Grow.refl, s4, ?_⟩
            have p2 : PostG S (W σ) M H1 (PV S M Q) (((DL.noX (e env1 L3)).bind fun z L4 => (match keyD dy with | some ky => dcD k vs t ke e env (items.drop (i + 1)) (putD ks ky z) L4 | none => .no)).bind fun ks L2 => .ok (.dic ks) L2) := p1
            cases ee : e env1 L3 with
            | exc ex L4 => rw [ee] at p2; exact p2.elim
            | no => rw [ee] at p2; exact p2.elim
            | ok dz L4 =>
              rw [ee] at p2
              intro H5 x5 s5 z5 rz
              have p3 : PostG S (W σ) M H1 (PV S M Q) ((match keyD dy with | some ky => dcD k vs t ke e env (items.drop (i + 1)) (putD ks ky dz) L4 | none => .no).bind fun ks L2 => .ok (.dic ks) L2) := p2
              cases eky : keyD dy with
              | none => rw [eky] at p3; exact p3.elim
              | some ky =>
                rw [eky] at p3
                have hD5 : H5 D0 = some (.dK acc) := x5.keep D0 _ dm (x4.keep D0 _ dm hD3 (fun ps z => nomatch z)) (fun ps z => nomatch z)
                have r5 := RepKV.mono (x4.trans x5) Grow.refl ks acc r3
                have xx5 := (xx.trans x4).trans x5
                refine ⟨acc, ky, keyD_ok ry eky, hD5, ?_, hi, L4, putK acc ky z5, putD ks ky dz, ⟨fun b o nb hb ht => ?_, fun b hb => ?_⟩, s5.sealedK List.mem_cons_self dm ⟨acc, hD5⟩, upd_same, RepKV.put (RepKV.sealedK List.mem_cons_self ⟨acc, hD5⟩ ks acc r5) (Rep.sealedK List.mem_cons_self ⟨acc, hD5⟩ dz z5 rz), ?_, p3⟩
                · have := fits_ok hfit
                  have := r5.len
                  omega
                · rw [upd_ne (fun z => by rw [z, hn] at hb; cases hb)]
                  exact xx5.keep b o nb hb ht
                · rw [upd_ne (fun z => hb (by rw [z]; exact hn))]
                  exact xx5.live b hb
                · have := length_putD ks ky dz
                  omega
  · rintro H' ⟨_, L', acc, ks, x, s, hD, r, hacc, p⟩
    rw [List.drop_length] at p
    exact p H' x (Sim.lessx (y := [D0]) s) _ ⟨D0, acc, rfl, .inl hD, dm, dx, RepKV.lessx (y := [D0]) ks acc r⟩
theorem de_dc {e0 : Expr} {f : DI} {k : DG} {vs : List Nat} {t : DT} {ke e : DE} {g : TG} (h : PE X e0 (tDc (tI S W f) g (tT S WF t) (tD S WF ke) (tD S WF e) vs)) (hg : DoesGV S vs g k) : PE X e0 (tD S W (dDc f k vs t ke e)) := pe_imp h (dc_imp hg)
end DL

set_option Elab.async false
set_option linter.all false
set_option maxRecDepth 100000
set_option maxHeartbeats 1000000
namespace DL
open PySem PySem.Spec L2 PyProof.Rows
/-! ### max of a list or of a tuple of ints -/
section
variable {prog : Program} {w : World} {A : Around} {E : Value → Shared → Prop} {s : Shared} {l : Addr}
theorem max_tup {xs : Array (Int × Tok)} {Q : Value → Shared → Prop} (hh : A.handled = none) (hT : s.heap.IsTuple l (intItems xs)) (hne : 0 < xs.size)
    (h : ∀ v h' tk, (intItems xs)[argBest (fun i j => decide (numAt xs i > numAt xs j)) (xs.size - 1)]? = some v → (∀ b o, s.heap.get? b = some o → h'.get? b = some o) → Q v { s with heap := h', toks := tk }) : wpAny (model prog w) A (call (.builtin "max") [.ref l]) Q E s := by
  have hlt : l < s.heap.objs.size := by obtain ⟨_, e, _⟩ := hT; exact Heap.lt_size e
  refine call_max_walk (wpAny_pyIter_tuple hT ?_)
  refine ⟨_, [_, l], [_], _, _, _, _, rfl, Walks.tuple (A := A.in1) hh _ l (Nat.ne_of_lt hlt) (intItems xs), ⟨⟨_, Heap.get?_push_size _ rfl, rfl, rfl⟩, hT.push _⟩, fun c hc => ?_, by simpa [intItems] using hne, CmpOf.ints_gt (numAt xs) (fun _ _ => intItems_at), fun v h' tk hP hk => h v h' tk (by simpa [intItems] using hP) fun b o e => hk b o (fun hm => ?_) (Heap.get?_push_of_some _ e)⟩
  · show c < (s.heap.push _).objs.size
    rw [Heap.size_push]
    rcases List.mem_cons.mp hc with rfl | hc
    · exact Nat.lt_succ_self _
    · rw [List.mem_singleton.mp hc]; exact Nat.lt_succ_of_lt hlt
  · rw [List.mem_singleton.mp hm] at e; exact absurd (Heap.lt_size e) (Nat.lt_irrefl _)
theorem max_rawT {its : List Value} {ns : List Int} {Q : Value → Shared → Prop} (hh : A.handled = none) (hl : s.heap.IsTuple l its.toArray) (hi : IntsAre its ns) (hne : 0 < ns.length)
    (h : ∀ h' tk M t', (∀ b o, s.heap.get? b = some o → h'.get? b = some o) → M ∈ ns → (∀ a, a ∈ ns → a ≤ M) → Q (.int M t') { s with heap := h', toks := tk }) : wpAny (model prog w) A (call (.builtin "max") [.ref l]) Q E s := by
  obtain ⟨xs, e⟩ := hi.allInts.items
  have hn : numsOf (intItems xs).toList = ns := by rw [← e]; exact hi.numsOf
  rw [nums_intItems] at hn; subst hn
  rw [e] at hl
  have hsz : 0 < xs.size := by simpa using hne
  refine max_tup hh hl hsz fun v h' tk hv hk => ?_
  obtain ⟨t, rfl⟩ := intItems_at hv
  obtain ⟨h1, h2⟩ := argBest_gt (numAt xs) (xs.size - 1)
  refine h h' tk _ t hk (by rw [numAt_eq]; exact PySem.getD_mem (by rw [List.length_map, Array.length_toList]; omega)) fun a ha => ?_
  obtain ⟨j, hj, rfl⟩ := mem_getD ha
  rw [List.length_map, Array.length_toList] at hj; rw [← numAt_eq]; exact h2 j (by omega)
end
def rMaxT (K : PySem.W.Frag) : List V → Hp → VK → Prop := fun vs H Q => ∃ (a : Addr) (ns : List Int), vs = [V.ref a] ∧ SqT K H a (ns.map V.int) ∧ 0 < ns.length ∧ ∀ m, m ∈ ns → (∀ y, y ∈ ns → y ≤ m) → Q (.int m) H
theorem cr_maxT {X : Cx} (hc : X.calm = true) : CallR X (.builtin "max") (rMaxT X.K) := by
  intro pins s σ H vs us Q I r ⟨a, ns, e, hs, hne, q⟩
  subst e
  obtain ⟨its, rv, ⟨o, ho, hcl, n, hd⟩, _⟩ := I.tuple hs
  rw [Vals.ref1 r]
  exact max_rawT (I.ok.hd hc) ⟨o, ho, hcl, n, hd⟩ rv.ints hne fun h' tk m t' hk h1 h2 => ⟨.int _, H, I.kept hk, ⟨_, rfl⟩, q m h1 h2⟩
def maxI : List Int → Int
  | [] => 0
  | [x] => x
  | x :: l => if maxI l > x then maxI l else x
theorem maxI_ok : ∀ {l : List Int}, l ≠ [] → maxI l ∈ l ∧ ∀ y ∈ l, y ≤ maxI l
  | [], h => absurd rfl h
  | [x], _ => ⟨by simp [maxI], fun y hy => by rw [List.mem_singleton.mp hy]; exact Int.le_refl _⟩
  | x :: z :: l, _ => by
    obtain ⟨h1, h2⟩ := maxI_ok (l := z :: l) (by simp)
    show (if maxI (z :: l) > x then maxI (z :: l) else x) ∈ _ ∧ ∀ y ∈ _, y ≤ (if maxI (z :: l) > x then maxI (z :: l) else x)
    split
    · rename_i q
      exact ⟨List.mem_cons_of_mem _ h1, fun y hy => by
        rcases List.mem_cons.mp hy with rfl | hy
        · omega
        · exact h2 y hy⟩
    · rename_i q
      exact ⟨List.mem_cons_self, fun y hy => by
        rcases List.mem_cons.mp hy with rfl | hy
        · exact Int.le_refl _
        · have := h2 y hy; omega⟩
def kMax : List D → LH → R D := fun ds L => match ds with
  | [d] => (match seqD L d with
    | some (_, xs) => (match intsD xs with
      | some (i :: is) => .ok (.int (maxI (i :: is))) L
      | _ => .no)
    | none => .no)
  | _ => .no
variable {S : Sg}
theorem does_max : DoesL S (rOrL (rMax S.K) (rMaxT S.K)) kMax := by
  intro M H L a x Q w hs ra hp
  unfold kMax at hp
  split at hp
  · rename_i d
    split at hp
    · rename_i b xs e
      split at hp
      · rename_i i is e2
        obtain ⟨v, rfl, r⟩ := ra.single
        obtain ⟨p, vs, rfl, h, q⟩ := seqD_ok hs r e
        have ei := intsD_ok e2
        subst ei
        have ev := RepAll.ints q
        subst ev
        obtain ⟨h1, h2⟩ := maxI_ok (l := i :: is) (by simp)
        have fin : ∀ m, m ∈ i :: is → (∀ y, y ∈ i :: is → y ≤ m) → Q (.int m) H := fun m hm hy => by
          have : m = maxI (i :: is) := Int.le_antisymm (h2 m hm) (hy _ h1)
          subst this
          exact hp H Ext.refl hs _ rfl
        cases b with
        | true => exact .inr ⟨p, i :: is, rfl, h, by simp, fin⟩
        | false => exact .inl ⟨p, i :: is, rfl, h, by simp, fin⟩
      · exact hp.elim
    · exact hp.elim
  · exact hp.elim
end DL

set_option Elab.async false
set_option linter.all false
set_option maxRecDepth 100000
set_option maxHeartbeats 1000000
namespace DL
open PySem PySem.Spec L2 PyProof.Rows
variable {S : Sg} {X : Cx} {W : L2.St → WH}
/-! ### f(g(..)), g handing back a new list into which f stores -/
def dCallNew (F : List D → LH → R D) (f : DF) : DE := fun env L => (f env L).bind fun ds L1 => match F [.ref L1.length] (L1 ++ [.lst ds]) with
  | .ok d L2 => leave L1 L2 d
  | .exc e L2 => leaveX L1 L2 e
  | .no => .no
theorem de_callNew {F : List D → LH → R D} {x : Str} {e : Expr} {f : DF} {p pos : Pos} (hc : ∀ t, PA X [e] t → PE X (.Call (.Name x p) [e] [] pos) (tCallS (spD S 1 F) W t)) (hf : PE X e (tF S W f)) (hpa : PE X e (tF S W f) → PA X [e] (tCons (tF S W f) tNil)) : PE X (.Call (.Name x p) [e] [] pos) (tD S W (dCallNew F f)) := pe_imp (hc _ (hpa hf)) fun σ H Q => by
  rintro ⟨env, L, M, he, hs, hp⟩
  refine ⟨env, L, M, he, hs, PostG.seq hp fun ds L1 H1 x1 s1 q vs a hn r => ?_⟩
  obtain ⟨g, s2⟩ := s1.add hn r
  refine ⟨[.ref L1.length], L1 ++ [.lst ds], ⟨M.m ++ [a], M.x⟩, rfl, ⟨.ref a, [], rfl, ⟨a, rfl, ?_⟩, rfl⟩, s2, ?_⟩
  · show (M.m ++ [a])[L1.length]? = some a
    rw [← s1.len]; simp
  · revert q
    cases F [.ref L1.length] (L1 ++ [.lst ds]) with
    | ok d L2 => exact fun q H' x' s' v rv => leave_ok (P := fun _ _ _ => True) g ((Ext.new hn).over g x') s1 s' q rv
    | exc ex L2 => exact fun q c dd H' x' s' z => leaveX_ok g ((Ext.new hn).over g x') s1 s' q z
    | no => exact fun q => q
/-! ### x.extend(e) -/
def kExtend (a b : D) (L : LH) : R D := match a with
  | .ref n => (match L[n]?, b with
    | some (.lst ds), .lst es => if fits (ds.length + es.length) then .ok .non (L.set n (.lst (ds ++ es))) else .no
    | _, _ => .no)
  | _ => .no
def dExtend (f g : DE) : DE := fun env L => (f env L).bind fun a L1 => if isRefL a L1 then (g env L1).bind fun b L2 => kExtend a b L2 else .no
theorem de_extend {o e : Expr} {f g : DE} {pos apos : Pos} (h : ∀ to t, PE X o to → PA X [e] t → PE X (.Call (.Attribute o "extend" apos) [e] [] pos) (tBM X.K "list" rExtend to t)) (ho : PE X o (tD S W f)) (he : PA X [e] (tDA S W (daCons g daNil))) :
    PE X (.Call (.Attribute o "extend" apos) [e] [] pos) (tD S W (dExtend f g)) := pe_imp (h _ _ ho he) fun σ H Q => by
  rintro ⟨env, L, M, he, hs, hp⟩
  refine ⟨env, L, M, he, hs, PostG.seq hp fun a L1 H1 x1 s1 q x ra => ?_⟩
  split at q
  · rename_i er
    obtain ⟨n, p, ds0, vs0, rfl, rfl, hm, el0, h0, _⟩ := isRefL_ok s1 ra er
    refine ⟨Or.inl ⟨rfl, _, Or.inl (Or.inl h0)⟩, tDA_one (he.mono x1 Grow.refl) s1 q fun b L2 H2 y x2 s2 ry q2 => ?_⟩
    unfold kExtend at q2
    cases el : L2[n]? with
    | none => simp only [el] at q2; exact q2.elim
    | some o =>
      cases o with
      | dic ds => simp only [el] at q2; exact q2.elim
      | lst ds =>
        cases b with
        | lst es =>
          simp only [el] at q2
          split at q2
          · rename_i hf
            obtain ⟨vs, h1, rv⟩ := s2.at_ n p _ hm el
            obtain ⟨pb, us, rfl, hb, _, _, rb⟩ := ry
            have hl2 : n < L2.length := (List.getElem?_eq_some_iff.mp el).1
            obtain ⟨x3, s3⟩ := s2.put (u := .lst (vs ++ us)) (o := .lst (ds ++ es)) hm hl2 fun H' e' x' => ⟨_, e', (RepAll.mono x' Grow.refl _ _ rv).app (RepAll.mono x' Grow.refl _ _ rb)⟩
            exact ⟨p, pb, vs, us, rfl, rfl, h1, hb, by rw [rv.len, rb.len, sizeLine_eq]; exact of_decide_eq_true hf, q2 _ x3 s3 _ rfl⟩
          · exact q2.elim
        | _ => simp only [el] at q2; exact q2.elim
  · exact q.elim
/-! ### t.index(i) of a tuple of ints -/
theorem mt_tup_indexI : MtR X "tuple.index" (fun x xs H Q => ∃ (p : Addr) (ys : List Int) (z : Int) (j : Nat), x = .ref p ∧ xs = [.int z] ∧ SqT X.K H p (ys.map V.int) ∧ ys[j]? = some z ∧ (∀ m, m < j → ys[m]? ≠ some z) ∧ Q (.int (j : Nat)) H) := by
  intro pins s σ H x xs v us Q I rx rs ⟨p, ys, z, j, ex, exs, hq, hy, hno, q⟩
  subst ex; subst exs
  cases rx
  obtain ⟨u, rfl, t, rfl⟩ := vals1 rs
  obtain ⟨its, r, ⟨⟨cls, dd, dt, sl⟩, ho, hc, n, hd⟩, hz⟩ := I.tuple hq
  simp only at hc hd; subst hc; subst hd
  have hl : its.toArray.size = ys.length := by rw [List.size_toArray, ← r.length, List.length_map]
  have hj : j < its.toArray.size := by rw [hl]; exact (List.getElem?_eq_some_iff.mp hy).1
  have at' : ∀ (m : Nat) (hm : m < its.toArray.size), ∃ y t', ys[m]? = some y ∧ its.toArray[m] = Value.int y t' := fun m hm => by
    have hm' : m < ys.length := by rw [← hl]; exact hm
    obtain ⟨w, hw, t', hw'⟩ := r.get (i := m) (x := .int ys[m]) (by simp [hm'])
    refine ⟨ys[m], t', List.getElem?_eq_getElem hm', ?_⟩
    have e := (List.getElem?_eq_some_iff.mp hw).2; rw [← hw', ← e]; simp
  have flat : (ys.map V.int).all flatV = true := by rw [List.all_map]; exact List.all_eq_true.mpr fun _ _ => rfl
  refine call_meets PySem.F.slot_tuple_index ⟨_, ho, rfl⟩ PySem.F.entry_tuple_index (PySem.F.args_tuple_index_2 _ _) (TI.tuple_indexAt p its.toArray n dd sl (.int z t) (eqU (.int z)) j hj ?_ ?_) ⟨ho, fun w hw => mem_eqAt (x := .int z) ⟨t, rfl⟩ rfl r flat w (by simpa using hw), ⟨.int (j : Nat), H, I.tok _, ⟨_, rfl⟩, q⟩⟩
  · obtain ⟨y, t', e1, e2⟩ := at' j hj
    rw [e2]; rw [hy] at e1; cases e1
    rw [eqU_of (x := .int z) (y := .int z) ⟨t', rfl⟩ rfl]
    show (z == z) = true
    simp
  · intro m hm hmj
    obtain ⟨y, t', e1, e2⟩ := at' m hm; rw [e2, eqU_of (x := .int z) (y := .int y) ⟨t', rfl⟩ rfl]
    have := hno m hmj
    rw [e1] at this
    show (y == z) = false
    simp; exact fun e => this (by rw [e])
end DL

set_option Elab.async false
set_option linter.all false
set_option maxRecDepth 100000
set_option maxHeartbeats 2000000
namespace DL
open PySem PySem.Spec L2 PyProof.Rows HT
/-! ### slices with a step -/
section
variable {prog : Program} {w : World} {A : Around} {E : Value → Shared → Prop} {s : Shared}
theorem sliceApplied_rev {sl : Addr} {vs : Value} {n : Nat} {Q : Int × Int × Nat → Shared → Prop} (hs : s.heap.IsSliceOf sl .none .none vs) (ps : IsPart vs (some (-1))) (h : Q ((n : Int) - 1, -1, n) s) : wpAny (model prog w) A (Builtin.Slice.sliceApplied (.ref sl) (pure (n : Int))) Q E s := by
  obtain ⟨os, hos, hcs, hds⟩ := id hs
  unfold Builtin.Slice.sliceApplied Builtin.Slice.sliceFields
  refine wpAny_bind (wpAny_bind (wpAny_field hos hds (x := .none) rfl (wpAny_bind (wpAny_field hos hds (x := .none) rfl (wpAny_bind (wpAny_field hos hds (x := vs) rfl (wpAny_pure (wpAny_bind (slicePart_ ps ?_)))))))))
  show wpAny _ _ (if ((-1 : Int) == 0) = true then _ else _) _ _ s
  rw [if_neg (by decide)]
  refine wpAny_bind (slicePart_none (wpAny_bind (slicePart_none (wpAny_bind (wpAny_pure (wpAny_pure ?_))))))
  have e : Builtin.Slice.slicePlaces ((n : Int) - 1) (-1) (-1) = n := by
    unfold Builtin.Slice.slicePlaces
    rw [if_neg (by decide)]
    by_cases z : ((n : Int) - 1) > -1
    · rw [if_pos z]; simp
    · rw [if_neg z]; omega
  show Q ((n : Int) - 1, -1, Builtin.Slice.slicePlaces ((n : Int) - 1) (-1) (-1)) s
  rw [e]; exact h
theorem fm_congr {α β : Type} {f g : α → Option β} : ∀ {l : List α}, (∀ x ∈ l, f x = g x) → l.filterMap f = l.filterMap g
  | [], _ => rfl
  | x :: l, h => by
    rw [List.filterMap_cons, List.filterMap_cons, h x (by simp), fm_congr (l := l) fun y hy => h y (by simp [hy])]
theorem pick_rev (xs : Array Value) : ((List.range xs.size).filterMap fun (m : Nat) => xs[(((xs.size : Int) - 1) + (m : Int) * (-1)).toNat]?).toArray = xs.toList.reverse.toArray := by
  have key : ∀ (l : List Value), ((List.range l.length).filterMap fun (m : Nat) => l[(((l.length : Int) - 1) + (m : Int) * (-1)).toNat]?) = l.reverse := by
    intro l
    have e : ((List.range l.length).filterMap fun (m : Nat) => l[(((l.length : Int) - 1) + (m : Int) * (-1)).toNat]?) = (List.range l.length).map fun m => l[l.length - 1 - m]?.getD .none := by
      rw [← List.filterMap_eq_map]
      refine fm_congr fun m hm => ?_
      have hm' : m < l.length := List.mem_range.mp hm
      have h2 : (((l.length : Int) - 1) + (m : Int) * (-1)).toNat = l.length - 1 - m := by omega
      show _ = some (l[l.length - 1 - m]?.getD Value.none)
      rw [h2, List.getElem?_eq_getElem (show l.length - 1 - m < l.length by omega)]; rfl
    rw [e]
    refine List.ext_getElem (by simp) fun i h1 h2 => ?_
    rw [List.length_map, List.length_range] at h1
    rw [List.getElem_map, List.getElem_range, List.getElem_reverse, List.getElem?_eq_getElem (show l.length - 1 - i < l.length by omega)]; rfl
  have := key xs.toList
  rw [Array.length_toList] at this
  rw [← this]
  simp
theorem getItem_tuple_rev {t sl : Addr} {items : Array Value} {vs : Value} {Q : Value → Shared → Prop} (ht : IsTup s.heap t items) (hs : s.heap.IsSliceOf sl .none .none vs) (ps : IsPart vs (some (-1)))
    (h : Q (.ref s.heap.objs.size) { s with heap := s.heap.push { cls := .type "tuple", data := .seq items.toList.reverse.toArray } }) (hsz : items.size ≤ sizeLine) : wpAny (model prog w) A (getItem (.ref t) (.ref sl)) Q E s := by
  have htake : sizeOk (.seq items.toList.reverse.toArray) := by
    show items.toList.reverse.toArray.size ≤ sizeLine
    rw [List.size_toArray, List.length_reverse, Array.length_toList]; exact hsz
  obtain ⟨os, hos, hcs, hds⟩ := id hs
  have hTs : s.TypeIs (.ref sl) "slice" := ⟨os, hos, hcs⟩
  unfold getItem
  try with_reducible refine wpAny_holding ?_
  first | refine wpAny_bind (wpAny_pure ?_) | skip
  refine wpAny_bind (wpAny_sequenceKey ht.typeIs (by decide) (wpAny_bind (wpAny_callSpecial?_slot (name := Str.ofString "__getitem__") ht.typeIs PyProof.Rows.slot_tuple_getitem (wpAny_call_entry PyProof.Rows.slot_tuple_getitem ht.typeIs entry_tuple_getitem ?_ (args_tuple_getitem _ _)))))
  show wpAny _ _ (Builtin.Tuple.tupleItemsOf (.ref t) >>= _) _ _ s
  refine wpAny_bind (tupleItemsOf_ ht (wpAny_bind (wpAny_typeOf hTs ?_)))
  rw [if_pos (by decide)]
  refine wpAny_bind (sliceApplied_rev hs ps ?_)
  have hno : ¬ ((((items.size : Int) - 1) == 0 && (-1 : Int) == 1 && items.size == items.size) = true) := by simp
  show wpAny _ _ (if ((((items.size : Int) - 1) == 0 && (-1 : Int) == 1 && items.size == items.size)) = true then _ else _) _ _ s
  rw [if_neg hno, pick_rev]
  first
    | exact wpAny_bind (m := Builtin.Tuple.tupleExact _) (wpAny_newObj_type (wpAny_pure ⟨_, rfl, wpAny_pure h⟩) htake) | exact wpAny_bind (m := Builtin.Tuple.tupleExact _) (wpAny_newObj_type (wpAny_bind (wpAny_pure (wpAny_pure ⟨_, rfl, wpAny_pure h⟩))) htake)
    | exact wpAny_bind (wpAny_bind (m := Builtin.Tuple.tupleExact _) (wpAny_newObj_type (wpAny_pure (wpAny_pure ⟨_, rfl, wpAny_pure h⟩)) htake)) | exact wpAny_bind (wpAny_bind (m := Builtin.Tuple.tupleExact _) (wpAny_newObj_type (wpAny_pure ⟨_, rfl, wpAny_pure h⟩) htake))
end
def tRevT (K : PySem.W.Frag) (te : TE) : TE := fun σ H Q => te σ H fun x H1 => ∃ a xs, x = .ref a ∧ SqT K H1 a xs ∧ ∀ p (o : Obj), H1 p = none → o.dict = none → Q (.ref p) (upd H1 p (.frz o (.tup xs.reverse)))
variable {S : Sg} {X : Cx} {W : L2.St → WH}
theorem pe_revT {e : Expr} {te : TE} {k : Nat} {p1 p2 p3 pos : Pos} (he : PE X e te) : PE X (.Subscript e (.Slice none none (some (.UnaryOp .USub (.Constant (.int 1) k p1) p2)) p3) pos) (tRevT X.K te) := by
  refine ⟨fun pins s σ H Q I h => Subscript_ (thn (he.run pins s σ H _ I h) fun v s1 ⟨x, H1, I1, r1, a, xs, ex, hx, q⟩ => ?_)⟩
  subst ex; cases r1
  have hst : PO X (some (.UnaryOp .USub (.Constant (.int 1) k p1) p2)) (tPart (tUn (rU fun i => .int (-i)) (tC (.int 1)))) := po_some (pe_un un_neg pe_int)
  refine wpAny_Slice (thn (po_none.run pins s1 σ H1 (fun o H2 => o = none ∧ H2 = H1) I1 ⟨rfl, rfl⟩) fun vl s2 ⟨l, H2, I2, pl, el, e2⟩ => ?_)
  subst el; subst e2
  refine thn (po_none.run pins s2 σ H2 (fun o H3 => o = none ∧ H3 = H2) I2 ⟨rfl, rfl⟩) fun vu s3 ⟨u, H3, I3, pu, eu, e3⟩ => ?_
  subst eu; subst e3
  refine thn (hst.run pins s3 σ H3 (fun o H4 => o = some (-1) ∧ H4 = H3) I3 ⟨1, rfl, -1, rfl, rfl, rfl⟩) fun vs s4 ⟨o, H4, I4, ps, eo, e4⟩ => ?_
  subst eo; subst e4
  have I5 : Inv X pins σ H4 { s4 with heap := s4.heap.push { cls := .type "slice", data := .fields #[vl, vu, vs] } } := I4.kept (t' := s4.toks) fun b ob q => Heap.get?_push_of_some _ q
  obtain ⟨its, r, ht, hz⟩ := I5.tuple hx; have hlen := r.length
  show wpAny (model X.prog X.w) X.A (subscriptTail e (.Slice none none (some (.UnaryOp .USub (.Constant (.int 1) k p1) p2)) p3) (.ref a) (.ref s4.heap.objs.size)) (EP X pins σ Q) X.xe { s4 with heap := s4.heap.push { cls := .type "slice", data := .fields #[vl, vu, vs] } }
  refine tail_any (ops := [.ref a, .ref s4.heap.objs.size]) ht.typeIs (PyProof.Rows.slot_tuple_getitem.lookup) ?_ (by with_unfolding_all rfl)
  cases pl; cases pu
  refine getItem_tuple_rev ht (Heap.IsSliceOf.new _ .none .none vs) ps ?_ (by rw [List.size_toArray]; omega)
  refine ⟨.ref _, _, I5.laid (t' := s4.toks) (o := .frz { cls := .type "tuple", data := .seq its.reverse.toArray } (.tup xs.reverse)) (fun b ob q => Heap.get?_push_of_some _ q) (Nat.le_refl _) ⟨Heap.get?_push_size _ rfl, by rw [List.length_reverse]; exact hz, _, r.reverse, IsTup.new _ _⟩, rfl, q _ _ (I5.hok.fresh (Nat.le_refl _)) rfl⟩
theorem pe_or {e : Expr} {t t' : TE} (h : PE X e t) (h' : PE X e t') : PE X e (fun σ H Q => t σ H Q ∨ t' σ H Q) := ⟨fun pins s σ H Q I q => q.elim (h.run pins s σ H Q I) (h'.run pins s σ H Q I)⟩
theorem RepAll.rev {K : PySem.W.Frag} {M : Mu} {H : Hp} : ∀ {ds : List D} {vs : List V}, RepAll K M H ds vs → RepAll K M H ds.reverse vs.reverse
  | [], _, h => by rw [show _ = [] from h]; rfl
  | d :: ds, _, ⟨v, r, e, rv, t⟩ => by
    rw [e, List.reverse_cons, List.reverse_cons]
    exact (RepAll.rev t).app (RepAll.one rv)
def kRev : D → LH → R D := fun a L => match seqD L a with
  | some (true, xs) => .ok (.tup xs.reverse) L
  | some (false, xs) => .ok (.lst xs.reverse) L
  | none => .no
theorem de_rev {e : Expr} {f : DE} {k : Nat} {p1 p2 p3 pos : Pos} (hK : X.K = S.K) (he : PE X e (tD S W f)) : PE X (.Subscript e (.Slice none none (some (.UnaryOp .USub (.Constant (.int 1) k p1) p2)) p3) pos) (tD S W (d1 kRev f)) := pe_imp (pe_or (pe_revL he) (pe_revT he)) fun σ H Q => by
  rintro ⟨env, L, M, he, hs, hp⟩
  have key : PostG S (W σ) M H (fun a L1 H1 => PostG S (W σ) M H1 (PV S M Q) (kRev a L1)) (f env L) := hp.bind
  cases ef : f env L with
  | no => rw [ef] at key; exact key.elim
  | exc ex L1 => rw [ef] at key; exact .inl ⟨env, L, M, he, hs, by rw [ef]; exact key⟩
  | ok a L1 =>
    rw [ef] at key
    cases ea : seqD L1 a with
    | none =>
      exact .inl ⟨env, L, M, he, hs, by
        rw [ef]
        intro H1 x1 s1 v ra
        have this : PostG S (W σ) M H1 (PV S M Q) (kRev a L1) := key H1 x1 s1
        unfold kRev at this
        rw [ea] at this; exact this.elim⟩
    | some bx =>
      obtain ⟨b, xs⟩ := bx
      cases b with
      | true =>
        refine .inr ⟨env, L, M, he, hs, ?_⟩
        rw [ef]
        intro H1 x1 s1 v ra
        have q : PostG S (W σ) M H1 (PV S M Q) (kRev a L1) := key H1 x1 s1
        unfold kRev at q
        rw [ea] at q
        obtain ⟨p, vs, rfl, h, rr⟩ := seqD_ok s1 ra ea
        exact ⟨p, vs, rfl, by rw [hK]; exact h, fun c o hn ho => post_new q s1 hn _ (rep_tup_new s1 hn ho rr.rev)⟩
      | false =>
        refine .inl ⟨env, L, M, he, hs, ?_⟩
        rw [ef]
        intro H1 x1 s1 v ra
        have q : PostG S (W σ) M H1 (PV S M Q) (kRev a L1) := key H1 x1 s1
        unfold kRev at q
        rw [ea] at q
        obtain ⟨p, vs, rfl, h, rr⟩ := seqD_ok s1 ra ea
        exact ⟨p, vs, rfl, by rw [hK]; exact h, fun c hn => post_new q s1 hn _ (rep_lst_new s1 hn rr.rev)⟩
/-! ### xs[::c] of a list -/
def pickL {α : Type} (xs : List α) (c : Int) : List α := (sliceRange (sliceBounds none none (some c) xs.length).1 (sliceBounds none none (some c) xs.length).2.1 (sliceBounds none none (some c) xs.length).2.2).filterMap (xs[·]?)
theorem pick_rep {K : PySem.W.Frag} {M : Mu} {H : Hp} {ds : List D} {vs : List V} (r : RepAll K M H ds vs) : ∀ is : List Nat, RepAll K M H (is.filterMap (ds[·]?)) (is.filterMap (vs[·]?))
  | [] => rfl
  | i :: is => by
    have ih := pick_rep r is
    by_cases hi : i < ds.length
    · have e1 : ds[i]? = some ds[i] := List.getElem?_eq_getElem hi
      obtain ⟨v, e2, rv⟩ := r.get e1
      rw [List.filterMap_cons, List.filterMap_cons, e1, e2]
      exact ⟨v, _, rfl, rv, ih⟩
    · rw [List.filterMap_cons, List.filterMap_cons, List.getElem?_eq_none (by omega), List.getElem?_eq_none (by rw [r.len]; omega)]
      exact ih
theorem pick_vals {xs : List V} {us : List Value} (r : Vals xs us) : ∀ is : List Nat, Vals (is.filterMap (xs[·]?)) (is.filterMap (us[·]?))
  | [] => .nil
  | i :: is => by
    have ih := pick_vals r is
    have hl := r.length
    by_cases hi : i < xs.length
    · have e1 : xs[i]? = some xs[i] := List.getElem?_eq_getElem hi
      obtain ⟨v, e2, rv⟩ := r.get e1
      rw [List.filterMap_cons, List.filterMap_cons, e1, e2]
      exact .cons rv ih
    · rw [List.filterMap_cons, List.filterMap_cons, List.getElem?_eq_none (by omega), List.getElem?_eq_none (by omega)]
      exact ih
def tPickL (K : PySem.W.Frag) (c : Int) (te : TE) : TE := fun σ H Q => te σ H fun x H1 => ∃ a xs, x = .ref a ∧ SqL K H1 a xs ∧ (pickL xs c).length ≤ xs.length ∧ ∀ p, H1 p = none → Q (.ref p) (upd H1 p (.lst (pickL xs c)))
theorem pe_pickL {e : Expr} {te : TE} {c : Int} {k : Nat} {p1 p3 pos : Pos} (hc : c ≠ 0) (he : PE X e te) (htail : ∀ a b, subscripted (.Slice none none (some (.Constant (.int c) k p1)) p3) false (.ref a) (.ref b) = operate [.ref a, .ref b] (getItem (.ref a) (.ref b))) : PE X (.Subscript e (.Slice none none (some (.Constant (.int c) k p1)) p3) pos) (tPickL X.K c te) := by
  refine ⟨fun pins s σ H Q I h => Subscript_ (thn (he.run pins s σ H _ I h) fun v s1 ⟨x, H1, I1, r1, a, xs, ex, hx, hpl, q⟩ => ?_)⟩
  subst ex; cases r1
  have hst : PO X (some (.Constant (.int c) k p1)) (tPart (tC (.int c))) := po_some pe_int
  refine wpAny_Slice (thn (po_none.run pins s1 σ H1 (fun o H2 => o = none ∧ H2 = H1) I1 ⟨rfl, rfl⟩) fun vl s2 ⟨l, H2, I2, pl, el, e2⟩ => ?_)
  subst el; subst e2
  refine thn (po_none.run pins s2 σ H2 (fun o H3 => o = none ∧ H3 = H2) I2 ⟨rfl, rfl⟩) fun vu s3 ⟨u, H3, I3, pu, eu, e3⟩ => ?_
  subst eu; subst e3
  refine thn (hst.run pins s3 σ H3 (fun o H4 => o = some c ∧ H4 = H3) I3 ⟨c, rfl, rfl, rfl⟩) fun vs s4 ⟨o, H4, I4, ps, eo, e4⟩ => ?_
  subst eo; subst e4
  have I5 : Inv X pins σ H4 { s4 with heap := s4.heap.push { cls := .type "slice", data := .fields #[vl, vu, vs] } } := I4.kept (t' := s4.toks) fun b ob q => Heap.get?_push_of_some _ q
  obtain ⟨its, r, ht, hz⟩ := I5.list hx; have hlen := r.length
  show wpAny (model X.prog X.w) X.A (subscriptTail e (.Slice none none (some (.Constant (.int c) k p1)) p3) (.ref a) (.ref s4.heap.objs.size)) (EP X pins σ Q) X.xe { s4 with heap := s4.heap.push { cls := .type "slice", data := .fields #[vl, vu, vs] } }
  refine tail_any (ops := [.ref a, .ref s4.heap.objs.size]) ht.isList.typeIs (PySem.slot_list_getitem.lookup) ?_ (htail _ _)
  refine wpAny_getItem_list_slice ht.isList (Heap.IsSliceOf.new _ vl vu vs) pl pu ps (fun z => hc (Option.some.inj z)) ?_ (by rw [List.size_toArray]; omega)
  have e5 : slicePick its.toArray none none (some c) = ((sliceRange (sliceBounds none none (some c) xs.length).1 (sliceBounds none none (some c) xs.length).2.1 (sliceBounds none none (some c) xs.length).2.2).filterMap (its[·]?)).toArray := by
    unfold slicePick
    rw [List.size_toArray, ← hlen]
    congr 1
    exact fm_congr fun i _ => by simp
  rw [e5]
  refine ⟨.ref _, _, I5.laid (t' := s4.toks) (o := .lst (pickL xs c)) (fun b ob q => Heap.get?_push_of_some _ q) (Nat.le_refl _) ⟨by omega, _, 0, pick_vals r _, Heap.get?_push_size _ rfl⟩, rfl, q _ (I5.hok.fresh (Nat.le_refl _))⟩
def kPickL (c : Int) : D → LH → R D := fun a L => match seqD L a with
  | some (false, xs) => if decide ((pickL xs c).length ≤ xs.length) = true then .ok (.lst (pickL xs c)) L else .no
  | _ => .no
theorem pickL_len {α β : Type} (xs : List α) (ys : List β) (c : Int) (h : xs.length = ys.length) : (pickL xs c).length = (pickL ys c).length := by
  unfold pickL
  rw [h]
  generalize sliceRange _ _ _ = is
  induction is with
  | nil => rfl
  | cons i is ih =>
    by_cases hi : i < xs.length
    · rw [List.filterMap_cons, List.filterMap_cons, List.getElem?_eq_getElem hi, List.getElem?_eq_getElem (by omega)]
      simp [ih]
    · rw [List.filterMap_cons, List.filterMap_cons, List.getElem?_eq_none (by omega), List.getElem?_eq_none (by omega)]
      exact ih
theorem de_pickL {e : Expr} {f : DE} {c : Int} {k : Nat} {p1 p3 pos : Pos} (hK : X.K = S.K) (hc : c ≠ 0) (he : PE X e (tD S W f)) (htail : ∀ a b, subscripted (.Slice none none (some (.Constant (.int c) k p1)) p3) false (.ref a) (.ref b) = operate [.ref a, .ref b] (getItem (.ref a) (.ref b))) : PE X (.Subscript e (.Slice none none (some (.Constant (.int c) k p1)) p3) pos) (tD S W (d1 (kPickL c) f)) := pe_imp (pe_pickL hc he htail) fun σ H Q => by
  rintro ⟨env, L, M, he, hs, hp⟩
  refine ⟨env, L, M, he, hs, PostG.seq hp fun a L1 H1 x1 s1 q v ra => ?_⟩
  unfold kPickL at q
  split at q
  · rename_i xs ea
    split at q
    · rename_i hl
      obtain ⟨p, vs, rfl, h, rr⟩ := seqD_ok s1 ra ea
      have e1 := pickL_len xs vs c rr.len.symm
      refine ⟨p, vs, rfl, by rw [hK]; exact h, by rw [← e1, rr.len]; exact of_decide_eq_true hl, fun b hn => post_new q s1 hn _ (rep_lst_new s1 hn ?_)⟩
      have := pick_rep rr (sliceRange (sliceBounds none none (some c) xs.length).1 (sliceBounds none none (some c) xs.length).2.1 (sliceBounds none none (some c) xs.length).2.2)
      unfold pickL
      rw [rr.len]
      exact this
    · exact q.elim
  · exact q.elim
end DL

set_option Elab.async false
set_option linter.all false
set_option maxRecDepth 100000
set_option maxHeartbeats 2000000
namespace DL
open PySem PySem.Spec L2 PyProof.Rows
/-! ### len(set(rows)), the rows tuples of ints, all unlike -/
def rLenST (P : Program) (w : World) : List V → Hp → VK → Prop := fun xs H Q => ∃ (a : Addr) (L : List (Addr × List Int)), xs = [V.ref a] ∧ H a = some (SetTO P w a L) ∧ ((L.map (·.2)).Nodup → Q (.int (L.length : Nat)) H)
theorem cr_lenST {X : Cx} : CallR X (.builtin "len") (rLenST X.prog X.w) := by
  intro pins s σ H xs us Q I r ⟨a, L, ex, ha, q⟩
  subst ex
  rw [Vals.ref1 r]
  have R0 : SetT0 X.prog X.w s.heap a L := (I.hok a _ ha).1
  obtain ⟨es, ep, t, ⟨o, ho, hex, hd⟩, hrows, tab, nd, _, _, _, few⟩ := R0.ex
  have hsz : es.size = L.length := by
    have := congrArg List.length hrows
    simpa [rowsOf] using this
  refine call_len_set ho hex hd ?_ (by rw [hsz]; omega) ⟨.int (L.length : Nat), H, I.tok _, ⟨_, by rw [hsz]⟩, q nd⟩
  have := tab.sz
  unfold SetTable.fits
  have few2 : L.length ≤ t.mask := by omega
  simp [hsz, this, SetTable.fill, tab.dm, few2]
def rowsD : List D → Option (List (List Int))
  | [] => some []
  | .tup ds :: xs => (match intsD ds, rowsD xs with
    | some is, some r => some (is :: r)
    | _, _ => none)
  | _ :: _ => none
def nodupB : List (List Int) → Bool
  | [] => true
  | x :: l => !l.contains x && nodupB l
theorem nodupB_ok : ∀ {l : List (List Int)}, nodupB l = true → l.Nodup
  | [], _ => List.nodup_nil
  | x :: l, h => by
    have h' : (!l.contains x && nodupB l) = true := h
    rw [Bool.and_eq_true] at h'
    rw [List.nodup_cons]
    exact ⟨fun z => by simp [z] at h', nodupB_ok h'.2⟩
theorem rowsD_ok {K : PySem.W.Frag} {M : Mu} {H : Hp} : ∀ {xs : List D} {r : List (List Int)} {vs : List V}, rowsD xs = some r → RepAll K M H xs vs → ∃ ks : List (Addr × List Int), vs = ks.map (fun p => V.ref p.1) ∧ ks.map (·.2) = r ∧ ∀ p ∈ ks, SqT K H p.1 (p.2.map V.int)
  | [], r, vs, e, h => by
    cases e
    exact ⟨[], h, rfl, fun _ z => nomatch z⟩
  | d :: xs, r, vs, e, ⟨v, us, e1, hv, ht⟩ => by
    cases d with
    | tup ds =>
      have e' : (match intsD ds, rowsD xs with | some is, some r => some (is :: r) | _, _ => none) = some r := e
      cases hi : intsD ds with
      | none => rw [hi] at e'; cases e'
      | some is =>
        cases hr : rowsD xs with
        | none => rw [hi, hr] at e'; cases e'
        | some r' =>
          rw [hi, hr] at e'
          cases e'
          obtain ⟨ks, k1, k2, k3⟩ := rowsD_ok hr ht
          obtain ⟨a, ws, rfl, hq, ra⟩ := hv
          have ed := intsD_ok hi
          subst ed
          have ew := ra.ints
          subst ew
          exact ⟨(a, is) :: ks, by rw [e1, k1]; rfl, by simp [k2], fun p hp => by
            rcases List.mem_cons.mp hp with rfl | hp
            · exact hq.t
            · exact k3 p hp⟩
    | _ => cases e
theorem nodup_len {α : Type} [DecidableEq α] : ∀ {l r : List α}, l.Nodup → r.Nodup → (∀ x ∈ l, x ∈ r) → (∀ x ∈ r, x ∈ l) → l.length = r.length := by
  have key : ∀ {l r : List α}, l.Nodup → (∀ x ∈ l, x ∈ r) → l.length ≤ r.length := by
    intro l
    induction l with
    | nil => intro r _ _; exact Nat.zero_le _
    | cons x l ih =>
      intro r h s
      rw [List.nodup_cons] at h
      have hx := s x List.mem_cons_self
      have := ih (r := r.erase x) h.2 (fun y hy => (List.mem_erase_of_ne (fun z : y = x => h.1 (by rw [← z]; exact hy))).mpr (s y (List.mem_cons_of_mem _ hy)))
      rw [List.length_erase_of_mem hx] at this
      have h0 := List.length_pos_of_mem hx
      simp only [List.length_cons]
      omega
  intro l r h1 h2 s1 s2
  exact Nat.le_antisymm (key h1 s1) (key h2 s2)
variable {S : Sg} {X : Cx} {W : L2.St → WH}
def kLenSet : D → LH → R D := fun a L => match seqD L a with
  | some (false, xs) => (match rowsD xs with
    | some r => if (decide (r.length < 64) && nodupB r) = true then .ok (.int (r.length : Nat)) L else .no
    | none => .no)
  | _ => .no
theorem de_lenSet {a e : Expr} {f : DE} (hK : X.K = S.K) (h : ∀ t, PE X a t → PE X e (tCB (rLenST X.prog X.w) (tCons (tCB (rSetOfT X.K X.prog X.w) (tCons t tNil)) tNil))) (ha : PE X a (tD S W f)) : PE X e (tD S W (d1 kLenSet f)) := pe_imp (h _ ha) fun σ H Q => by
  rintro ⟨env, L, M, he, hs, hp⟩
  refine ⟨env, L, M, he, hs, PostG.seq hp fun a L1 H1 x1 s1 q v ra => ?_⟩
  unfold kLenSet at q
  split at q
  · rename_i xs ea
    split at q
    · rename_i r er
      split at q
      · rename_i hb
        rw [Bool.and_eq_true] at hb
        obtain ⟨p, vs, rfl, hq, rr⟩ := seqD_ok s1 ra ea
        obtain ⟨ks, k1, k2, k3⟩ := rowsD_ok er rr
        subst k1
        refine ⟨p, ks, rfl, by rw [hK]; exact hq, by rw [hK]; exact k3, by rw [← List.length_map (f := fun p : Addr × List Int => p.2), k2]; exact of_decide_eq_true hb.1, fun c Ls hn h1 h2 => ?_⟩
        refine ⟨c, Ls, rfl, upd_same, fun nd => ?_⟩
        have hl : Ls.length = r.length := by
          have := nodup_len nd (nodupB_ok hb.2) (fun x hx => by
            obtain ⟨p, hp, rfl⟩ := List.mem_map.mp hx
            rw [← k2]
            exact List.mem_map.mpr ⟨p, h1 p hp, rfl⟩) (fun x hx => by
            rw [← k2] at hx
            obtain ⟨p, hp, rfl⟩ := List.mem_map.mp hx
            exact h2 p hp)
          simpa using this
        rw [hl]
        exact post_new q s1 hn _ rfl
      · exact q.elim
    · exact q.elim
  · exact q.elim
end DL

set_option Elab.async false
set_option linter.all false
set_option maxRecDepth 100000
set_option maxHeartbeats 1000000
namespace DL
open PySem PySem.Spec L2
variable {S : Sg} {X : Cx} {W : L2.St → WH}
/-! ### more ways to new lists -/
def fPlus (f g : DE) : DF := fun env L => (f env L).bind fun a L1 => (g env L1).bind fun b L2 => match lstD L2 a, lstD L2 b with
  | some xs, some ys => if fits (xs.length + ys.length) then .ok (xs ++ ys) L2 else .no
  | _, _ => .no
theorem df_plus {a b : Expr} {pos : Pos} {f g : DE} (ha : PE X a (tD S W f)) (hb : PE X b (tD S W g)) : PE X (.BinOp a .Add b pos) (tF S W (fPlus f g)) := pe_imp (pe_op op_cat ha hb) fun σ H Q => by
  rintro ⟨env, L, M, he, hs, hp⟩
  refine ⟨env, L, M, he, hs, PostG.seq hp fun a L1 H1 x1 s1 q x ra => ⟨env, L1, M, he.mono x1 Grow.refl, s1, PostG.seq q fun b L2 H2 x2 s2 q2 y rb => ?_⟩⟩
  split at q2
  · rename_i xs ys e1 e2
    split at q2
    · rename_i hf
      obtain ⟨p, vs, rfl, h1, r1⟩ := lstD_ok s2 (ra.mono x2 Grow.refl) e1
      obtain ⟨c, us, rfl, h2, r2⟩ := lstD_ok s2 rb e2
      exact ⟨p, c, vs, us, rfl, rfl, h1, h2, by rw [r1.len, r2.len]; exact fits_ok hf, fun l hn => q2 H2 Ext.refl s2 _ l hn (r1.app r2)⟩
    · exact q2.elim
  · exact q2.elim
/-- x, y = a new list that is stored into, e -/
def sParF0 (i j : Nat) (g : DF) (f : DE) : DS := fun env L => (g env L).toS env fun ds L1 => (f env (L1 ++ [.lst ds])).toS env fun a L2 => .nx ((env.set i (some (.ref L1.length))).set j (some a)) L2
theorem s_parF0 {st : Stmt} {a b : Expr} {i j : Nat} {f : DE} {g : DF} (h : ∀ t, PA X [a, b] t → PS X st (tPar i j t)) (hp : ∀ ta tb, PE X a ta → PE X b tb → PA X [a, b] (tCons ta (tCons tb tNil))) (ha : PE X a (tF S W g)) (hb : PE X b (tD S W f)) : PS X st (tS S W (sParF0 i j g f)) :=
  ps_imp (h _ (hp _ _ ha hb)) fun E σ H => by
  rintro ⟨env, L, M, he, hs, hp⟩
  refine ⟨env, L, M, he, hs, PostS.expr he hp fun ds L1 H1 x1 s1 q vs p hn r => ?_⟩
  obtain ⟨g, s2⟩ := s1.add hn r
  have x2 : Ext M.m H1 (upd H1 p (.lst vs)) := Ext.new hn
  have he2 := (he.mono x1 Grow.refl).mono x2 g
  refine ⟨env, L1 ++ [.lst ds], ⟨M.m ++ [p], M.x⟩, he2, s2, ?_⟩
  have q' : PostS S W ⟨M.m ++ [p], M.x⟩ (upd H1 p (.lst vs)) E ((f env (L1 ++ [.lst ds])).toS env fun a L2 => .nx ((env.set i (some (.ref L1.length))).set j (some a)) L2) := PostS.ext g x2 q
  refine PostS.expr he2 q' fun a L2 H3 x3 s3 q3 v rv => ⟨.ref p, v, rfl, ?_⟩
  refine q3 _ _ _ Grow.refl Ext.refl s3 (((he2.mono x3 Grow.refl).set (d := .ref L1.length) (v := .ref p) ⟨p, rfl, ?_⟩).set rv)
  show (M.m ++ [p])[L1.length]? = some p
  rw [← s1.len]
  simp
/-- t.index(i), t a tuple of ints -/
def idxI : List Int → Int → Option Nat
  | [], _ => none
  | x :: l, z => if x = z then some 0 else (idxI l z).map (· + 1)
theorem idxI_ok : ∀ {l : List Int} {z : Int} {j : Nat}, idxI l z = some j → l[j]? = some z ∧ ∀ m, m < j → l[m]? ≠ some z
  | [], _, _, e => nomatch e
  | x :: l, z, j, e => by
    unfold idxI at e
    split at e
    · rename_i h
      cases e
      exact ⟨by simp [h], fun m hm => absurd hm (Nat.not_lt_zero m)⟩
    · rename_i h
      cases q : idxI l z with
      | none => rw [q] at e; cases e
      | some k =>
        rw [q] at e
        have e' : k + 1 = j := Option.some.inj e
        subst e'
        obtain ⟨h1, h2⟩ := idxI_ok q
        refine ⟨by simpa using h1, fun m hm => ?_⟩
        cases m with
        | zero => simpa using h
        | succ m => simpa using h2 m (by omega)
/-- x is a tuple, its object known to have no dict -/
def PlainT (K : PySem.W.Frag) (H : Hp) (x : V) : Prop := ∃ a, x = .ref a ∧ ((∃ (o : Obj) (vs : List V), H a = some (.frz o (.tup vs)) ∧ o.dict = none) ∨ ∃ o : Obj, K.lookup a = some o ∧ o.cls = .type "tuple" ∧ o.dict = none)
def tBMT (K : PySem.W.Frag) (r : V → List V → Hp → VK → Prop) (to : TE) (t : TA) : TE := fun σ H Q => to σ H fun x H1 => PlainT K H1 x ∧ t σ H1 fun xs H2 => r x xs H2 Q
theorem plainT_is {pins : List (Addr × Obj)} {σ : L2.St} {H : Hp} {s : Shared} {x : V} {v : Value} (I : L2.Inv X pins σ H s) (r : RelV x v) (ty : PlainT X.K H x) : s.TypeIs v "tuple" ∧ ∀ a, v = .ref a → ∃ ob, s.heap.get? a = some ob ∧ ob.dict = none := by
  obtain ⟨a, rfl, ⟨o, vs, h, d⟩ | ⟨o, h, c, d⟩⟩ := ty
  · cases r
    obtain ⟨h1, _, its, _, ⟨o', h2, h3, _⟩⟩ := (show ObjOk X.prog X.w H s.heap a (.frz o (.tup vs)) from I.hok a _ h)
    rw [h1] at h2; cases h2
    exact ⟨⟨o, h1, h3⟩, fun b e => by cases e; exact ⟨o, h1, d⟩⟩
  · cases r
    have h1 := I.kIn a o h
    exact ⟨⟨o, h1, c⟩, fun b e => by cases e; exact ⟨o, h1, d⟩⟩
theorem pe_bmT {o e : Expr} {es : List Expr} {name : Str} {id : String} {apos cpos : Pos} {to : TE} {t : TA} {r : V → List V → Hp → VK → Prop} (pa : PlainAttrs "tuple") (slot : Slot "tuple" name id) (hty : typeOf (.builtin id) = pure (.type "method_descriptor")) (hm : MtR X id r) (ho : PE X o to) (ha : PA X (e :: es) t)
    (hbase : attributeBase o name X.env (eval o X.env) = eval o X.env := by rfl)
    (hfew : ((backTo cpos (starEach (e :: es) X.env)).all (fun x => !x.1) && (backToKw cpos (keywordEach [] X.env)).all (fun x => x.1.isSome) && decide ((e :: es).length + ([] : List Keyword).length + (if ([] : List Keyword).isEmpty then 0 else 1) < 30)) = true := by rfl)
    (hline : (apos.endLine == cpos.line) = true := by rfl) (hs : starEach (e :: es) X.env = (false, eval e X.env) :: starEach es X.env := by rfl) (hplain : (backTo cpos (starEach es X.env)).any (·.1) = false := by rfl) : PE X (.Call (.Attribute o name apos) (e :: es) [] cpos) (tBMT X.K r to t) := by
  refine ⟨fun pins s σ H Q I h => wpAny_Call_method_late hbase hfew hline rfl (thn (ho.run pins s σ H _ I h) fun v s1 ⟨x, H1, I1, r1, ty, q1⟩ => ?_)⟩
  obtain ⟨h1, h2⟩ := plainT_is I1 r1 ty
  have hA := ha.run cpos pins s1 σ H1 _ I1 q1
  refine ⟨"tuple", id, pa, slot, hty, h1, h2, ?_⟩; rw [hs] at hA ⊢
  refine Calls.callWith_builtin (by show (false || (backTo cpos (starEach es X.env)).any (·.1)) = false; rw [hplain] <;> rfl) (Calls.evalArgs_plain (thn hA fun us s2 ⟨vs, H2, I2, r2, q2⟩ => hm pins s2 σ H2 x vs v us Q I2 r1 r2 q2))
def kIndexT : D → D → LH → R D := fun a b L => match a, b with
  | .tup xs, .int z => (match intsD xs with
    | some is => (match idxI is z with
      | some j => .ok (.int (j : Nat)) L
      | none => .no)
    | none => .no)
  | _, _ => .no
def isTupD : D → Bool
  | .tup _ => true
  | _ => false
def dIndexT (f g : DE) : DE := fun env L => (f env L).bind fun a L1 => if isTupD a then (g env L1).bind fun b L2 => kIndexT a b L2 else .no
theorem de_indexT {o e : Expr} {f g : DE} {pos apos : Pos} (hK : X.K = S.K) (h : ∀ to t, PE X o to → PA X [e] t → PE X (.Call (.Attribute o "index" apos) [e] [] pos) (tBMT X.K (fun x xs H Q => ∃ (p : Addr) (ys : List Int) (z : Int) (j : Nat), x = .ref p ∧ xs = [.int z] ∧ SqT X.K H p (ys.map V.int) ∧ ys[j]? = some z ∧ (∀ m, m < j → ys[m]? ≠ some z) ∧ Q (.int (j : Nat)) H) to t)) (ho : PE X o (tD S W f)) (he : PA X [e] (tDA S W (daCons g daNil))) :
    PE X (.Call (.Attribute o "index" apos) [e] [] pos) (tD S W (dIndexT f g)) := pe_imp (h _ _ ho he) fun σ H Q => by
  rintro ⟨env, L, M, he, hs, hp⟩
  refine ⟨env, L, M, he, hs, PostG.seq hp fun a L1 H1 x1 s1 q x ra => ?_⟩
  split at q
  · rename_i et
    cases a with
    | tup xs =>
      obtain ⟨p, vs, rfl, hq, rr⟩ := ra
      refine ⟨⟨p, rfl, hq.elim (fun ⟨o, h1, h2, _⟩ => .inl ⟨o, vs, h1, h2⟩) (fun ⟨o, _, _, h1, h2, h3, _⟩ => .inr ⟨o, by rw [hK]; exact h1, h2, h3⟩)⟩, tDA_one (he.mono x1 Grow.refl) s1 q fun b L2 H2 y x2 s2 ry q2 => ?_⟩
      cases b with
      | int z =>
        have q3 : PostG S (W σ) M H2 (PV S M Q) (match intsD xs with
          | some is => (match idxI is z with
            | some j => .ok (.int (j : Nat)) L2
            | none => .no)
          | none => .no) := q2
        cases e1 : intsD xs with
        | none => rw [e1] at q3; exact q3.elim
        | some is =>
          rw [e1] at q3
          simp only at q3
          cases e2 : idxI is z with
          | none => rw [e2] at q3; exact q3.elim
          | some j =>
            rw [e2] at q3
            have ed := intsD_ok e1
            subst ed
            have ev := RepAll.ints rr
            subst ev
            obtain ⟨h1, h2⟩ := idxI_ok e2
            exact ⟨p, is, z, j, rfl, by rw [show y = V.int z from ry], by rw [hK]; exact (hq.mono x2 Grow.refl).t, h1, h2, q3 H2 Ext.refl s2 _ rfl⟩
      | _ => exact q2.elim
    | _ => cases et
  · exact q.elim
end DL

set_option Elab.async false
set_option linter.all false
set_option maxRecDepth 100000
namespace DL
open PySem PySem.Spec L2
variable {S : Sg} {X : Cx} {W : L2.St → WH}
/-! ### a, b, c = a list or a tuple of three -/
theorem RepAll.three {K : PySem.W.Frag} {M : Mu} {H : Hp} {d e f : D} {vs : List V} (h : RepAll K M H [d, e, f] vs) : ∃ v u t, vs = [v, u, t] ∧ Rep K M H d v ∧ Rep K M H e u ∧ Rep K M H f t := by
  obtain ⟨v, r, rfl, h1, h2⟩ := h
  obtain ⟨u, t, rfl, h3, h4⟩ := RepAll.two h2
  exact ⟨v, u, t, rfl, h1, h3, h4⟩
def gSet3 (i j k : Nat) : DG := fun d env => match d with
  | .tup [a, b, c] => some (((env.set i (some a)).set j (some b)).set k (some c))
  | _ => none
theorem does_gTup3 {K : PySem.W.Frag} {i j k : Nat} (hK : K = S.K) : DoesG S X (gTup K 3 (gCons (gName i) (gCons (gName j) (gCons (gName k) gNil)))) (gSet3 i j k) := fun M H L d v env env' σ Q hs r he e h => by
  unfold gSet3 at e
  split at e
  · rename_i a b c
    cases e
    obtain ⟨p, vs, rfl, hq, ra⟩ := r
    obtain ⟨x, y, z, rfl, rx, ry, rz⟩ := RepAll.three ra
    exact ⟨p, [x, y, z], rfl, by rw [hK]; exact hq.t, rfl, x, [y, z], rfl, y, [z], rfl, z, [], rfl, rfl, h _ (((he.set rx).set ry).set rz)⟩
  · cases e
def gSet3L (i j k : Nat) : DG := fun d env => match d with
  | .lst [a, b, c] => some (((env.set i (some a)).set j (some b)).set k (some c))
  | _ => none
theorem does_gLst3 {K : PySem.W.Frag} {i j k : Nat} (hK : K = S.K) : DoesG S X (gLst K 3 (gCons (gName i) (gCons (gName j) (gCons (gName k) gNil)))) (gSet3L i j k) := fun M H L d v env env' σ Q hs r he e h => by
  unfold gSet3L at e
  split at e
  · rename_i a b c
    cases e
    obtain ⟨p, vs, rfl, hq, n1, n2, ra⟩ := r
    obtain ⟨x, y, z, rfl, rx, ry, rz⟩ := RepAll.three ra
    exact ⟨p, [x, y, z], rfl, by rw [hK]; exact SqL.of hq, rfl, x, [y, z], rfl, y, [z], rfl, z, [], rfl, rfl, h _ (((he.set rx).set ry).set rz)⟩
  · cases e
end DL

set_option Elab.async false
set_option linter.all false
set_option maxRecDepth 100000
namespace DL
open PySem PySem.Spec L2
variable {S : Sg} {X : Cx} {W : L2.St → WH}
/-! ### a comprehension that walks the keys of a dict that is a value: the dict is locked meanwhile -/
section
variable {K : PySem.W.Frag} {M : Mu} {H : Hp} {a : Addr} {u u' : HO}
/-- the cell a is another one that nothing but a dict that is read looks at -/
structure Cell (M : Mu) (H : Hp) (a : Addr) (u u' : HO) (kvs : List (Key × V)) : Prop where
  at_ : H a = some u
  nm : a ∉ M.m
  k : ∀ ys, Rd H a (.dK ys) → ys = kvs
  k' : Rd (upd H a u') a (.dK kvs)
  nt : ∀ o xs, u ≠ .frz o (.tup xs)
  nl : ∀ xs, u ≠ .lst xs
  nfl : ∀ o xs, u ≠ .frz o (.lst xs)
variable {kvs : List (Key × V)}
theorem Cell.ne {b : Addr} {o : HO} (c : Cell M H a u u' kvs) (h : H b = some o) (n : o ≠ u) : b ≠ a := fun z => by
  rw [z, c.at_] at h
  exact n (Option.some.inj h).symm
mutual
theorem Rep.cell (c : Cell M H a u u' kvs) : ∀ (d : D) (v : V), Rep K M H d v → Rep K M (upd H a u') d v
  | .non, _, h => h
  | .bl _, _, h => h
  | .int _, _, h => h
  | .str _, _, h => h
  | .tup ds, _, ⟨b, vs, e1, h, r⟩ => by
    refine ⟨b, vs, e1, ?_, RepAll.cell c ds vs r⟩
    rcases h with ⟨ob, h, d, n⟩ | h
    · exact .inl ⟨ob, (upd_ne (c.ne h fun z => c.nt _ _ z.symm)).trans h, d, n⟩
    · exact .inr h
  | .lst ds, _, ⟨b, vs, e1, h, n, n2, r⟩ => ⟨b, vs, e1, (upd_ne (c.ne h fun z => c.nl _ z.symm)).trans h, n, n2, RepAll.cell c ds vs r⟩
  | .frl ds, _, ⟨b, vs, e1, h, r⟩ => by
    refine ⟨b, vs, e1, ?_, RepAll.cell c ds vs r⟩
    rcases h with ⟨h, n, n2⟩ | h
    · refine .inl ⟨?_, n, n2⟩
      rcases h with h | ⟨ob, h⟩
      · exact .inl ((upd_ne (c.ne h fun z => c.nl _ z.symm)).trans h)
      · exact .inr ⟨ob, (upd_ne (c.ne h fun z => c.nfl _ _ z.symm)).trans h⟩
    · exact .inr h
  | .dic ds, _, ⟨b, vs, e1, h, n, n2, r⟩ => by
    refine ⟨b, vs, e1, ?_, n, n2, RepKV.cell c ds vs r⟩
    by_cases hb : b = a
    · subst hb
      rw [c.k vs h]
      exact c.k'
    · rcases h with h | ⟨ob, h⟩
      · exact .inl ((upd_ne hb).trans h)
      · exact .inr ⟨ob, (upd_ne hb).trans h⟩
  | .ref _, _, h => h
  | .obj _, _, h => h
theorem RepAll.cell (c : Cell M H a u u' kvs) : ∀ (ds : List D) (vs : List V), RepAll K M H ds vs → RepAll K M (upd H a u') ds vs
  | [], _, h => h
  | d :: ds, _, ⟨v, r, e1, h, t⟩ => ⟨v, r, e1, Rep.cell c d v h, RepAll.cell c ds r t⟩
theorem RepKV.cell (c : Cell M H a u u' kvs) : ∀ (ds : List (Key × D)) (vs : List (Key × V)), RepKV K M H ds vs → RepKV K M (upd H a u') ds vs
  | [], _, h => h
  | kd :: ds, _, ⟨v, r, e1, h, t⟩ => ⟨v, r, e1, Rep.cell c kd.2 v h, RepKV.cell c ds r t⟩
end
theorem EnvR.cell {env : DEnv} {σ : L2.St} (c : Cell M H a u u' kvs) (h : EnvR K M H env σ) : EnvR K M (upd H a u') env σ :=
  ⟨h.1, fun i d q => let ⟨v, e1, r⟩ := h.2 i d q; ⟨v, e1, Rep.cell c d v r⟩⟩
theorem Sim.cell {L : LH} (c : Cell M H a u u' kvs) (s : Sim K M H L) : Sim K M (upd H a u') L := by
  refine ⟨s.len, s.nod, fun n b o hb hl => ?_, fun b hb => ?_⟩
  · have hba : b ≠ a := fun z => c.nm (by rw [← z]; exact List.mem_of_getElem? hb)
    have h := s.at_ n b o hb hl
    cases o with
    | lst ds =>
      obtain ⟨vs, h1, r⟩ := h
      exact ⟨vs, (upd_ne hba).trans h1, RepAll.cell c ds vs r⟩
    | dic ds =>
      obtain ⟨vs, h1, r⟩ := h
      exact ⟨vs, (upd_ne hba).trans h1, RepKV.cell c ds vs r⟩
  · by_cases hba : b = a
    · subst hba; rw [upd_same]; exact fun z => nomatch z
    · rw [upd_ne hba]; exact s.xs b hb
theorem cell_lock (h : H a = some (.dK kvs)) (n : a ∉ M.m) (o : Obj) : Cell M H a (.dK kvs) (.frz o (.dK kvs)) kvs :=
  ⟨h, n, (fun ys r => by
    rcases r with r | ⟨o', r⟩
    · rw [h] at r; cases r; rfl
    · rw [h] at r; cases r), .inr ⟨o, upd_same⟩, (fun _ _ z => nomatch z), (fun _ z => nomatch z), (fun _ _ z => nomatch z)⟩
theorem cell_free {o : Obj} (h : H a = some (.frz o (.dK kvs))) (n : a ∉ M.m) : Cell M H a (.frz o (.dK kvs)) (.dK kvs) kvs :=
  ⟨h, n, (fun ys r => by
    rcases r with r | ⟨o', r⟩
    · rw [h] at r; cases r
    · rw [h] at r; cases r; rfl), .inl upd_same, (fun _ _ z => nomatch z), (fun _ z => nomatch z), (fun _ _ z => nomatch z)⟩
end
def keysD (ks : List (Key × D)) : List D := ks.map fun k => keyDD k.1
/-- the keys of the dict at i -/
def iDicK (i : Nat) : DI := fun env L => match env[i]? with
  | some (some (.dic ks)) => .ok (keysD ks) L
  | _ => .no
theorem iter_keysD {M : Mu} {H1 : Hp} {a : Addr} {o : Obj} {ks : List (Key × D)} {kvs : List (Key × V)} (ha : H1 a = some (.frz o (.dK kvs))) (n : a ∉ M.m) (r : RepKV S.K M H1 ks kvs) :
    IterOk S M H1 (keysD ks) (Itk a o kvs) (fun H => H a = some (.frz o (.dK kvs))) (fun i H x H' => H' = H ∧ ∃ k v, kvs[i]? = some (k, v) ∧ x = kV k) where
  w := by
    have : (keysD ks).length = kvs.length := by rw [keysD, List.length_map, r.len]
    rw [this]; exact walk_keys
  g := fun M' H' _ x => x.keep a _ n ha (fun ps z => nomatch z)
  y := fun M' H2 L2 i x H3 g x2 s hi y => by
    obtain ⟨rfl, k, v, e, rfl⟩ := y
    refine ⟨Ext.refl, s, keyDD k, ?_, ?_⟩
    · have hk := r.keys
      have h1 : (ks.map (·.1))[i]? = some k := by
        rw [← hk, List.getElem?_map, e]; rfl
      rw [List.getElem?_map] at h1
      unfold keysD
      rw [List.getElem?_map]
      cases hq : ks[i]? with
      | none => rw [hq] at h1; cases h1
      | some z =>
        rw [hq] at h1
        have : z.1 = k := Option.some.inj h1
        show some (keyDD z.1) = _
        rw [this]
    · cases k <;> rfl
def dLcK (i : Nat) (k : DG) (vs : List Nat) (t : DT) (e : DE) : DE := fun env L => noX (dLc (iDicK i) k vs t e env L)
theorem walkK_imp {i : Nat} {k : DG} {vs : List Nat} {t : DT} {e : DE} {g : TG} (hg : DoesGV S vs g k) {σ : L2.St} {H : Hp} {Q : VK} {env : DEnv} {L : LH} {M : Mu} {a : Addr} {o : Obj} {ks : List (Key × D)} {kvs : List (Key × V)}
    (he : EnvR S.K M H env σ) (hs : Sim S.K M H L) (hi : env[i]? = some (some (.dic ks))) (hσ : σ[i]? = some (some (.ref a))) (ha : H a = some (.frz o (.dK kvs))) (n : a ∉ M.m) (r : RepKV S.K M H ks kvs)
    (hp : PostG S (W σ) M H (PV S M Q) (dLc (iDicK i) k vs t e env L)) : tLc (iKeys (tVar i)) g (tT S WF t) (tD S WF e) vs σ H Q := by
  have hl := lc_imp (W := W) (f := iDicK i) (t := t) (e := e) hg σ H Q ⟨env, L, M, he, hs, hp⟩
  obtain ⟨env', L', M', he', hs', hp'⟩ := hl
  unfold iDicK at hp'
  split at hp'
  · rename_i ks' e'
    obtain ⟨v, e1, b, kvs', rfl, hb, nb, _, r'⟩ := he'.2 i _ e'
    rw [hσ] at e1
    have hba : a = b := by injection e1 with e1; injection e1 with e1; injection e1
    subst hba
    have hk : kvs' = kvs := by
      rcases hb with hb | ⟨o', hb⟩
      · rw [ha] at hb; cases hb
      · rw [ha] at hb; cases hb; rfl
    subst hk
    have q := hp' H Ext.refl hs' _ _ _ (iter_keysD ha nb r')
    exact ⟨_, hσ, a, o, rfl, .inl ⟨kvs', ha, q⟩⟩
  · exact hp'.elim
theorem postG_free {M : Mu} {H : Hp} {a : Addr} {o : Obj} {kvs : List (Key × V)} {Q : VK} {w : WH} {r : R D} (h : H a = some (.dK kvs)) (n : a ∉ M.m) (hp : PostG S w M H (PV S M Q) (noX r)) :
    PostG S w M (upd H a (.frz o (.dK kvs))) (PV S M fun v H' => H' a = some (.frz o (.dK kvs)) ∧ Q v (upd H' a (.dK kvs))) r := by
  cases r with
  | exc e L => exact hp.elim
  | no => exact hp.elim
  | ok d L =>
    intro H' x s v rv
    have ha : H' a = some (.frz o (.dK kvs)) := x.keep a _ n upd_same (fun ps z => nomatch z)
    have c := cell_free (M := M) ha n
    refine ⟨ha, hp (upd H' a (.dK kvs)) ⟨fun b ob nb hb ht => ?_, fun b hb => ?_⟩ (s.cell c) v (Rep.cell c d v rv)⟩
    · by_cases hba : b = a
      · subst hba
        rw [h] at hb
        rw [upd_same]; exact hb
      · rw [upd_ne hba]
        exact x.keep b ob nb (by rw [upd_ne hba]; exact hb) ht
    · by_cases hba : b = a
      · subst hba; rw [upd_same]; exact fun z => nomatch z
      · rw [upd_ne hba]
        exact x.live b (by rw [upd_ne hba]; exact hb)
theorem postG_noX {M : Mu} {H : Hp} {Q : VK} {w : WH} {r : R D} (hp : PostG S w M H (PV S M Q) (noX r)) : PostG S w M H (PV S M Q) r := by
  cases r with
  | exc e L => exact hp.elim
  | no => exact hp.elim
  | ok d L => exact hp
/-- [.. for x in d if ..], d a dict that is a value -/
theorem de_lcK {e0 : Expr} {i : Nat} {k : DG} {vs : List Nat} {t : DT} {e : DE} {g : TG} (h : PE X e0 (tLc (iKeys (tVar i)) g (tT S WF t) (tD S WF e) vs)) (hg : DoesGV S vs g k) : PE X e0 (tD S W (dLcK i k vs t e)) :=
  pe_imp (pe_or (pe_lock h) h) fun σ H Q => by
    rintro ⟨env, L, M, he, hs, hp⟩
    have hp0 : PostG S (W σ) M H (PV S M Q) (noX (dLc (iDicK i) k vs t e env L)) := hp
    cases hi : env[i]? with
    | none =>
      have : dLc (iDicK i) k vs t e env L = .no := by unfold dLc iDicK; rw [hi]; rfl
      rw [this] at hp0; exact hp0.elim
    | some od =>
      cases od with
      | none =>
        have : dLc (iDicK i) k vs t e env L = .no := by unfold dLc iDicK; rw [hi]; rfl
        rw [this] at hp0; exact hp0.elim
      | some d =>
        cases d with
        | dic ks =>
          obtain ⟨v, hσ, a, kvs, rfl, hr, n, n2, r⟩ := he.2 i _ hi
          rcases hr with ha | ⟨o, ha⟩
          · refine .inl ⟨a, .dK kvs, ha, trivial, fun od => ?_⟩
            have c := cell_lock (M := M) ha n od
            exact walkK_imp (W := W) hg (he.cell c) (hs.cell c) hi hσ upd_same n (RepKV.cell c ks kvs r) (postG_free ha n hp0)
          · exact .inr (walkK_imp (W := W) hg he hs hi hσ ha n r (postG_noX hp0))
        | _ =>
          have : dLc (iDicK i) k vs t e env L = .no := by unfold dLc iDicK; rw [hi]; rfl
          rw [this] at hp0; exact hp0.elim
end DL

set_option Elab.async false
set_option linter.all false
set_option maxRecDepth 100000
namespace DL
open PySem PySem.Spec L2
variable {S : Sg} {X : Cx} {W : L2.St → WH}
/-! ### a comprehension over a name that may be a list that is stored into: nothing in it stores -/
def PureT (t : DT) : Prop := ∀ env L b L', t env L = .ok b L' → L' = L
def PureE (e : DE) : Prop := ∀ env L d L', e env L = .ok d L' → L' = L
def dLcV (i : Nat) (k : DG) (vs : List Nat) (t : DT) (e : DE) : DE := fun env L => match env[i]? with
  | some (some (.ref n)) => (match L[n]? with
    | some (.lst items) => if fits items.length then (lcD k vs t e env items L).bind fun ys L2 => .ok (.lst ys) L2 else .no
    | _ => .no)
  | _ => dLc (iVal (dVar i)) k vs t e env L
theorem RepAll.at_ {K : PySem.W.Frag} {M : Mu} {H : Hp} : ∀ {ds : List D} {vs : List V} {i : Nat} {v : V}, RepAll K M H ds vs → vs[i]? = some v → ∃ d, ds[i]? = some d ∧ Rep K M H d v
  | [], vs, i, v, r, h => by
    have : vs = [] := r
    rw [this] at h; cases i <;> cases h
  | d :: ds, _, 0, v, ⟨u, r, rfl, h1, h2⟩, h => by
    cases h
    exact ⟨d, rfl, h1⟩
  | d :: ds, _, i + 1, v, ⟨u, r, rfl, h1, h2⟩, h => RepAll.at_ (ds := ds) (vs := r) (i := i) h2 h
theorem lcR_core {k : DG} {vs : List Nat} {t : DT} {e : DE} {g : TG} (hg : DoesGV S vs g k) (pt : PureT t) (pe : PureE e) {σ : L2.St} {H1 : Hp} {Q : VK} {env : DEnv} {L1 : LH} {M : Mu} {n : Nat} {a : Addr} {items : List D}
    (he1 : EnvR S.K M H1 env σ) (s1 : Sim S.K M H1 L1) (hm : M.m[n]? = some a) (hL : L1[n]? = some (.lst items)) (hfit : fits items.length = true)
    (q : PostG S (W σ) M H1 (PV S M Q) ((lcD k vs t e env items L1).bind fun ys L2 => .ok (.lst ys) L2)) (D0 : Addr) (hn : H1 D0 = none) :
    ∃ W' : Nat → Nat → Hp → Prop, (∃ m, W' 0 m (upd H1 D0 (.lst []))) ∧ ∀ i m H, W' i m H →
      ((Itl S.K a).stop i H ∧ Q (.ref D0) H) ∨ ((Itl S.K a).go i H ∧ ∃ Nx : Hp → Prop, (∀ H', Nx H' → ∃ m', m' < m ∧ W' (i + 1) m' H') ∧ ∀ x H', (Itl S.K a).yld i H x H' → g x (wipe σ vs) H' fun σ2 H2 => wipe σ2 vs = wipe σ vs ∧ tT S WF t σ2 H2 fun b H3 =>
        if b = true then tD S WF e σ2 H3 fun y H4 => ∃ acc, H4 D0 = some (.lst acc) ∧ acc.length < sizeLine ∧ Nx (upd H4 D0 (.lst (acc ++ [y]))) else Nx H3) := by
  have dm := (nm_new s1 hn).1
  have dx := (nm_new s1 hn).2
  have sM : Sim S.K ⟨M.m, D0 :: M.x⟩ (upd H1 D0 (.lst [])) L1 := s1.make hn
  have w : Walk (Itl S.K a) items.length (fun H => ∃ us, H a = some (.lst us) ∧ us.length = items.length) (fun i H x H' => H' = H ∧ ∃ us, H a = some (.lst us) ∧ us[i]? = some x) :=
    ⟨fun i H hi ⟨us, h, hl⟩ => ⟨us, us[i]'(by omega), SqL.of h, by simp [hl, hi]⟩, fun H ⟨us, h, hl⟩ => ⟨us, SqL.of h, by omega⟩, fun i H x H' hi ⟨us, h, hl⟩ y => ⟨y.1, us, h, y.2 us (SqL.of h)⟩⟩
  have hcell : ∀ {H' : Hp} {x : List Addr}, Sim S.K ⟨M.m, x⟩ H' L1 → ∃ us, H' a = some (.lst us) ∧ RepAll S.K ⟨M.m, x⟩ H' items us := fun s => s.at_ n a _ hm hL
  refine lc_it w (fun i H' => i ≤ items.length ∧ ∃ acc ds, Ext M.m H1 H' ∧ Sim S.K ⟨M.m, D0 :: M.x⟩ H' L1 ∧ H' D0 = some (.lst acc) ∧ RepAll S.K ⟨M.m, D0 :: M.x⟩ H' ds acc ∧ acc.length ≤ i ∧
      PostG S (W σ) M H1 (PV S M Q) ((lcD k vs t e env (items.drop i) L1).bind fun ys L2 => .ok (.lst (ds ++ ys)) L2)) ⟨Nat.zero_le _, [], [], Ext.new hn, sM, upd_same, rfl, Nat.le_refl _, q⟩
    (fun i H' _ ⟨_, acc, ds, x, s, hD, r, _, p⟩ => by
      obtain ⟨us, h, ra⟩ := hcell s
      exact ⟨us, h, ra.len⟩) ?_ ?_
  · rintro i v H' H'' hi ⟨_, acc, ds, x, s, hD, r, hacc, p⟩ ⟨rfl, us, hus, hv⟩
    obtain ⟨us', h', ra⟩ := hcell s
    have huu : us' = us := by rw [hus] at h'; cases h'; rfl
    subst huu
    obtain ⟨d, ed, rd⟩ := RepAll.at_ ra hv
    have hd : items.drop i = d :: items.drop (i + 1) := by
      rw [List.drop_eq_getElem_cons hi]
      have := (List.getElem?_eq_some_iff.mp ed).2
      rw [this]
    rw [hd] at p
    unfold lcD at p
    have heM : EnvR S.K ⟨M.m, D0 :: M.x⟩ H'' env σ := he1.mono x (Grow.make hn)
    cases ek : k d (wipeD env vs) with
    | none => rw [ek] at p; exact p.elim
    | some env1 =>
      rw [ek] at p
      simp only at p
      refine hg ⟨M.m, D0 :: M.x⟩ H'' L1 d v _ env1 _ _ s rd (wipe_env heM vs) ek fun σ2 e2 ew => ⟨by rw [ew, wipe_wipe _ _ (fun i hi => hi)], ?_⟩
      refine ⟨env1, L1, ⟨M.m, D0 :: M.x⟩, e2, s, ?_⟩
      cases et : t env1 L1 with
      | exc ex L2 => rw [et] at p; exact p.elim
      | no => rw [et] at p; exact p.elim
      | ok b L2 =>
        have hl2 := pt _ _ _ _ et
        subst hl2
        rw [et] at p
        intro H3 x3 s3
        have xx : Ext M.m H1 H3 := x.trans x3
        have hD3 : H3 D0 = some (.lst acc) := x3.keep D0 _ dm hD (fun ps z => nomatch z)
        have r3 := RepAll.mono x3 Grow.refl ds acc r
        show if b = true then _ else _
        cases b with
        | false =>
          rw [if_neg Bool.false_ne_true]
          exact ⟨hi, acc, ds, xx, s3, hD3, r3, by omega, p⟩
        | true =>
          rw [if_pos rfl]
          have p1 : PostG S (W σ) M H1 (PV S M Q) (((DL.noX (e env1 L2)).bind fun y L3 => (lcD k vs t e env (items.drop (i + 1)) L3).bind fun ys L4 => .ok (y :: ys) L4).bind fun ys L2 => .ok (.lst (ds ++ ys)) L2) := p
          refine ⟨env1, L2, ⟨M.m, D0 :: M.x⟩, e2.mono x3 Grow.refl, s3, ?_⟩
          cases ee : e env1 L2 with
          | exc ex L3 => rw [ee] at p1; exact p1.elim
          | no => rw [ee] at p1; exact p1.elim
          | ok dy L3 =>
            have hl3 := pe _ _ _ _ ee
            subst hl3
            rw [ee] at p1
            intro H4 x4 s4 y4 ry
            have hD4 : H4 D0 = some (.lst acc) := x4.keep D0 _ dm hD3 (fun ps z => nomatch z)
            have r4 := RepAll.mono x4 Grow.refl ds acc r3
            refine ⟨acc, hD4, ?_, hi, acc ++ [y4], ds ++ [dy], ?_, s4.sealed List.mem_cons_self dm ⟨acc, hD4⟩, upd_same, (RepAll.sealed List.mem_cons_self ⟨acc, hD4⟩ ds acc r4).app (RepAll.one (Rep.sealed List.mem_cons_self ⟨acc, hD4⟩ dy y4 ry)), ?_, ?_⟩
            · have := fits_ok hfit
              omega
            · have xx4 := xx.trans x4
              refine ⟨fun b o nb hb ht => ?_, fun b hb => ?_⟩
              · rw [upd_ne (fun z => by rw [z, hn] at hb; cases hb)]
                exact xx4.keep b o nb hb ht
              · rw [upd_ne (fun z => hb (by rw [z]; exact hn))]
                exact xx4.live b hb
            · rw [List.length_append, List.length_singleton]
              omega
            · have p2 : PostG S (W σ) M H1 (PV S M Q) (((lcD k vs t e env (items.drop (i + 1)) L3).bind fun ys L4 => .ok (dy :: ys) L4).bind fun ys L2 => .ok (.lst (ds ++ ys)) L2) := p1
              revert p2
              cases lcD k vs t e env (items.drop (i + 1)) L3 with
              | ok ys L4 =>
                intro p2
                show PostG S (W σ) M H1 (PV S M Q) (.ok (.lst ((ds ++ [dy]) ++ ys)) L4)
                rw [List.append_assoc]
                exact p2
              | exc ex L4 => exact fun p2 => p2
              | no => exact fun p2 => p2
  · rintro H' ⟨_, acc, ds, x, s, hD, r, hacc, p⟩
    rw [List.drop_length] at p
    have p' : PostG S (W σ) M H1 (PV S M Q) (.ok (.lst (ds ++ [])) L1) := p
    rw [List.append_nil] at p'
    exact p' H' x (Sim.lessx (y := [D0]) s) _ ⟨D0, acc, rfl, hD, dm, dx, RepAll.lessx (y := [D0]) ds acc r⟩
theorem de_lcV {e0 : Expr} {i : Nat} {k : DG} {vs : List Nat} {t : DT} {e : DE} {g : TG} (hK : X.K = S.K) (pt : PureT t) (pe : PureE e) (h : PE X e0 (tLc (iSeq X.K (tVar i)) g (tT S WF t) (tD S WF e) vs)) (h2 : PE X e0 (tLc (tI S W (iVal (dVar i))) g (tT S WF t) (tD S WF e) vs)) (hg : DoesGV S vs g k) : PE X e0 (tD S W (dLcV i k vs t e)) :=
  pe_imp (pe_or h h2) fun σ H Q => by
    rintro ⟨env, L, M, he, hs, hp⟩
    unfold dLcV at hp
    split at hp
    · rename_i n hi
      obtain ⟨v, hσ, a, rfl, hm⟩ := he.2 i _ hi
      split at hp
      · rename_i items hL
        split at hp
        · rename_i hfit
          obtain ⟨us, hus, ra⟩ := hs.at_ n a _ hm hL
          refine .inl ⟨_, hσ, a, rfl, .inl ⟨us, SqL.of hus, fun D0 hn => ?_⟩⟩
          rw [hK]
          exact lcR_core (W := W) hg pt pe he hs hm hL hfit hp D0 hn
        · exact hp.elim
      · exact hp.elim
    · exact .inr (lc_imp hg σ H Q ⟨env, L, M, he, hs, hp⟩)
/-! what changes nothing -/
theorem pure_yes : PureT dYes := fun env L b L' h => by cases h; rfl
theorem pure_var {i : Nat} : PureE (dVar i) := fun env L d L' h => by
  unfold dVar at h
  split at h
  · cases h; rfl
  · cases h
theorem pure_c {c : D} : PureE (dC c) := fun env L d L' h => by cases h; rfl
theorem pure_d2 {k : D → D → LH → R D} {f g : DE} (hk : ∀ a b L d L', k a b L = .ok d L' → L' = L) (hf : PureE f) (hg : PureE g) : PureE (d2 k f g) := fun env L d L' h => by
  unfold d2 at h
  cases e1 : f env L with
  | ok a L1 =>
    rw [e1] at h
    have h' : R.bind (g env L1) (fun b L2 => k a b L2) = .ok d L' := h
    cases e2 : g env L1 with
    | ok b L2 =>
      rw [e2] at h'
      have h3 : k a b L2 = .ok d L' := h'
      rw [hk _ _ _ _ _ h3, hg _ _ _ _ e2, hf _ _ _ _ e1]
    | exc _ _ => rw [e2] at h'; cases h'
    | no => rw [e2] at h'; cases h'
  | exc _ _ => rw [e1] at h; cases h
  | no => rw [e1] at h; cases h
theorem pure_dB {f : DE} (hf : PureE f) : PureT (dB f) := fun env L b L' h => by
  unfold dB at h
  cases e1 : f env L with
  | ok a L1 =>
    rw [e1] at h
    have q := hf _ _ _ _ e1
    cases a with
    | bl c =>
      have h' : R.ok c L1 = R.ok b L' := h
      cases h'; exact q
    | _ => cases h
  | exc _ _ => rw [e1] at h; cases h
  | no => rw [e1] at h; cases h
theorem pure_max {f : DE} (hf : PureE f) (hk : ∀ ds L d L', kMax ds L = .ok d L' → L' = L) : PureE (dL kMax (daCons f daNil)) := fun env L d L' h => by
  cases e1 : f env L with
  | ok a L1 =>
    have h' : kMax [a] L1 = .ok d L' := by
      have : dL kMax (daCons f daNil) env L = kMax [a] L1 := by
        show R.bind (R.bind (f env L) _) _ = _
        rw [e1]; rfl
      rw [← this]; exact h
    rw [hk _ _ _ _ h', hf _ _ _ _ e1]
  | exc _ _ =>
    have : dL kMax (daCons f daNil) env L = .exc ‹_› ‹_› := by
      show R.bind (R.bind (f env L) _) _ = _
      rw [e1]; rfl
    rw [this] at h; cases h
  | no =>
    have : dL kMax (daCons f daNil) env L = .no := by
      show R.bind (R.bind (f env L) _) _ = _
      rw [e1]; rfl
    rw [this] at h; cases h
theorem kmax_pure (ds : List D) (L : LH) (d : D) (L' : LH) (h : kMax ds L = .ok d L') : L' = L := by
  unfold kMax at h
  repeat' (split at h)
  all_goals first | (cases h; rfl) | cases h
theorem kgt_pure (a b : D) (L : LH) (d : D) (L' : LH) (h : kGt a b L = .ok d L') : L' = L := by
  unfold kGt k2I at h
  repeat' (split at h)
  all_goals first | (cases h; rfl) | cases h | skip
end DL

set_option Elab.async false
set_option linter.all false
set_option maxRecDepth 100000
set_option maxHeartbeats 1000000
namespace DL
open PySem PySem.Spec L2
/-! ### how the functions reckon -/
section
variable {α β : Type} {env : DEnv} {L L1 : LH}
@[simp] theorem bind_ok (a : α) (k : α → LH → R β) : (R.ok a L).bind k = k a L := rfl
@[simp] theorem toS_ok (a : α) (k : α → LH → SR) : (R.ok a L).toS env k = k a L := rfl
@[simp] theorem ev_c (d : D) : dC d env L = .ok d L := rfl
@[simp] theorem ev_var (i : Nat) (d : D) (h : env[i]? = some (some d)) : dVar i env L = .ok d L := by unfold dVar; rw [h]
@[simp] theorem ev_v0 (d : D) (r : DEnv) : dVar 0 (some d :: r) L = .ok d L := rfl
@[simp] theorem ev_vs (i : Nat) (o : Option D) (r : DEnv) : dVar (i + 1) (o :: r) L = dVar i r L := rfl
@[simp] theorem ev_d2 (k : D → D → LH → R D) (f g : DE) : d2 k f g env L = (f env L).bind fun a L1 => (g env L1).bind fun b L2 => k a b L2 := rfl
@[simp] theorem ev_d1 (k : D → LH → R D) (f : DE) : d1 k f env L = (f env L).bind k := rfl
@[simp] theorem ev_dL (k : List D → LH → R D) (g : DA) : dL k g env L = (g env L).bind k := rfl
@[simp] theorem ev_nil : daNil env L = .ok [] L := rfl
@[simp] theorem ev_cons (f : DE) (g : DA) : daCons f g env L = (f env L).bind fun a L1 => (g env L1).bind fun b L2 => .ok (a :: b) L2 := rfl
@[simp] theorem ev_call (n : Nat) (F : List D → LH → R D) (g : DA) : dCall n F g env L = (g env L).bind fun ds L1 => if ds.length = n then F ds L1 else .no := rfl
@[simp] theorem ev_ret (f : DE) : sRet f env L = (f env L).toS env fun d L1 => .rt d L1 := rfl
@[simp] theorem ev_set (i : Nat) (f : DE) : sSet i f env L = (f env L).toS env fun d L1 => .nx (env.set i (some d)) L1 := rfl
@[simp] theorem ev_expr (f : DE) : sExpr f env L = (f env L).toS env fun _ L1 => .nx env L1 := rfl
@[simp] theorem ev_if (t : DT) (f g : DS) : sIf t f g env L = (t env L).toS env fun b L1 => if b = true then f env L1 else g env L1 := rfl
@[simp] theorem ev_next : sNext env L = .nx env L := rfl
@[simp] theorem ev_for (f : DI) (k : DG) (b : DS) : sFor f k b env L = (f env L).toS env fun items L1 => forD k b items env L1 := rfl
@[simp] theorem ev_while (n : Nat) (t : DT) (b : DS) : sWhile n t b env L = whileD t b n env L := rfl
@[simp] theorem ev_seqN (f g : DS) {env1 : DEnv} (h : f env L = .nx env1 L1) : sSeq f g env L = g env1 L1 := by unfold sSeq; rw [h]
theorem seq_nx (f g : DS) {env1 : DEnv} (h : f env L = .nx env1 L1) : sSeq f g env L = g env1 L1 := by unfold sSeq; rw [h]
theorem seq_rt (f g : DS) {d : D} (h : f env L = .rt d L1) : sSeq f g env L = .rt d L1 := by unfold sSeq; rw [h]
@[simp] theorem ev_and (f g : DT) : dAnd f g env L = (f env L).bind fun b L1 => if b = true then g env L1 else .ok false L1 := rfl
@[simp] theorem ev_or (f g : DT) : dOr f g env L = (f env L).bind fun b L1 => if b = true then .ok true L1 else g env L1 := rfl
@[simp] theorem ev_not (f : DT) : dNot f env L = (f env L).bind fun b L1 => .ok (!b) L1 := rfl
@[simp] theorem ev_dB (f : DE) : dB f env L = (f env L).bind fun d L1 => match d with
  | .bl b => .ok b L1
  | _ => .no := rfl
@[simp] theorem ev_dIf (t : DT) (f g : DE) : dIf t f g env L = (t env L).bind fun b L1 => if b = true then f env L1 else g env L1 := rfl
@[simp] theorem ev_truth (f : DE) : dTruth f env L = (f env L).bind fun d L1 => match truD L1 d with
  | some b => .ok b L1
  | none => .no := rfl
@[simp] theorem ev_yes : dYes env L = .ok true L := rfl
@[simp] theorem k_lt (i j : Int) : kLt (.int i) (.int j) L = .ok (.bl (decide (i < j))) L := rfl
@[simp] theorem k_le (i j : Int) : kLe (.int i) (.int j) L = .ok (.bl (decide (i ≤ j))) L := rfl
@[simp] theorem k_gt (i j : Int) : kGt (.int i) (.int j) L = .ok (.bl (decide (j < i))) L := rfl
@[simp] theorem k_ge (i j : Int) : kGe (.int i) (.int j) L = .ok (.bl (decide (j ≤ i))) L := rfl
@[simp] theorem k_plusI (i j : Int) : kPlus (.int i) (.int j) L = .ok (.int (i + j)) L := rfl
@[simp] theorem k_sub (i j : Int) : kSub (.int i) (.int j) L = .ok (.int (i - j)) L := rfl
@[simp] theorem k_times (i j : Int) (h : mulOk i j = true) : kTimes (.int i) (.int j) L = .ok (.int (i * j)) L := by unfold kTimes; simp [h]
@[simp] theorem k_mod (i j : Int) (h : 0 < j) : kMod (.int i) (.int j) L = .ok (.int (i % j)) L := by unfold kMod k2I; simp [h, orNo]
theorem eq_int (i j : Int) : kEq (.int i) (.int j) L = R.ok (D.bl (i == j)) L := by
  unfold kEq eqD
  show (match (if SeqAt.shaped (.int i) && SeqAt.shaped (.int j) then some (PyData.eqv (.int i) (.int j)) else none) with | some r => R.ok (D.bl r) L | none => .no) = _
  have h : ∀ k : Int, SeqAt.shaped (.int k) = true := fun k => by rfl
  rw [h, h]
  rfl
end
end DL

set_option Elab.async false
set_option linter.all false
set_option maxRecDepth 100000
set_option maxHeartbeats 1000000
namespace Law
open PySem PySem.Spec L2 DL PM
theorem leave_same (L : LH) (d : D) : leave L L d = .ok d L := by unfold leave; rw [if_pos rfl]
theorem fnD_rt {N : Nat} {body : DS} {ds : List D} {L : LH} {d : D} (h : body (startD N ds) L = .rt d L) : fnD N body ds L = .ok d L := by
  unfold fnD; rw [h]; exact leave_same L d
theorem fnD_nx {N : Nat} {body : DS} {ds : List D} {L : LH} {e : DEnv} (h : body (startD N ds) L = .nx e L) : fnD N body ds L = .ok .non L := by
  unfold fnD; rw [h]; exact leave_same L .non
/-- the same place, written to -/
theorem fnD_rtL {N : Nat} {body : DS} {ds : List D} {L L' : LH} {d : D} (h : body (startD N ds) L = .rt d L') (e : L'.length = L.length) : fnD N body ds L = .ok d L' := by
  unfold fnD; rw [h]; show leave L L' d = _; unfold leave; rw [if_pos e]
abbrev LI (l : List Int) : List D := l.map D.int
abbrev PI (l : List Int) : D := .tup (LI l)
theorem lc_cons {k : DG} {vs : List Nat} {t : DT} {e : DE} {env env1 : DEnv} {L L1 L2 L3 : LH} {d y : D} {ds ys : List D} (h1 : k d (wipeD env vs) = some env1) (h2 : t env1 L = .ok true L1) (h3 : e env1 L1 = .ok y L2) (h4 : lcD k vs t e env ds L2 = .ok ys L3) : lcD k vs t e env (d :: ds) L = .ok (y :: ys) L3 := by
  simp only [lcD, h1, h2, h3, h4, noX, R.bind, if_true]
theorem lc_skip {k : DG} {vs : List Nat} {t : DT} {e : DE} {env env1 : DEnv} {L L1 L3 : LH} {d : D} {ds ys : List D} (h1 : k d (wipeD env vs) = some env1) (h2 : t env1 L = .ok false L1) (h4 : lcD k vs t e env ds L1 = .ok ys L3) : lcD k vs t e env (d :: ds) L = .ok ys L3 := by
  simp [lcD, h1, h2, h4, noX, R.bind]
theorem lc_map {k : DG} {vs : List Nat} {e : DE} {env : DEnv} {L : LH} {g : D → D} : ∀ (items : List D), (∀ d ∈ items, ∃ env1, k d (wipeD env vs) = some env1 ∧ e env1 L = .ok (g d) L) → lcD k vs dYes e env items L = .ok (items.map g) L
  | [], _ => rfl
  | d :: ds, h => by
    obtain ⟨env1, h1, h2⟩ := h d (by simp)
    exact lc_cons h1 rfl h2 (lc_map (g := g) ds (fun x hx => h x (by simp [hx])))
theorem lc_int {i : Nat} {e : DE} {env : DEnv} {L : LH} {f : Int → Int} (l : List Int) (h : ∀ a ∈ l, e ((wipeD env [i]).set i (some (.int a))) L = .ok (.int (f a)) L) : lcD (gSet i) [i] dYes e env (LI l) L = .ok (LI (l.map f)) L := by
  have := lc_map (k := gSet i) (vs := [i]) (e := e) (env := env) (L := L) (g := fun d => match d with | .int a => .int (f a) | d => d) (LI l) (fun d hd => by
    obtain ⟨a, ha, rfl⟩ := List.mem_map.mp hd
    exact ⟨_, rfl, h a ha⟩)
  rw [this]
  simp [LI, List.map_map, Function.comp_def]
theorem lc_zip {i j : Nat} {e : DE} {env : DEnv} {L : LH} {f : Int → Int → Int} : ∀ (l r : List Int), (∀ a b, a ∈ l → b ∈ r → e (((wipeD env [i, j]).set i (some (.int a))).set j (some (.int b))) L = .ok (.int (f a b)) L) → lcD (gSet2 i j) [i, j] dYes e env (zipD (LI l) (LI r)) L = .ok (LI (List.zipWith f l r)) L
  | [], r, _ => by simp [zipD, lcD]
  | a :: l, [], _ => by simp [zipD, lcD]
  | a :: l, b :: r, h => by
    have ih := lc_zip (f := f) l r (fun x y hx hy => h x y (by simp [hx]) (by simp [hy]))
    have h2 := h a b (by simp) (by simp)
    exact lc_cons (ds := zipD (LI l) (LI r)) (d := .tup [.int a, .int b]) rfl rfl h2 ih
theorem while_go {t : DT} {b : DS} {n : Nat} {env env2 : DEnv} {L L1 L2 : LH} (h : t env L = .ok true L1) (k : b env L1 = .nx env2 L2) : whileD t b (n + 1) env L = whileD t b n env2 L2 := by
  simp [whileD, h, k, R.toS]
theorem while_end {t : DT} {b : DS} {n : Nat} {env : DEnv} {L L1 : LH} (h : t env L = .ok false L1) : whileD t b (n + 1) env L = .nx env L1 := by
  simp [whileD, h, R.toS]
theorem for_go {k : DG} {b : DS} {d : D} {ds : List D} {env env1 env2 : DEnv} {L L2 : LH} (h : k d env = some env1) (h2 : b env1 L = .nx env2 L2) : forD k b (d :: ds) env L = forD k b ds env2 L2 := by
  simp [forD, h, h2]
theorem and_t {f g : DT} {env : DEnv} {L L1 : LH} (h : f env L = .ok true L1) : dAnd f g env L = g env L1 := by simp [h]
theorem and_f {f g : DT} {env : DEnv} {L L1 : LH} (h : f env L = .ok false L1) : dAnd f g env L = .ok false L1 := by simp [h]
theorem or_t {f g : DT} {env : DEnv} {L L1 : LH} (h : f env L = .ok true L1) : dOr f g env L = .ok true L1 := by simp [h]
theorem or_f {f g : DT} {env : DEnv} {L L1 : LH} (h : f env L = .ok false L1) : dOr f g env L = g env L1 := by simp [h]
theorem not_b {f : DT} {env : DEnv} {L L1 : LH} {b : Bool} (h : f env L = .ok b L1) : dNot f env L = .ok (!b) L1 := by simp [h]
theorem dB_b {f : DE} {env : DEnv} {L L1 : LH} {b : Bool} (h : f env L = .ok (.bl b) L1) : dB f env L = .ok b L1 := by simp [h]
theorem truth_b {f : DE} {env : DEnv} {L L1 : LH} {d : D} {b : Bool} (h : f env L = .ok d L1) (k : truD L1 d = some b) : dTruth f env L = .ok b L1 := by simp [h, k]
theorem if_t {t : DT} {f g : DS} {env : DEnv} {L L1 : LH} (h : t env L = .ok true L1) : sIf t f g env L = f env L1 := by simp [h]
theorem if_f {t : DT} {f g : DS} {env : DEnv} {L L1 : LH} (h : t env L = .ok false L1) : sIf t f g env L = g env L1 := by simp [h]
theorem ret_ok {f : DE} {env : DEnv} {L L1 : LH} {d : D} (h : f env L = .ok d L1) : sRet f env L = .rt d L1 := by simp [h]
theorem set_ok {i : Nat} {f : DE} {env : DEnv} {L L1 : LH} {d : D} (h : f env L = .ok d L1) : sSet i f env L = .nx (env.set i (some d)) L1 := by simp [h]
theorem expr_ok {f : DE} {env : DEnv} {L L1 : LH} {d : D} (h : f env L = .ok d L1) : sExpr f env L = .nx env L1 := by simp [h]
theorem d2_ok {k : D → D → LH → R D} {f g : DE} {env : DEnv} {L L1 L2 : LH} {a b : D} (h : f env L = .ok a L1) (h2 : g env L1 = .ok b L2) : d2 k f g env L = k a b L2 := by simp [h, h2]
theorem d1_ok {k : D → LH → R D} {f : DE} {env : DEnv} {L L1 : LH} {a : D} (h : f env L = .ok a L1) : d1 k f env L = k a L1 := by simp [h]
theorem dL_ok {k : List D → LH → R D} {g : DA} {env : DEnv} {L L1 : LH} {a : List D} (h : g env L = .ok a L1) : dL k g env L = k a L1 := by simp [h]
theorem ca_ok {f : DE} {g : DA} {env : DEnv} {L L1 L2 : LH} {a : D} {b : List D} (h : f env L = .ok a L1) (h2 : g env L1 = .ok b L2) : daCons f g env L = .ok (a :: b) L2 := by simp [h, h2]
theorem cn_ok {env : DEnv} {L : LH} : daNil env L = .ok [] L := rfl
theorem call_ok {n : Nat} {F : List D → LH → R D} {g : DA} {env : DEnv} {L L1 : LH} {a : List D} (h : g env L = .ok a L1) (hn : a.length = n) : dCall n F g env L = F a L1 := by simp [h, hn]
theorem par_ok {i j : Nat} {g : DA} {env : DEnv} {L L1 : LH} {a b : D} (h : g env L = .ok [a, b] L1) : sPar i j g env L = .nx ((env.set i (some a)).set j (some b)) L1 := by unfold sPar; rw [h]; rfl
theorem slice_ok {f : DE} {g h : DO} {env : DEnv} {L : LH} {a : D} {lo hi : Option Int} (h1 : f env L = .ok a L) (h2 : g env L = .ok lo L) (h3 : h env L = .ok hi L) : dSlice f g h env L = kSlice lo hi a L := by unfold dSlice; rw [h1]; show R.bind (g env L) _ = _; rw [h2]; show R.bind (h env L) _ = _; rw [h3]; rfl
theorem for_nil {k : DG} {b : DS} {env : DEnv} {L : LH} : forD k b [] env L = .nx env L := rfl
theorem zipD_len (l r : List D) : (zipD l r).length ≤ l.length := by simp [zipD]; omega
theorem fits_le {n m : Nat} (h : m ≤ 16777216) (k : n ≤ m) : fits n = true := by unfold fits; simp; omega
theorem dLc_ok {f : DI} {k : DG} {vs : List Nat} {t : DT} {e : DE} {env : DEnv} {L L1 : LH} {items ys : List D} (h1 : f env L = .ok items L1) (h2 : items.length ≤ 16777216) {L2 : LH} (h3 : lcD k vs t e env items L1 = .ok ys L2) : dLc f k vs t e env L = .ok (.lst ys) L2 := by
  unfold dLc; rw [h1]; show (if _ then _ else _) = _; rw [if_pos (fits_le (Nat.le_refl _) h2), h3]; rfl
@[simp] theorem k_tupOfT (ds : List D) (L : LH) : kTupleOf [.tup ds] L = .ok (.tup ds) L := rfl
@[simp] theorem k_tupOfL (ds : List D) (L : LH) : kTupleOf [.lst ds] L = .ok (.tup ds) L := rfl
@[simp] theorem k_lstOfT (ds : List D) (L : LH) : kListOf [.tup ds] L = .ok (.lst ds) L := rfl
@[simp] theorem k_lenT (ds : List D) (L : LH) : kLen [.tup ds] L = .ok (.int ds.length) L := rfl
@[simp] theorem k_lenL (ds : List D) (L : LH) : kLen [.lst ds] L = .ok (.int ds.length) L := rfl
theorem small_mul {i j : Int} (h : 0 ≤ i) (k : i < 100) : mulOk i j = true := by
  unfold mulOk DL.small64
  have : decide (-(2 ^ 64) < i ∧ i < 2 ^ 64) = true := by simp; omega
  rw [this]; rfl
theorem getI (l : List Int) (i : Nat) (h : i < l.length) : (LI l)[i]? = some (.int (co l i)) := by
  rw [List.getElem?_map, List.getElem?_eq_getElem h]
  unfold co; rw [List.getD_eq_getElem?_getD, List.getElem?_eq_getElem h]; rfl
theorem atI_co (l : List Int) (i : Nat) (h : i < l.length) : atI (LI l) (i : Int) = some (.int (co l i)) := by
  unfold atI ixN
  rw [if_pos (by omega), List.length_map, if_pos (by omega)]
  exact getI l i h
theorem atI_last (l : List Int) (h : l ≠ []) : atI (LI l) (-1) = some (.int (co l (l.length - 1))) := by
  have hl : l.length ≠ 0 := fun e => h (List.length_eq_zero_iff.mp e)
  unfold atI ixN
  rw [if_neg (by omega), List.length_map, if_pos (by omega)]
  show (LI l)[((-1 : Int) + (l.length : Int)).toNat]? = _
  have : ((-1 : Int) + (l.length : Int)).toNat = l.length - 1 := by omega
  rw [this]
  exact getI l _ (by omega)
theorem rep_flat (n : Nat) (c : Int) : (List.replicate n [D.int c]).flatten = LI (List.replicate n c) := by
  induction n with
  | zero => rfl
  | succ n ih => simp [List.replicate_succ, ih]
theorem repOk_i {n : Int} (h : -100000 ≤ n) (k : n ≤ 100000) : repOk 1 n = true := by
  unfold repOk fits; simp; omega
theorem k_timesT {n : Int} (c : Int) (h : -100000 ≤ n) (k : n ≤ 100000) (L : LH) : DL.kTimes (.tup [.int c]) (.int n) L = .ok (PI (List.replicate n.toNat c)) L := by
  show (if repOk 1 n then _ else _) = _
  rw [if_pos (repOk_i h k)]
  show R.ok (D.tup (List.replicate n.toNat [D.int c]).flatten) L = _
  rw [rep_flat]
theorem k_timesL {n : Int} (c : Int) (h : -100000 ≤ n) (k : n ≤ 100000) (L : LH) : DL.kTimes (.lst [.int c]) (.int n) L = .ok (.lst (LI (List.replicate n.toNat c))) L := by
  show (if repOk 1 n then _ else _) = _
  rw [if_pos (repOk_i h k)]
  show R.ok (D.lst (List.replicate n.toNat [D.int c]).flatten) L = _
  rw [rep_flat]
theorem k_plusT {l r : List Int} (h : l.length + r.length ≤ 100000) (L : LH) : kPlus (PI l) (PI r) L = .ok (PI (l ++ r)) L := by
  show plusSeq L (PI l) (PI r) = _
  unfold plusSeq
  simp only [tupD, PI, List.length_map]
  rw [if_pos (fits_le (m := 100000) (by omega) h)]; simp [LI]
theorem k_plusL {l r : List Int} (h : l.length + r.length ≤ 100000) (L : LH) : kPlus (.lst (LI l)) (.lst (LI r)) L = .ok (.lst (LI (l ++ r))) L := by
  show plusSeq L (.lst (LI l)) (.lst (LI r)) = _
  unfold plusSeq
  simp only [tupD, lstD, List.length_map]
  rw [if_pos (fits_le (m := 100000) (by omega) h)]; simp [LI]
theorem cut_to (l : List Int) (n : Nat) (h : n ≤ l.length) : cutD (LI l) none (some (n : Int)) = LI (l.take n) := by
  unfold cutD
  have h1 : HT.sIx (LI l).length 0 none = 0 := rfl
  have h2 : HT.sIx (LI l).length (LI l).length (some (n : Int)) = n := by
    have hl : (LI l).length = l.length := by simp
    rw [hl]; unfold HT.sIx; simp only []; split <;> omega
  rw [h1, h2]
  simp [LI, List.map_take]
theorem seqD_ix {L : LH} {d : D} {b : Bool} {l : List Int} (h : seqD L d = some (b, LI l)) (i : Nat) (hi : i < l.length) : kIx d (.int (i : Int)) L = .ok (.int (co l i)) L := by
  unfold kIx; rw [h]; show orNo (atI (LI l) (i : Int)) L = _; rw [atI_co l i hi]; rfl
theorem slice_to {L : LH} {d : D} {b : Bool} {l : List Int} (h : seqD L d = some (b, LI l)) (n : Nat) (hn : n ≤ l.length) : ∃ a, kSlice none (some (n : Int)) d L = .ok a L ∧ kTupleOf [a] L = .ok (PI (l.take n)) L := by
  have hc := cut_to l n hn
  cases d with
  | tup xs => cases h; exact ⟨.tup (cutD (LI l) none (some (n : Int))), rfl, by rw [hc]; rfl⟩
  | lst xs => cases h; exact ⟨.lst (cutD (LI l) none (some (n : Int))), rfl, by rw [hc]; rfl⟩
  | frl xs => cases h; exact ⟨.lst (cutD (LI l) none (some (n : Int))), rfl, by rw [hc]; rfl⟩
  | ref k =>
    have hb : b = false := by
      unfold seqD at h; split at h <;> simp_all
      split at h <;> simp_all
    subst hb
    refine ⟨.lst (cutD (LI l) none (some (n : Int))), ?_, by rw [hc]; rfl⟩
    unfold kSlice
    simp only [h]
  | _ => simp [seqD] at h
theorem seqT (L : LH) (l : List Int) : seqD L (PI l) = some (true, LI l) := rfl
theorem seqL (L : LH) (l : List Int) : seqD L (.lst (LI l)) = some (false, LI l) := rfl
theorem mulOk_sm {i j : Int} (h : -100 < i) (k : i < 100) : mulOk i j = true := by
  unfold mulOk DL.small64
  have : decide (-(2 ^ 64) < i ∧ i < 2 ^ 64) = true := by simp; omega
  rw [this]; rfl
theorem inR_ok (n : Nat) (hn : n ≤ 1000000) : inR (n : Int) = true := by
  have h1 : (-(2 ^ 62) : Int) ≤ (n : Int) := by omega
  have h2 : (n : Int) < (2 ^ 62 : Int) := by omega
  unfold inR
  exact decide_eq_true (And.intro h1 h2)
theorem range1_gen {f : DE} {env : DEnv} {L : LH} {j : Int} (h : f env L = .ok (.int j) L) (hn : inR j = true) : iRange1 (daCons f daNil) env L = .ok (rangeD 0 j.toNat) L := by
  unfold iRange1
  rw [ca_ok h cn_ok]
  show (if inR j = true then R.ok (rangeD 0 j.toNat) L else .no) = _
  rw [if_pos hn]
theorem range1_ok {f : DE} {env : DEnv} {L : LH} {n : Nat} (h : f env L = .ok (.int (n : Int)) L) (hn : n ≤ 1000000) : iRange1 (daCons f daNil) env L = .ok (rangeD 0 n) L := by
  have := range1_gen h (inR_ok n hn)
  rw [Int.toNat_natCast] at this
  exact this
def Low (L : LH) : Prop := L.all (lowO L.length) = true
theorem low_LI (b : Nat) : ∀ l : List Int, lowAll b (LI l) = true
  | [] => rfl
  | a :: l => by
    show (low b (.int a) && lowAll b (LI l)) = true
    rw [low_LI b l]; rfl
theorem frz_LI (b : Nat) (L : LH) : ∀ l : List Int, frzAll b L (LI l) = some (LI l)
  | [] => rfl
  | a :: l => by
    show frzAll b L (.int a :: LI l) = _
    unfold frzAll
    rw [frz_LI b L l]; rfl
theorem frz_PI (b : Nat) (L : LH) (l : List Int) : frzD b L (PI l) = some (PI l) := by
  show (frzAll b L (LI l)).map D.tup = _
  rw [frz_LI]; rfl
theorem frz_2 (b : Nat) (L : LH) (l r : List Int) : frzD b L (.tup [PI l, PI r]) = some (.tup [PI l, PI r]) := by
  show (frzAll b L [PI l, PI r]).map D.tup = _
  unfold frzAll frzAll frzAll
  rw [frz_PI, frz_PI]; rfl
theorem fnD_low {N : Nat} {body : DS} {ds : List D} {L ex : LH} {d d' : D} (h : body (startD N ds) L = .rt d (L ++ ex)) (he : ex ≠ []) (hd : frzD L.length (L ++ ex) d = some d') (hL : Low L) : fnD N body ds L = .ok d' L := by
  unfold fnD; rw [h]
  show leave L (L ++ ex) d = _
  unfold leave
  rw [if_neg (by
    rw [List.length_append]
    have : ex.length ≠ 0 := fun e => he (List.length_eq_zero_iff.mp e)
    omega), hd, List.take_left']
  · show (if L.all (lowO L.length) = true then R.ok d' L else .no) = _
    exact if_pos hL
  · rfl
theorem ref_seq {L : LH} {n : Nat} {F : List Int} (h : L[n]? = some (.lst (LI F))) : seqD L (.ref n) = some (false, LI F) := by
  show (match L[n]? with | some (.lst ds) => some (false, ds) | _ => none) = _
  rw [h]
theorem set_ref {L : LH} {n i : Nat} {F : List Int} {c : Int} (h : L[n]? = some (.lst (LI F))) (hi : i < F.length) : kSetIx (.ref n) (.int (i : Int)) (.int c) L = .ok () (L.set n (.lst (LI (F.set i c)))) := by
  have e : ixN (LI F).length (i : Int) = some i := by
    unfold ixN; rw [if_pos (by omega), List.length_map, if_pos (by omega)]; rfl
  unfold kSetIx
  simp only [h, e]
  congr 3
  simp [LI]
theorem setIx_ok {f g h : DE} {env : DEnv} {L L' : LH} {a i d : D} (h1 : h env L = .ok d L) (h2 : f env L = .ok a L) (h3 : g env L = .ok i L) (h4 : kSetIx a i d L = .ok () L') : sSetIx f g h env L = .nx env L' := by
  simp [sSetIx, h1, h2, h3, h4, R.toS]
def enumF : Nat → List Int → List D
  | _, [] => []
  | o, b :: bs => .tup [.int (o : Int), .int b] :: enumF (o + 1) bs
theorem enumD_F (l : List Int) : enumD (LI l) = enumF 0 l := by
  have key : ∀ (l : List Int) (s : Nat), ((List.range' s l.length).zip (LI l)).map (fun p => D.tup [.int (p.1 : Nat), p.2]) = enumF s l := by
    intro l
    induction l with
    | nil => intro s; rfl
    | cons a l ih => intro s; simp only [List.length_cons, List.range'_succ, LI, List.map_cons, List.zip_cons_cons, enumF]; rw [← ih (s + 1)]
  unfold enumD
  rw [List.length_map, List.range_eq_range']
  exact key l 0
theorem set_same {L : LH} {n : Nat} {x : LO} (h : L[n]? = some x) : L.set n x = L := by
  apply List.ext_getElem?
  intro i
  rw [List.getElem?_set]
  split
  · rename_i e; subst e
    split
    · exact h.symm
    · rename_i q; rw [List.getElem?_eq_none (by omega)] at h; cases h
  · rfl
theorem set_get {L : LH} {n : Nat} {x y : LO} (h : L[n]? = some x) : (L.set n y)[n]? = some y := by
  rw [List.getElem?_set, if_pos rfl]
  rw [if_pos]
  rcases Nat.lt_or_ge n L.length with q | q
  · exact q
  · rw [List.getElem?_eq_none q] at h; cases h
theorem get_app (L : LH) (x : LO) (ex : LH) : (L ++ x :: ex)[L.length]? = some x := by simp
theorem rep_new {f g : DE} {env : DEnv} {L : LH} {k : Int} (hf : f env L = .ok (.lst [.int 0]) L) (hg : g env L = .ok (.int k) L) (h : -100000 ≤ k) (h' : k ≤ 100000) : fRep f g env L = .ok (LI (List.replicate k.toNat 0)) L := by
  unfold fRep
  rw [hf]
  show R.bind (g env L) _ = _
  rw [hg]
  show (if repOk 1 k then R.ok (List.replicate k.toNat [D.int 0]).flatten L else .no) = _
  rw [if_pos (repOk_i h h'), rep_flat]
theorem red_small {p : Int} (hp : pr p) {l : List Int} (h : Red p l) (i : Nat) : -100 < co l i ∧ co l i < 100 := by
  have := h i; unfold pr at hp; omega
theorem mod_small {p : Int} (hp : pr p) (x : Int) : 0 ≤ x % p ∧ x % p < p ∧ x % p < 100 := by
  have h1 := Int.emod_nonneg x (show p ≠ 0 by unfold pr at hp; omega)
  have h2 := Int.emod_lt_of_pos x (pr_pos hp)
  unfold pr at hp; omega
theorem last_pos {p : Int} {b : List Int} (hb : Red p b) (tb : trim b = b) (nb : b ≠ []) : 0 < co b (b.length - 1) ∧ co b (b.length - 1) < p := by
  have := trim_top tb nb
  have := hb (b.length - 1)
  omega
def revF : Nat → List D
  | 0 => []
  | k + 1 => .int (k : Int) :: revF k
theorem revD_F (k : Nat) : revD (k : Int) = revF k := by
  induction k with
  | zero => rfl
  | succ k ih =>
    unfold revD at ih ⊢
    rw [Int.toNat_natCast] at ih ⊢
    rw [List.range_succ_eq_map, List.map_cons, List.map_map, revF, ← ih]
    congr 1
    · congr 1; omega
    · apply List.map_congr_left
      intro i _
      show D.int _ = D.int _
      congr 1
      simp only [Nat.succ_eq_add_one]; omega
theorem rev_ok {f : DE} {env : DEnv} {L : LH} {n : Int} (h : f env L = .ok (.int n) L) (h0 : -1000 ≤ n) (h1 : n ≤ 1000) : DL.iRev f env L = .ok (revF n.toNat) L := by
  have hi : inR n = true := by
    have a1 : (-(2 ^ 62) : Int) ≤ n := by omega
    have a2 : n < (2 ^ 62 : Int) := by omega
    unfold inR; exact decide_eq_true (And.intro a1 a2)
  unfold DL.iRev
  rw [h]
  show (if inR n = true then R.ok (revD n) L else .no) = _
  rw [if_pos hi]
  congr 1
  rcases Int.lt_or_le n 0 with q | q
  · have : n.toNat = 0 := by omega
    rw [this]; unfold revD; rw [this]; rfl
  · rw [← revD_F]; congr 1; omega
theorem last_ok {f : DE} {env : DEnv} {L : LH} {b : List Int} (nb : b ≠ []) (h : f env L = .ok (PI b) L) : d2 kIx f (d1 kNeg (dC (.int 1))) env L = .ok (.int (co b (b.length - 1))) L := by
  refine (d2_ok (a := PI b) (b := .int (-1)) (L1 := L) (L2 := L) h rfl).trans ?_
  show orNo (atI (LI b) (-1)) L = _
  rw [atI_last b nb]; rfl
def Shp (d : D) : Prop := ∃ x, deep d = some x ∧ x.canLay0 = true ∧ x.depth ≤ 64
theorem deep_LI : ∀ l : List Int, deepAll (LI l) = some (l.map PyData.int)
  | [] => rfl
  | a :: l => by
    show deepAll (.int a :: LI l) = _
    unfold deepAll
    rw [deep_LI l]; rfl
theorem lay_LI : ∀ l : List Int, PyData.canLayAll0 (l.map PyData.int) = true
  | [] => rfl
  | a :: l => by
    show PyData.canLayAll0 (.int a :: l.map PyData.int) = true
    unfold PyData.canLayAll0
    rw [lay_LI l]; rfl
theorem dep_LI : ∀ l : List Int, PyData.depthAll (l.map PyData.int) = 0
  | [] => rfl
  | a :: l => by
    show PyData.depthAll (.int a :: l.map PyData.int) = 0
    unfold PyData.depthAll
    rw [dep_LI l]; rfl
theorem deep_PI (l : List Int) : deep (PI l) = some (.tuple (l.map PyData.int)) := by
  show (deepAll (LI l)).map PyData.tuple = _
  rw [deep_LI]; rfl
theorem lay_PI (l : List Int) : PyData.canLay0 (.tuple (l.map PyData.int)) = true := by
  unfold PyData.canLay0; exact lay_LI l
theorem dep_PI (l : List Int) : PyData.depth (.tuple (l.map PyData.int)) = 1 := by
  unfold PyData.depth; rw [dep_LI]
theorem shp_PI (l : List Int) : Shp (PI l) := ⟨_, deep_PI l, lay_PI l, by rw [dep_PI]; omega⟩
theorem shaped_of {x : PyData} (h : x.canLay0 = true) (k : x.depth ≤ 64) : SeqAt.shaped x = true := by
  unfold SeqAt.shaped; rw [h, decide_eq_true k]; rfl
theorem deepL_of {d : D} {x : PyData} (h : deep d = some x) (L : LH) : deepL L d = some x := by
  cases d <;> first | exact h | (simp [deep] at h)
theorem ne_same {d : D} (h : Shp d) (L : LH) : kNe d d L = .ok (.bl false) L := by
  obtain ⟨x, h1, h2, h3⟩ := h
  have : eqD L d d = some true := by
    unfold eqD
    rw [deepL_of h1]
    show (if SeqAt.shaped x && SeqAt.shaped x then some (PyData.eqv x x) else none) = _
    rw [shaped_of h2 h3, SeqAt.eqv_refl x h2]; rfl
  unfold kNe; rw [this]; rfl
theorem eq_same {d : D} (h : Shp d) (L : LH) : kEq d d L = .ok (.bl true) L := by
  obtain ⟨x, h1, h2, h3⟩ := h
  have : eqD L d d = some true := by
    unfold eqD
    rw [deepL_of h1]
    show (if SeqAt.shaped x && SeqAt.shaped x then some (PyData.eqv x x) else none) = _
    rw [shaped_of h2 h3, SeqAt.eqv_refl x h2]; rfl
  unfold kEq; rw [this]
theorem eqD_nil (l : List Int) (L : LH) : eqD L (PI l) (.tup []) = some l.isEmpty := by
  show eqD L (PI l) (PI []) = _
  unfold eqD
  rw [deepL_of (deep_PI l), deepL_of (deep_PI [])]
  show (if SeqAt.shaped (.tuple (l.map PyData.int)) && SeqAt.shaped (.tuple (([] : List Int).map PyData.int)) then some (PyData.eqv (.tuple (l.map PyData.int)) (.tuple (([] : List Int).map PyData.int))) else none) = _
  rw [shaped_of (lay_PI l) (by rw [dep_PI]; omega), shaped_of (lay_PI []) (by rw [dep_PI]; omega)]
  cases l <;> rfl
theorem ne_nil (l : List Int) (L : LH) : kNe (PI l) (.tup []) L = .ok (.bl (!l.isEmpty)) L := by unfold kNe; rw [eqD_nil]
theorem eq_nil (l : List Int) (L : LH) : kEq (PI l) (.tup []) L = .ok (.bl l.isEmpty) L := by unfold kEq; rw [eqD_nil]
theorem tru_PI (l : List Int) (L : LH) : truD L (PI l) = some (!l.isEmpty) := by
  show some (!(LI l).isEmpty) = _
  cases l <;> rfl
theorem ix1_ok {f : DE} {env : DEnv} {L : LH} {x y : D} (h : f env L = .ok (.tup [x, y]) L) : d2 kIx f (dC (.int 1)) env L = .ok y L := (d2_ok h rfl).trans rfl
theorem ix0_ok {f : DE} {env : DEnv} {L : LH} {x y : D} (h : f env L = .ok (.tup [x, y]) L) : d2 kIx f (dC (.int 0)) env L = .ok x L := (d2_ok h rfl).trans rfl
theorem emp {l : List Int} (h : l ≠ []) : l.isEmpty = false := by
  cases l with
  | nil => exact absurd rfl h
  | cons a l => rfl
def Tri (n : Nat) (L : LH) : Prop := Low L ∧ ∃ a b c : Int, L[n]? = some (.lst (LI [a, b, c]))
def Ev (n : Nat) (L L' : LH) : Prop := Tri n L' ∧ L'.length = L.length
theorem Ev.refl {n : Nat} {L : LH} (h : Tri n L) : Ev n L L := ⟨h, rfl⟩
theorem Ev.trans {n : Nat} {L L1 L2 : LH} (h : Ev n L L1) (k : Ev n L1 L2) : Ev n L L2 := ⟨k.1, k.2.trans h.2⟩
theorem low_set {L : LH} (h : Low L) {n : Nat} {x : LO} (hx : ∀ b, lowO b x = true) : Low (L.set n x) := by
  unfold Low at *
  rw [List.length_set, List.all_eq_true]
  intro y hy
  rcases List.mem_or_eq_of_mem_set hy with q | q
  · exact (List.all_eq_true.mp h) y q
  · rw [q]; exact hx _
theorem low_ints (l : List Int) (b : Nat) : lowO b (.lst (LI l)) = true := low_LI b l
theorem ev_set {L : LH} {n : Nat} (h : Tri n L) (a b c : Int) : Ev n L (L.set n (.lst (LI [a, b, c]))) := by
  obtain ⟨h1, x, y, z, h2⟩ := h
  exact ⟨⟨low_set h1 (low_ints _), a, b, c, set_get h2⟩, by simp⟩
theorem pot_ix {L : LH} {n : Nat} {l : List Int} (h : L[n]? = some (.lst (LI l))) (i : Nat) (hi : i < l.length) {f g : DE} {env : DEnv} (hf : f env L = .ok (.ref n) L) (hg : g env L = .ok (.int (i : Int)) L) : d2 kIx f g env L = .ok (.int (co l i)) L := (d2_ok hf hg).trans (seqD_ix (ref_seq h) i hi)
theorem k_divW (i j : Int) (h : 0 < j) (k : j ≤ 100000) (L : LH) : kDivW (.int i) (.int j) L = .ok (.int (i / j)) L := by
  have : j.natAbs.log2 < 9000 := by
    obtain ⟨n, rfl⟩ : ∃ n : Nat, j = (n : Int) := ⟨j.toNat, by omega⟩
    rw [Int.natAbs_natCast]
    have hn : n ≠ 0 := by omega
    exact Nat.lt_of_lt_of_le ((Nat.log2_lt hn).mpr (by show n < 2 ^ 17; omega)) (by omega)
  unfold kDivW k2I
  simp [h, this, orNo]
theorem big_mul {i j : Int} (h : 0 ≤ i) (k : i < 2305843009213693951) : mulOk i j = true := by
  unfold mulOk DL.small64
  have : decide (-(2 ^ 64) < i ∧ i < 2 ^ 64) = true := by simp; omega
  rw [this]; rfl
theorem int_of {f : DE} {env : DEnv} {L L1 : LH} {i : Int} (h : f env L = .ok (.int i) L1) : dL kIntOf (daCons f daNil) env L = .ok (.int i) L1 := (dL_ok (ca_ok h cn_ok)).trans rfl
def inr (p x : Int) : Bool := decide (0 ≤ x) && decide (x < p)
theorem chain_ok {f g h : DE} {env : DEnv} {L : LH} {a b c : Int} (h1 : f env L = .ok (.int a) L) (h2 : g env L = .ok (.int b) L) (h3 : h env L = .ok (.int c) L) : dChain kLe kLt f g h env L = .ok (.bl (decide (a ≤ b) && decide (b < c))) L := by
  unfold dChain
  rw [h1, bind_ok, h2, bind_ok, k_le, bind_ok]
  by_cases e : a ≤ b
  · rw [decide_eq_true e]
    show R.bind (h env L) _ = _
    rw [h3]; rfl
  · rw [decide_eq_false e]; rfl
theorem de_and_t {f g : DE} {env : DEnv} {L L1 : LH} (h : f env L = .ok (.bl true) L1) : deAnd f g env L = g env L1 := by unfold deAnd; rw [h]; rfl
theorem de_and_f {f g : DE} {env : DEnv} {L L1 : LH} (h : f env L = .ok (.bl false) L1) : deAnd f g env L = .ok (.bl false) L1 := by unfold deAnd; rw [h]; rfl
theorem de_or_t {f g : DE} {env : DEnv} {L L1 : LH} (h : f env L = .ok (.bl true) L1) : deOr f g env L = .ok (.bl true) L1 := by unfold deOr; rw [h]; rfl
theorem de_or_f {f g : DE} {env : DEnv} {L L1 : LH} (h : f env L = .ok (.bl false) L1) : deOr f g env L = g env L1 := by unfold deOr; rw [h]; rfl
theorem blsD_map : ∀ bs : List Bool, blsD (bs.map D.bl) = some bs
  | [] => rfl
  | b :: bs => by
    show (blsD (bs.map D.bl)).map (b :: ·) = _
    rw [blsD_map bs]; rfl
/-- one place of a row -/
def cell (p : Int) : D → D
  | .int a => .bl (inr p a)
  | d => .bl false
theorem len_ok {f : DE} {env : DEnv} {L : LH} {ds : List D} (h : f env L = .ok (.tup ds) L) : dL kLen (daCons f daNil) env L = .ok (.int (ds.length : Int)) L := (dL_ok (ca_ok h cn_ok)).trans rfl
theorem isi_tup {f : DE} {env : DEnv} {L : LH} {ds : List D} (h : f env L = .ok (.tup ds) L) : dNot (dTruth (dL kIsi (daCons f (daCons (dC (.obj (.ty "tuple"))) daNil)))) env L = .ok false L :=
  not_b (b := true) (truth_b (d := .bl true) ((dL_ok (ca_ok h (ca_ok (a := .obj (.ty "tuple")) rfl cn_ok))).trans (by rfl)) rfl)
theorem kne_int (i j : Int) (L : LH) : kNe (.int i) (.int j) L = .ok (.bl (!(i == j))) L := by
  have h := eq_int (L := L) i j
  unfold kEq at h
  unfold kNe
  split at h
  · cases h; rfl
  · cases h
theorem gt_ok (n : Nat) (k : Int) (L : LH) : kGt (.int (n : Int)) (.int k) L = .ok (.bl (decide (k < n))) L := rfl
theorem row_cells (p : Int) (l : List Int) : (LI l).map (cell p) = (l.map (inr p)).map D.bl := by
  simp [LI, List.map_map, Function.comp_def, cell]
theorem lc_none {k : DG} {vs : List Nat} {t : DT} {e : DE} {env : DEnv} {L : LH} : ∀ (items : List D), (∀ d ∈ items, ∃ env1, k d (wipeD env vs) = some env1 ∧ t env1 L = .ok false L) → lcD k vs t e env items L = .ok [] L
  | [], _ => rfl
  | d :: ds, h => by
    obtain ⟨env1, h1, h2⟩ := h d (by simp)
    exact lc_skip h1 h2 (lc_none ds (fun x hx => h x (by simp [hx])))
theorem not_int {f : DE} {env : DEnv} {L : LH} {a : Int} (h : f env L = .ok (.int a) L) : dOr (dNot (dTruth (dL kIsi (daCons f (daCons (dC (.obj (.ty "int"))) daNil))))) (dTruth (dL kIsi (daCons f (daCons (dC (.obj (.ty "bool"))) daNil)))) env L = .ok false L := by
  refine (or_f (not_b (b := true) (truth_b (d := .bl true) ((dL_ok (ca_ok h (ca_ok (a := .obj (.ty "int")) rfl cn_ok))).trans (by rfl)) rfl))).trans ?_
  exact truth_b (d := .bl false) ((dL_ok (ca_ok h (ca_ok (a := .obj (.ty "bool")) rfl cn_ok))).trans (by rfl)) rfl
theorem deep_LL (l : List Int) : deep (.lst (LI l)) = some (.list (l.map PyData.int)) := by
  show (deepAll (LI l)).map PyData.list = _
  rw [deep_LI]; rfl
theorem lay_LL (l : List Int) : PyData.canLay0 (.list (l.map PyData.int)) = true := by
  unfold PyData.canLay0; exact lay_LI l
theorem dep_LL (l : List Int) : PyData.depth (.list (l.map PyData.int)) = 1 := by
  unfold PyData.depth; rw [dep_LI]
theorem eqL_nil (l : List Int) (L : LH) : kEq (.lst (LI l)) (.lst []) L = .ok (.bl l.isEmpty) L := by
  have : eqD L (.lst (LI l)) (.lst (LI [])) = some l.isEmpty := by
    unfold eqD
    rw [deepL_of (deep_LL l), deepL_of (deep_LL [])]
    show (if SeqAt.shaped (.list (l.map PyData.int)) && SeqAt.shaped (.list (([] : List Int).map PyData.int)) then some (PyData.eqv (.list (l.map PyData.int)) (.list (([] : List Int).map PyData.int))) else none) = _
    rw [shaped_of (lay_LL l) (by rw [dep_LL]; omega), shaped_of (lay_LL []) (by rw [dep_LL]; omega)]
    cases l <;> rfl
  unfold kEq
  show (match eqD L (.lst (LI l)) (.lst (LI [])) with | some r => R.ok (D.bl r) L | none => .no) = _
  rw [this]
theorem filter_empty (p : Int) (l : List Int) : (l.filter fun a => !inr p a).isEmpty = l.all (inr p) := by
  induction l with
  | nil => rfl
  | cons a l ih =>
    cases hb : inr p a with
    | true => rw [List.filter_cons_of_neg (by simp [hb]), List.all_cons, hb, ih]; rfl
    | false => rw [List.filter_cons_of_pos (by simp [hb]), List.all_cons, hb]; rfl
theorem kne_str (L : LH) : kNe (.lst [.str "1"]) (.lst []) L = .ok (.bl true) L := by
  have : eqD L (.lst [.str "1"]) (.lst []) = some false := by
    show (if SeqAt.shaped (.list [.str "1"]) && SeqAt.shaped (.list []) then some (PyData.eqv (.list [.str "1"]) (.list [])) else none) = _
    rw [show SeqAt.shaped (.list [.str "1"]) = true from by decide +kernel, show SeqAt.shaped (.list []) = true from by decide +kernel, show PyData.eqv (.list [.str "1"]) (.list []) = false from by decide +kernel]; rfl
  unfold kNe; rw [this]; rfl
theorem k_plusLD {a b : List D} (h : a.length + b.length ≤ 1000) (L : LH) : kPlus (.lst a) (.lst b) L = .ok (.lst (a ++ b)) L := by
  show plusSeq L (.lst a) (.lst b) = _
  unfold plusSeq
  simp only [tupD, lstD]
  rw [if_pos (fits_le (m := 1000) (by omega) h)]
theorem k_plusTD {a b : List D} (h : a.length + b.length ≤ 1000) (L : LH) : kPlus (.tup a) (.tup b) L = .ok (.tup (a ++ b)) L := by
  show plusSeq L (.tup a) (.tup b) = _
  unfold plusSeq
  simp only [tupD]
  rw [if_pos (fits_le (m := 1000) (by omega) h)]
theorem cut_LI (l : List Int) (lo hi : Option Int) : ∃ l', cutD (LI l) lo hi = LI l' ∧ ∀ x ∈ l', x ∈ l := by
  unfold cutD
  refine ⟨(l.drop (HT.sIx (LI l).length 0 lo)).take (HT.sIx (LI l).length (LI l).length hi - HT.sIx (LI l).length 0 lo), ?_, fun x hx => List.mem_of_mem_drop (List.mem_of_mem_take hx)⟩
  simp only [LI, List.map_take, List.map_drop]
theorem cut_5 (l : List Int) : ∃ l', cutD (LI l) none (some 5) = LI l' ∧ l'.length ≤ 5 ∧ ∀ x ∈ l', x ∈ l := by
  have h1 : HT.sIx (LI l).length 0 none = 0 := rfl
  have h2 : HT.sIx (LI l).length (LI l).length (some 5) = min 5 l.length := by
    have hl : (LI l).length = l.length := by simp
    rw [hl]; unfold HT.sIx; simp only []; split <;> omega
  refine ⟨l.take (min 5 l.length), ?_, by simp; omega, fun x hx => List.mem_of_mem_take hx⟩
  unfold cutD
  rw [h1, h2]
  simp [LI, List.map_take]
theorem plus1 {p : Int} {l r : List Int} (h : l.length ≤ 100) (h2 : r.length ≤ 100) {f g : DE} {env : DEnv} {L : LH} (hf : f env L = .ok (PI l) L) (hg : g env L = .ok (PI r) L) : d2 kPlus f g env L = .ok (PI (l ++ r)) L := (d2_ok hf hg).trans (k_plusT (by omega) L)
theorem rep1 (c k : Int) (h : -100000 ≤ k) (k' : k ≤ 100000) {env : DEnv} {L : LH} : d2 DL.kTimes (dL DL.kTup (daCons (dC (.int c)) daNil)) (dC (.int k)) env L = .ok (PI (List.replicate k.toNat c)) L := (d2_ok (a := .tup [.int c]) (b := .int k) (L1 := L) (L2 := L) rfl rfl).trans (k_timesT c h k' L)
theorem ne_both {f g : DE} {env : DEnv} {L L1 L2 : LH} {d : D} (hf : f env L = .ok d L1) (hg : g env L1 = .ok d L2) (s : Shp d) : dB (d2 kNe f g) env L = .ok false L2 := dB_b ((d2_ok hf hg).trans (ne_same s L2))
theorem chk {t : DT} {f g : DS} {env : DEnv} {L L1 : LH} (h : t env L = .ok false L1) : sSeq (sIf t f sNext) g env L = g env L1 := seq_nx _ _ ((if_f h).trans rfl)
theorem ca3 {f g h : DE} {env : DEnv} {L L1 L2 L3 : LH} {a b c : D} (h1 : f env L = .ok a L1) (h2 : g env L1 = .ok b L2) (h3 : h env L2 = .ok c L3) : daCons f (daCons g (daCons h daNil)) env L = .ok [a, b, c] L3 := ca_ok h1 (ca_ok h2 (ca_ok h3 cn_ok))
theorem call3 {F : List D → LH → R D} {f g h : DE} {env : DEnv} {L L1 : LH} {a b c d : D} (h1 : f env L = .ok a L) (h2 : g env L = .ok b L) (h3 : h env L = .ok c L) (k : F [a, b, c] L = .ok d L1) : dCall 3 F (daCons f (daCons g (daCons h daNil))) env L = .ok d L1 := (call_ok (ca3 h1 h2 h3) rfl).trans k
theorem call4 {F : List D → LH → R D} {f g h e : DE} {env : DEnv} {L L1 : LH} {a b c x d : D} (h1 : f env L = .ok a L) (h2 : g env L = .ok b L) (h3 : h env L = .ok c L) (h4 : e env L = .ok x L) (k : F [a, b, c, x] L = .ok d L1) : dCall 4 F (daCons f (daCons g (daCons h (daCons e daNil)))) env L = .ok d L1 := (call_ok (ca_ok h1 (ca_ok h2 (ca_ok h3 (ca_ok h4 cn_ok)))) rfl).trans k
theorem fnF_rf {N : Nat} {body : DS} {ds xs : List D} {L : LH} (h : body (startD N ds) L = .rf xs L) : fnF N body ds L = .ok xs L := by
  unfold fnF; rw [h]; show (if L.length = L.length then R.ok xs L else .no) = _; rw [if_pos rfl]
theorem retF_ok {f : DF} {env : DEnv} {L L1 : LH} {d : List D} (h : f env L = .ok d L1) : sRetF f env L = .rf d L1 := by unfold sRetF; rw [h]; rfl
theorem if_dt {t : DT} {f g : DE} {env : DEnv} {L L1 : LH} (h : t env L = .ok true L1) : dIf t f g env L = f env L1 := by simp [h]
theorem if_df {t : DT} {f g : DE} {env : DEnv} {L L1 : LH} (h : t env L = .ok false L1) : dIf t f g env L = g env L1 := by simp [h]
end Law

set_option Elab.async false
set_option linter.all false
set_option maxRecDepth 100000
set_option maxHeartbeats 4000000
namespace Law
open PySem PySem.Spec L2 DL
open PyProof.Rows (envOfC)
def top (i : Nat) : Stmt := PySem.Challenge.pw_tablerings_k01_whole_sums_and_meets_of_s.main.body.getD i (.Pass ⟨0, 0, 0, 0⟩)
/-- a def of the text as it stands -/
structure DefAt (P : Program) (w : World) (K : PySem.W.Frag) (mg : Str → Option Value) (base : Heap) (ct : Str → Option Addr) (x : Str) (k n : Nat) (ps : List Str) (F : List D → LH → R D) where
  f : Addr
  fd : FuncData
  gm : mg x = some (.ref f)
  kp : PySem.W.keepIn K (.ref f) = true
  b : Binds K fd ps []
  G : FnOk P w K mg base (L2.CX P w) k f fd ps (spD ⟨K, ct⟩ n F)
structure DefAtF (P : Program) (w : World) (K : PySem.W.Frag) (mg : Str → Option Value) (base : Heap) (ct : Str → Option Addr) (x : Str) (k n : Nat) (ps : List Str) (F : List D → LH → R (List D)) where
  f : Addr
  fd : FuncData
  gm : mg x = some (.ref f)
  kp : PySem.W.keepIn K (.ref f) = true
  b : Binds K fd ps []
  G : FnOk P w K mg base (L2.CX P w) k f fd ps (spF ⟨K, ct⟩ n F)
structure Txt (K : PySem.W.Frag) (mg : Str → Option Value) : Prop where
  b_abs : mg "abs" = none
  b_all : mg "all" = none
  b_any : mg "any" = none
  b_bool : mg "bool" = none
  b_enumerate : mg "enumerate" = none
  b_int : mg "int" = none
  b_isinstance : mg "isinstance" = none
  b_len : mg "len" = none
  b_list : mg "list" = none
  b_max : mg "max" = none
  b_min : mg "min" = none
  b_range : mg "range" = none
  b_sorted : mg "sorted" = none
  b_tuple : mg "tuple" = none
  b_zip : mg "zip" = none
  c_MAX_WIDTH : ∃ t, mg "MAX_WIDTH" = some (.int 150 t)
  c_PRIMES : ∃ a, mg "PRIMES" = some (.ref a) ∧ KTup K a [2, 3, 5, 7]
section
variable {P : Program} {w : World} {K : PySem.W.Frag} {mg : Str → Option Value} {base : Heap} {ct : Str → Option Addr}
/-! undone_number -/
abbrev s_undone_number : Stmt := top 1
def m_undone_number : List D → LH → R D := fnD 3 (sRet (d2 kIx (dLc (iRange2 (daCons (dC (.int 1)) (daCons (dVar 0) daNil))) (gSet 2) [2] (dB (d2 kEq (d2 kMod (d2 kTimes (dVar 1) (dVar 2)) (dVar 0)) (dC (.int 1)))) (dVar 2)) (dC (.int 0))))
theorem sc_undone_number : FnScope ["prime", "number", "other"] ["prime", "number"] (defScope s_undone_number) := ⟨rfl, rfl, rfl, by decide +kernel, rfl, by decide +kernel, by decide +kernel⟩
theorem ok_undone_number {f : Addr} {fd : FuncData} (F : Fun K "undone_number" "undone_number" s_undone_number f fd) (T : Txt K mg) : FnOk P w K mg base (L2.CX P w) 1 f fd ["prime", "number"] (spD ⟨K, ct⟩ 2 m_undone_number) :=
  fun_okD F sc_undone_number rfl fun cdv A outer s H E hr => by
    have nd := sc_undone_number.nd
    have tk : Takes (cxOf (L2.CX P w) P w K mg base ["prime", "number", "other"] "undone_number" (defScope s_undone_number) f cdv A outer s H E) (wishOf fun _ => E) := takes_of rfl rfl rfl rfl
    exact (ss_one (s_ret (de_ix (by rfl) (de_lc (pe_lc (by rfl) nd (di_range2 (fun t ht => pi_range2 (by rfl) T.b_range ht) (da_cons de_int (da_cons (de_var (pv 0)) da_nil (fun hg hf => pa_cons hf hg)) (fun hg hf => pa_cons hf hg))) (blkOk_by (own := [("other", 2)]) (by first | decide +kernel | kernel_rfl)) (fun _ _ _ _ _ => (pg_name (i := 2) nd (by rfl) (by first | exact Or.inl rfl | exact Or.inr rfl))) (fun _ _ _ _ _ => (dts_one (dt_cmp (op_eqD (hu64 hr)) does_eq (de_op op_mod does_mod (de_op op_times does_times (de_var (pv 1)) (de_var (pv 2))) (de_var (pv 0))) de_int (nomark _)))) (fun _ _ _ _ _ => (de_var (pv 2)))) (doesv_gName (by decide))) de_int (fun _ _ => rfl))))
/-! zero_row -/
abbrev s_zero_row : Stmt := top 3
def m_zero_row : List D → LH → R D := fnD 1 (sRet (d2 kTimes (dL kTup (daCons (dC (.int 0)) daNil)) (dVar 0)))
theorem sc_zero_row : FnScope ["width"] ["width"] (defScope s_zero_row) := ⟨rfl, rfl, rfl, by decide +kernel, rfl, by decide +kernel, by decide +kernel⟩
theorem ok_zero_row {f : Addr} {fd : FuncData} (F : Fun K "zero_row" "zero_row" s_zero_row f fd) (T : Txt K mg) : FnOk P w K mg base (L2.CX P w) 1 f fd ["width"] (spD ⟨K, ct⟩ 1 m_zero_row) :=
  fun_okD F sc_zero_row rfl fun cdv A outer s H E hr => by
    have nd := sc_zero_row.nd
    have tk : Takes (cxOf (L2.CX P w) P w K mg base ["width"] "zero_row" (defScope s_zero_row) f cdv A outer s H E) (wishOf fun _ => E) := takes_of rfl rfl rfl rfl
    exact (ss_one (s_ret (de_op op_times does_times (de_tup (da_cons de_int da_nil (fun hg hf => pa_cons hf hg))) (de_var (pv 0)))))
/-! unit_row -/
abbrev s_unit_row : Stmt := top 4
def m_unit_row : List D → LH → R D := fnD 2 (sRet (d2 kPlus (d2 kPlus (dCall 1 m_zero_row (daCons (dVar 1) daNil)) (dL kTup (daCons (dC (.int 1)) daNil))) (dCall 1 m_zero_row (daCons (d2 kSub (d2 kSub (dVar 0) (dVar 1)) (dC (.int 1))) daNil))))
theorem sc_unit_row : FnScope ["width", "place"] ["width", "place"] (defScope s_unit_row) := ⟨rfl, rfl, rfl, by decide +kernel, rfl, by decide +kernel, by decide +kernel⟩
theorem ok_unit_row {f : Addr} {fd : FuncData} (F : Fun K "unit_row" "unit_row" s_unit_row f fd) (T : Txt K mg) (c_zero_row : DefAt P w K mg base ct "zero_row" 1 1 ["width"] m_zero_row) : FnOk P w K mg base (L2.CX P w) 2 f fd ["width", "place"] (spD ⟨K, ct⟩ 2 m_unit_row) :=
  fun_okD F sc_unit_row rfl fun cdv A outer s H E hr => by
    have nd := sc_unit_row.nd
    have tk : Takes (cxOf (L2.CX P w) P w K mg base ["width", "place"] "unit_row" (defScope s_unit_row) f cdv A outer s H E) (wishOf fun _ => E) := takes_of rfl rfl rfl rfl
    exact (ss_one (s_ret (de_op op_plus does_plus (de_op op_plus does_plus (de_call (fun t ht => pe_callS c_zero_row.G (hr.mono (by decide)) (by rfl) c_zero_row.gm c_zero_row.kp c_zero_row.b (fun σ => passAt tk σ) ht) (da_cons (de_var (pv 1)) da_nil (fun hg hf => pa_cons hf hg))) (de_tup (da_cons de_int da_nil (fun hg hf => pa_cons hf hg)))) (de_call (fun t ht => pe_callS c_zero_row.G (hr.mono (by decide)) (by rfl) c_zero_row.gm c_zero_row.kp c_zero_row.b (fun σ => passAt tk σ) ht) (da_cons (de_op op_sub does_sub (de_op op_sub does_sub (de_var (pv 0)) (de_var (pv 1))) de_int) da_nil (fun hg hf => pa_cons hf hg))))))
/-! unit_rows -/
abbrev s_unit_rows : Stmt := top 5
def m_unit_rows : List D → LH → R D := fnD 2 (sRet (dL kTupleOf (daCons (dLc (iRange1 (daCons (dVar 0) daNil)) (gSet 1) [1] dYes (dCall 2 m_unit_row (daCons (dVar 0) (daCons (dVar 1) daNil)))) daNil)))
theorem sc_unit_rows : FnScope ["width", "place"] ["width"] (defScope s_unit_rows) := ⟨rfl, rfl, rfl, by decide +kernel, rfl, by decide +kernel, by decide +kernel⟩
theorem ok_unit_rows {f : Addr} {fd : FuncData} (F : Fun K "unit_rows" "unit_rows" s_unit_rows f fd) (T : Txt K mg) (c_unit_row : DefAt P w K mg base ct "unit_row" 2 2 ["width", "place"] m_unit_row) : FnOk P w K mg base (L2.CX P w) 3 f fd ["width"] (spD ⟨K, ct⟩ 1 m_unit_rows) :=
  fun_okD F sc_unit_rows rfl fun cdv A outer s H E hr => by
    have nd := sc_unit_rows.nd
    have tk : Takes (cxOf (L2.CX P w) P w K mg base ["width", "place"] "unit_rows" (defScope s_unit_rows) f cdv A outer s H E) (wishOf fun _ => E) := takes_of rfl rfl rfl rfl
    exact (ss_one (s_ret (de_callB (fun t ht => pe_callTy call_tupF (by rfl) T.b_tuple PyProof.Rows.boot_tuple ht) does_tupleOf (da_cons (de_lc (pe_lc (by rfl) nd (di_range1 (fun t ht => pi_range1 (by rfl) T.b_range ht) (da_cons (de_var (pv 0)) da_nil (fun hg hf => pa_cons hf hg))) (blkOk_by (own := [("place", 1)]) (by first | decide +kernel | kernel_rfl)) (fun _ _ _ _ _ => (pg_name (i := 1) nd (by rfl) (by first | exact Or.inl rfl | exact Or.inr rfl))) (fun _ _ _ _ _ => dts_nil) (fun _ _ _ _ _ => (de_call (fun t ht => pe_callS c_unit_row.G (hr.mono (by decide)) (by rfl) c_unit_row.gm c_unit_row.kp c_unit_row.b (fun σ => passAt takes0 σ) ht) (da_cons (de_var (pv 0)) (da_cons (de_var (pv 1)) da_nil (fun hg hf => pa_cons hf hg)) (fun hg hf => pa_cons hf hg))))) (doesv_gName (by decide))) da_nil (fun hg hf => pa_cons hf hg)))))
/-! row_times -/
abbrev s_row_times : Stmt := top 6
def m_row_times : List D → LH → R D := fnD 4 (sRet (dL kTupleOf (daCons (dLc (iVal (dVar 2)) (gSet 3) [3] dYes (d2 kMod (d2 kTimes (dVar 1) (dVar 3)) (dVar 0))) daNil)))
theorem sc_row_times : FnScope ["prime", "number", "row", "a"] ["prime", "number", "row"] (defScope s_row_times) := ⟨rfl, rfl, rfl, by decide +kernel, rfl, by decide +kernel, by decide +kernel⟩
theorem ok_row_times {f : Addr} {fd : FuncData} (F : Fun K "row_times" "row_times" s_row_times f fd) (T : Txt K mg) : FnOk P w K mg base (L2.CX P w) 1 f fd ["prime", "number", "row"] (spD ⟨K, ct⟩ 3 m_row_times) :=
  fun_okD F sc_row_times rfl fun cdv A outer s H E hr => by
    have nd := sc_row_times.nd
    have tk : Takes (cxOf (L2.CX P w) P w K mg base ["prime", "number", "row", "a"] "row_times" (defScope s_row_times) f cdv A outer s H E) (wishOf fun _ => E) := takes_of rfl rfl rfl rfl
    exact (ss_one (s_ret (de_callB (fun t ht => pe_callTy call_tupF (by rfl) T.b_tuple PyProof.Rows.boot_tuple ht) does_tupleOf (da_cons (de_lc (pe_lc (by rfl) nd (di_seq (by rfl) (de_var (pv 2))) (blkOk_by (own := [("a", 3)]) (by first | decide +kernel | kernel_rfl)) (fun _ _ _ _ _ => (pg_name (i := 3) nd (by rfl) (by first | exact Or.inl rfl | exact Or.inr rfl))) (fun _ _ _ _ _ => dts_nil) (fun _ _ _ _ _ => (de_op op_mod does_mod (de_op op_times does_times (de_var (pv 1)) (de_var (pv 3))) (de_var (pv 0))))) (doesv_gName (by decide))) da_nil (fun hg hf => pa_cons hf hg)))))
/-! row_less_times -/
abbrev s_row_less_times : Stmt := top 7
def m_row_less_times : List D → LH → R D := fnD 6 (sRet (dL kTupleOf (daCons (dLc (iZip2 (daCons (dVar 1) (daCons (dVar 3) daNil))) (gSet2 4 5) [4, 5] dYes (d2 kMod (d2 kSub (dVar 4) (d2 kTimes (dVar 2) (dVar 5))) (dVar 0))) daNil)))
theorem sc_row_less_times : FnScope ["prime", "row", "number", "other", "a", "b"] ["prime", "row", "number", "other"] (defScope s_row_less_times) := ⟨rfl, rfl, rfl, by decide +kernel, rfl, by decide +kernel, by decide +kernel⟩
theorem ok_row_less_times {f : Addr} {fd : FuncData} (F : Fun K "row_less_times" "row_less_times" s_row_less_times f fd) (T : Txt K mg) : FnOk P w K mg base (L2.CX P w) 1 f fd ["prime", "row", "number", "other"] (spD ⟨K, ct⟩ 4 m_row_less_times) :=
  fun_okD F sc_row_less_times rfl fun cdv A outer s H E hr => by
    have nd := sc_row_less_times.nd
    have tk : Takes (cxOf (L2.CX P w) P w K mg base ["prime", "row", "number", "other", "a", "b"] "row_less_times" (defScope s_row_less_times) f cdv A outer s H E) (wishOf fun _ => E) := takes_of rfl rfl rfl rfl
    exact (ss_one (s_ret (de_callB (fun t ht => pe_callTy call_tupF (by rfl) T.b_tuple PyProof.Rows.boot_tuple ht) does_tupleOf (da_cons (de_lc (pe_lc (by rfl) nd (di_zip (by rfl) (fun t ht => pi_zipB (by rfl) T.b_zip ht) (da_cons (de_var (pv 1)) (da_cons (de_var (pv 3)) da_nil (fun hg hf => pa_cons hf hg)) (fun hg hf => pa_cons hf hg))) (blkOk_by (own := [("a", 4), ("b", 5)]) (by first | decide +kernel | kernel_rfl)) (fun _ _ _ _ _ => (pg_tup (by rfl) (pgs_cons (pg_name (i := 4) nd (by rfl) (by first | exact Or.inl rfl | exact Or.inr rfl)) (pgs_cons (pg_name (i := 5) nd (by rfl) (by first | exact Or.inl rfl | exact Or.inr rfl)) pgs_nil)))) (fun _ _ _ _ _ => dts_nil) (fun _ _ _ _ _ => (de_op op_mod does_mod (de_op op_sub does_sub (de_var (pv 4)) (de_op op_times does_times (de_var (pv 2)) (de_var (pv 5)))) (de_var (pv 0))))) (doesv_gTup2 (by rfl) (by decide) (by decide))) da_nil (fun hg hf => pa_cons hf hg)))))
/-! at_places -/
abbrev s_at_places : Stmt := top 8
def m_at_places : List D → LH → R D := fnD 3 (sRet (dL kTupleOf (daCons (dLc (iVal (dVar 1)) (gSet 2) [2] dYes (d2 kIx (dVar 0) (dVar 2))) daNil)))
theorem sc_at_places : FnScope ["row", "places", "at"] ["row", "places"] (defScope s_at_places) := ⟨rfl, rfl, rfl, by decide +kernel, rfl, by decide +kernel, by decide +kernel⟩
theorem ok_at_places {f : Addr} {fd : FuncData} (F : Fun K "at_places" "at_places" s_at_places f fd) (T : Txt K mg) : FnOk P w K mg base (L2.CX P w) 1 f fd ["row", "places"] (spD ⟨K, ct⟩ 2 m_at_places) :=
  fun_okD F sc_at_places rfl fun cdv A outer s H E hr => by
    have nd := sc_at_places.nd
    have tk : Takes (cxOf (L2.CX P w) P w K mg base ["row", "places", "at"] "at_places" (defScope s_at_places) f cdv A outer s H E) (wishOf fun _ => E) := takes_of rfl rfl rfl rfl
    exact (ss_one (s_ret (de_callB (fun t ht => pe_callTy call_tupF (by rfl) T.b_tuple PyProof.Rows.boot_tuple ht) does_tupleOf (da_cons (de_lc (pe_lc (by rfl) nd (di_seq (by rfl) (de_var (pv 1))) (blkOk_by (own := [("at", 2)]) (by first | decide +kernel | kernel_rfl)) (fun _ _ _ _ _ => (pg_name (i := 2) nd (by rfl) (by first | exact Or.inl rfl | exact Or.inr rfl))) (fun _ _ _ _ _ => dts_nil) (fun _ _ _ _ _ => (de_ix (by rfl) (de_var (pv 0)) (de_var (pv 2)) (fun _ _ => rfl)))) (doesv_gName (by decide))) da_nil (fun hg hf => pa_cons hf hg)))))
/-! lead_from -/
abbrev s_lead_from : Stmt := top 9
def m_lead_from : List D → LH → R D := fnD 3 (sSeq (sFor (iRange2 (daCons (dVar 1) (daCons (dL kLen (daCons (dVar 0) daNil)) daNil))) (gSet 2) (sIf (dTruth (d2 kIx (dVar 0) (dVar 2))) (sRet (dVar 2)) sNext)) (sRet (dL kLen (daCons (dVar 0) daNil))))
theorem sc_lead_from : FnScope ["row", "start", "at"] ["row", "start"] (defScope s_lead_from) := ⟨rfl, rfl, rfl, by decide +kernel, rfl, by decide +kernel, by decide +kernel⟩
theorem ok_lead_from {f : Addr} {fd : FuncData} (F : Fun K "lead_from" "lead_from" s_lead_from f fd) (T : Txt K mg) : FnOk P w K mg base (L2.CX P w) 1 f fd ["row", "start"] (spD ⟨K, ct⟩ 2 m_lead_from) :=
  fun_okD F sc_lead_from rfl fun cdv A outer s H E hr => by
    have nd := sc_lead_from.nd
    have tk : Takes (cxOf (L2.CX P w) P w K mg base ["row", "start", "at"] "lead_from" (defScope s_lead_from) f cdv A outer s H E) (wishOf fun _ => E) := takes_of rfl rfl rfl rfl
    exact (ss_cons (s_for (fun wi tb hi hb => ps_for (passes_of (by rfl)) (by rfl) hi (pg_name (i := 2) nd (by rfl) (by first | exact Or.inl rfl | exact Or.inr rfl)) hb) (di_range2 (fun t ht => pi_range2 (by rfl) T.b_range ht) (da_cons (de_var (pv 1)) (da_cons (de_callB (fun t ht => pe_callB call_len (by rfl) T.b_len PySem.boot_len ht) does_len (da_cons (de_var (pv 0)) da_nil (fun hg hf => pa_cons hf hg))) da_nil (fun hg hf => pa_cons hf hg)) (fun hg hf => pa_cons hf hg))) does_gName (ss_one (s_if (dt_truth (by rfl) (de_ix (by rfl) (de_var (pv 0)) (de_var (pv 2)) (fun _ _ => rfl))) (ss_one (s_ret (de_var (pv 2)))) ss_nil))) (ss_one (s_ret (de_callB (fun t ht => pe_callB call_len (by rfl) T.b_len PySem.boot_len ht) does_len (da_cons (de_var (pv 0)) da_nil (fun hg hf => pa_cons hf hg))))))
/-! row_beyond -/
abbrev s_row_beyond : Stmt := top 10
def m_row_beyond : List D → LH → R D := fnD 4 (sSeq (sSet 3 (dCall 2 m_lead_from (daCons (dVar 2) (daCons (dC (.int 0)) daNil)))) (sSeq (sWhile 100000 (dB (d2 kLt (dVar 3) (dL kLen (daCons (dVar 2) daNil)))) (sSeq (sIf (dB (d2 (kDIn false) (dVar 3) (dVar 1))) (sSet 2 (dCall 4 m_row_less_times (daCons (dVar 0) (daCons (dVar 2) (daCons (d2 kIx (dVar 2) (dVar 3)) (daCons (d2 kDx (dVar 1) (dVar 3)) daNil)))))) sNext) (sSet 3 (dCall 2 m_lead_from (daCons (dVar 2) (daCons (d2 kPlus (dVar 3) (dC (.int 1))) daNil)))))) (sRet (dVar 2))))
theorem sc_row_beyond : FnScope ["prime", "steps", "row", "at"] ["prime", "steps", "row"] (defScope s_row_beyond) := ⟨rfl, rfl, rfl, by decide +kernel, rfl, by decide +kernel, by decide +kernel⟩
theorem ok_row_beyond {f : Addr} {fd : FuncData} (F : Fun K "row_beyond" "row_beyond" s_row_beyond f fd) (T : Txt K mg) (c_lead_from : DefAt P w K mg base ct "lead_from" 1 2 ["row", "start"] m_lead_from) (c_row_less_times : DefAt P w K mg base ct "row_less_times" 1 4 ["prime", "row", "number", "other"] m_row_less_times) : FnOk P w K mg base (L2.CX P w) 2 f fd ["prime", "steps", "row"] (spD ⟨K, ct⟩ 3 m_row_beyond) :=
  fun_okD F sc_row_beyond rfl fun cdv A outer s H E hr => by
    have nd := sc_row_beyond.nd
    have tk : Takes (cxOf (L2.CX P w) P w K mg base ["prime", "steps", "row", "at"] "row_beyond" (defScope s_row_beyond) f cdv A outer s H E) (wishOf fun _ => E) := takes_of rfl rfl rfl rfl
    exact (ss_cons (s_set (fun te ht => ps_set (i := 3) nd (by rfl) (by first | exact Or.inl rfl | exact Or.inr rfl) ht) (de_call (fun t ht => pe_callS c_lead_from.G (hr.mono (by decide)) (by rfl) c_lead_from.gm c_lead_from.kp c_lead_from.b (fun σ => passAt tk σ) ht) (da_cons (de_var (pv 2)) (da_cons de_int da_nil (fun hg hf => pa_cons hf hg)) (fun hg hf => pa_cons hf hg)))) (ss_cons (s_while 100000 (fun tc tb hc hb => ps_while (passes_of (by rfl)) hc hb) (dt_cmp op_lt does_lt (de_var (pv 3)) (de_callB (fun t ht => pe_callB call_len (by rfl) T.b_len PySem.boot_len ht) does_len (da_cons (de_var (pv 2)) da_nil (fun hg hf => pa_cons hf hg))) (nomark _)) (ss_cons (s_if (dt_din (hu_of hr) (de_var (pv 3)) (de_var (pv 1)) (by rfl)) (ss_one (s_set (fun te ht => ps_set (i := 2) nd (by rfl) (by first | exact Or.inl rfl | exact Or.inr rfl) ht) (de_call (fun t ht => pe_callS c_row_less_times.G (hr.mono (by decide)) (by rfl) c_row_less_times.gm c_row_less_times.kp c_row_less_times.b (fun σ => passAt tk σ) ht) (da_cons (de_var (pv 0)) (da_cons (de_var (pv 2)) (da_cons (de_ix (by rfl) (de_var (pv 2)) (de_var (pv 3)) (fun _ _ => rfl)) (da_cons (de_dx (hu_of hr) (de_var (pv 1)) (de_var (pv 3)) (fun _ _ => rfl)) da_nil (fun hg hf => pa_cons hf hg)) (fun hg hf => pa_cons hf hg)) (fun hg hf => pa_cons hf hg)) (fun hg hf => pa_cons hf hg))))) ss_nil) (ss_one (s_set (fun te ht => ps_set (i := 3) nd (by rfl) (by first | exact Or.inl rfl | exact Or.inr rfl) ht) (de_call (fun t ht => pe_callS c_lead_from.G (hr.mono (by decide)) (by rfl) c_lead_from.gm c_lead_from.kp c_lead_from.b (fun σ => passAt tk σ) ht) (da_cons (de_var (pv 2)) (da_cons (de_op op_plus does_plus (de_var (pv 3)) de_int) da_nil (fun hg hf => pa_cons hf hg)) (fun hg hf => pa_cons hf hg))))))) (ss_one (s_ret (de_var (pv 2))))))
/-! steps_of -/
abbrev s_steps_of : Stmt := top 11
def m_steps_of : List D → LH → R D := fnD 2 (sRet (dDc (iVal (dVar 0)) (gSet 1) [1] dYes (dCall 2 m_lead_from (daCons (dVar 1) (daCons (dC (.int 0)) daNil))) (dVar 1)))
theorem sc_steps_of : FnScope ["base", "row"] ["base"] (defScope s_steps_of) := ⟨rfl, rfl, rfl, by decide +kernel, rfl, by decide +kernel, by decide +kernel⟩
theorem ok_steps_of {f : Addr} {fd : FuncData} (F : Fun K "steps_of" "steps_of" s_steps_of f fd) (T : Txt K mg) (c_lead_from : DefAt P w K mg base ct "lead_from" 1 2 ["row", "start"] m_lead_from) : FnOk P w K mg base (L2.CX P w) 2 f fd ["base"] (spD ⟨K, ct⟩ 1 m_steps_of) :=
  fun_okD F sc_steps_of rfl fun cdv A outer s H E hr => by
    have nd := sc_steps_of.nd
    have tk : Takes (cxOf (L2.CX P w) P w K mg base ["base", "row"] "steps_of" (defScope s_steps_of) f cdv A outer s H E) (wishOf fun _ => E) := takes_of rfl rfl rfl rfl
    exact (ss_one (s_ret (de_dc (pe_dc (by rfl) nd (di_seq (by rfl) (de_var (pv 0))) (blkOk_by (own := [("row", 1)]) (by first | decide +kernel | kernel_rfl)) (fun _ _ _ _ _ => (pg_name (i := 1) nd (by rfl) (by first | exact Or.inl rfl | exact Or.inr rfl))) (fun _ _ _ _ _ => dts_nil) (fun _ _ _ _ _ => (de_call (fun t ht => pe_callS c_lead_from.G (hr.mono (by decide)) (by rfl) c_lead_from.gm c_lead_from.kp c_lead_from.b (fun σ => passAt takes0 σ) ht) (da_cons (de_var (pv 1)) (da_cons de_int da_nil (fun hg hf => pa_cons hf hg)) (fun hg hf => pa_cons hf hg)))) (fun _ _ _ _ _ => (de_var (pv 1)))) (doesv_gName (by decide)))))
/-! stepped -/
abbrev s_stepped : Stmt := top 12
def m_stepped : List D → LH → R D := fnD 6 (sSeq (sNewD 2) (sSeq (sFor (iVal (dVar 1)) (gSet 3) (sSeq (sSet 4 (dCall 3 m_row_beyond (daCons (dVar 0) (daCons (dVar 2) (daCons (dVar 3) daNil))))) (sSeq (sSet 5 (dCall 2 m_lead_from (daCons (dVar 4) (daCons (dC (.int 0)) daNil)))) (sIf (dB (d2 kLt (dVar 5) (dL kLen (daCons (dVar 4) daNil)))) (sDSet (dVar 2) (dVar 5) (dCall 3 m_row_times (daCons (dVar 0) (daCons (dCall 2 m_undone_number (daCons (dVar 0) (daCons (d2 kIx (dVar 4) (dVar 5)) daNil))) (daCons (dVar 4) daNil))))) sNext)))) (sRet (dVar 2))))
theorem sc_stepped : FnScope ["prime", "rows", "steps", "row", "rest", "at"] ["prime", "rows"] (defScope s_stepped) := ⟨rfl, rfl, rfl, by decide +kernel, rfl, by decide +kernel, by decide +kernel⟩
theorem ok_stepped {f : Addr} {fd : FuncData} (F : Fun K "stepped" "stepped" s_stepped f fd) (T : Txt K mg) (c_lead_from : DefAt P w K mg base ct "lead_from" 1 2 ["row", "start"] m_lead_from) (c_row_beyond : DefAt P w K mg base ct "row_beyond" 2 3 ["prime", "steps", "row"] m_row_beyond) (c_row_times : DefAt P w K mg base ct "row_times" 1 3 ["prime", "number", "row"] m_row_times) (c_undone_number : DefAt P w K mg base ct "undone_number" 1 2 ["prime", "number"] m_undone_number) : FnOk P w K mg base (L2.CX P w) 3 f fd ["prime", "rows"] (spD ⟨K, ct⟩ 2 m_stepped) :=
  fun_okD F sc_stepped rfl fun cdv A outer s H E hr => by
    have nd := sc_stepped.nd
    have tk : Takes (cxOf (L2.CX P w) P w K mg base ["prime", "rows", "steps", "row", "rest", "at"] "stepped" (defScope s_stepped) f cdv A outer s H E) (wishOf fun _ => E) := takes_of rfl rfl rfl rfl
    exact (ss_cons (s_newD (fun te ht => ps_set (i := 2) nd (by rfl) (by first | exact Or.inl rfl | exact Or.inr rfl) ht)) (ss_cons (s_for (fun wi tb hi hb => ps_for (passes_of (by rfl)) (by rfl) hi (pg_name (i := 3) nd (by rfl) (by first | exact Or.inl rfl | exact Or.inr rfl)) hb) (di_seq (by rfl) (de_var (pv 1))) does_gName (ss_cons (s_set (fun te ht => ps_set (i := 4) nd (by rfl) (by first | exact Or.inl rfl | exact Or.inr rfl) ht) (de_call (fun t ht => pe_callS c_row_beyond.G (hr.mono (by decide)) (by rfl) c_row_beyond.gm c_row_beyond.kp c_row_beyond.b (fun σ => passAt tk σ) ht) (da_cons (de_var (pv 0)) (da_cons (de_var (pv 2)) (da_cons (de_var (pv 3)) da_nil (fun hg hf => pa_cons hf hg)) (fun hg hf => pa_cons hf hg)) (fun hg hf => pa_cons hf hg)))) (ss_cons (s_set (fun te ht => ps_set (i := 5) nd (by rfl) (by first | exact Or.inl rfl | exact Or.inr rfl) ht) (de_call (fun t ht => pe_callS c_lead_from.G (hr.mono (by decide)) (by rfl) c_lead_from.gm c_lead_from.kp c_lead_from.b (fun σ => passAt tk σ) ht) (da_cons (de_var (pv 4)) (da_cons de_int da_nil (fun hg hf => pa_cons hf hg)) (fun hg hf => pa_cons hf hg)))) (ss_one (s_if (dt_cmp op_lt does_lt (de_var (pv 5)) (de_callB (fun t ht => pe_callB call_len (by rfl) T.b_len PySem.boot_len ht) does_len (da_cons (de_var (pv 4)) da_nil (fun hg hf => pa_cons hf hg))) (nomark _)) (ss_one (s_dput (hu_of hr) (by rfl) (de_var (pv 2)) (de_var (pv 5)) (de_call (fun t ht => pe_callS c_row_times.G (hr.mono (by decide)) (by rfl) c_row_times.gm c_row_times.kp c_row_times.b (fun σ => passAt tk σ) ht) (da_cons (de_var (pv 0)) (da_cons (de_call (fun t ht => pe_callS c_undone_number.G (hr.mono (by decide)) (by rfl) c_undone_number.gm c_undone_number.kp c_undone_number.b (fun σ => passAt tk σ) ht) (da_cons (de_var (pv 0)) (da_cons (de_ix (by rfl) (de_var (pv 4)) (de_var (pv 5)) (fun _ _ => rfl)) da_nil (fun hg hf => pa_cons hf hg)) (fun hg hf => pa_cons hf hg))) (da_cons (de_var (pv 4)) da_nil (fun hg hf => pa_cons hf hg)) (fun hg hf => pa_cons hf hg)) (fun hg hf => pa_cons hf hg))))) ss_nil))))) (ss_one (s_ret (de_var (pv 2))))))
/-! reduced -/
abbrev s_reduced : Stmt := top 13
def m_reduced : List D → LH → R D := fnD 5 (sSeq (sSet 2 (dCall 2 m_stepped (daCons (dVar 0) (daCons (dVar 1) daNil)))) (sSeq (sNewD 3) (sSeq (sFor (iVal (dL (kSortD true) (daCons (dVar 2) daNil))) (gSet 4) (sDSet (dVar 3) (dVar 4) (dCall 3 m_row_beyond (daCons (dVar 0) (daCons (dVar 3) (daCons (d2 kDx (dVar 2) (dVar 4)) daNil)))))) (sRet (dL kTupleOf (daCons (dLc (iVal (dL (kSortD false) (daCons (dVar 3) daNil))) (gSet 4) [4] dYes (d2 kDx (dVar 3) (dVar 4))) daNil))))))
theorem sc_reduced : FnScope ["prime", "rows", "steps", "done", "at"] ["prime", "rows"] (defScope s_reduced) := ⟨rfl, rfl, rfl, by decide +kernel, rfl, by decide +kernel, by decide +kernel⟩
theorem ok_reduced {f : Addr} {fd : FuncData} (F : Fun K "reduced" "reduced" s_reduced f fd) (T : Txt K mg) (c_row_beyond : DefAt P w K mg base ct "row_beyond" 2 3 ["prime", "steps", "row"] m_row_beyond) (c_stepped : DefAt P w K mg base ct "stepped" 3 2 ["prime", "rows"] m_stepped) : FnOk P w K mg base (L2.CX P w) 4 f fd ["prime", "rows"] (spD ⟨K, ct⟩ 2 m_reduced) :=
  fun_okD F sc_reduced rfl fun cdv A outer s H E hr => by
    have nd := sc_reduced.nd
    have tk : Takes (cxOf (L2.CX P w) P w K mg base ["prime", "rows", "steps", "done", "at"] "reduced" (defScope s_reduced) f cdv A outer s H E) (wishOf fun _ => E) := takes_of rfl rfl rfl rfl
    exact (ss_cons (s_set (fun te ht => ps_set (i := 2) nd (by rfl) (by first | exact Or.inl rfl | exact Or.inr rfl) ht) (de_call (fun t ht => pe_callS c_stepped.G (hr.mono (by decide)) (by rfl) c_stepped.gm c_stepped.kp c_stepped.b (fun σ => passAt tk σ) ht) (da_cons (de_var (pv 0)) (da_cons (de_var (pv 1)) da_nil (fun hg hf => pa_cons hf hg)) (fun hg hf => pa_cons hf hg)))) (ss_cons (s_newD (fun te ht => ps_set (i := 3) nd (by rfl) (by first | exact Or.inl rfl | exact Or.inr rfl) ht)) (ss_cons (s_for (fun wi tb hi hb => ps_for (passes_of (by rfl)) (by rfl) hi (pg_name (i := 4) nd (by rfl) (by first | exact Or.inl rfl | exact Or.inr rfl)) hb) (di_seq (by rfl) (de_sortDR (b := true) (fun _ _ _ q => q) (fun t ht => pe_callBK (cr_sortedDR (by rfl)) (by rfl) T.b_sorted PyProof.Rows.boot_sorted ht (pk_cons pe_bl pk_nil)) (da_cons (de_var (pv 2)) da_nil (fun hg hf => pa_cons hf hg)))) does_gName (ss_one (s_dput (hu_of hr) (by rfl) (de_var (pv 3)) (de_var (pv 4)) (de_call (fun t ht => pe_callS c_row_beyond.G (hr.mono (by decide)) (by rfl) c_row_beyond.gm c_row_beyond.kp c_row_beyond.b (fun σ => passAt tk σ) ht) (da_cons (de_var (pv 0)) (da_cons (de_var (pv 3)) (da_cons (de_dx (hu_of hr) (de_var (pv 2)) (de_var (pv 4)) (fun _ _ => rfl)) da_nil (fun hg hf => pa_cons hf hg)) (fun hg hf => pa_cons hf hg)) (fun hg hf => pa_cons hf hg)))))) (ss_one (s_ret (de_callB (fun t ht => pe_callTy call_tupF (by rfl) T.b_tuple PyProof.Rows.boot_tuple ht) does_tupleOf (da_cons (de_lc (pe_lc (by rfl) nd (di_seq (by rfl) (de_sortD (fun t ht => pe_callB (call_sortedDI (by rfl)) (by rfl) T.b_sorted PyProof.Rows.boot_sorted ht) (da_cons (de_var (pv 3)) da_nil (fun hg hf => pa_cons hf hg)))) (blkOk_by (own := [("at", 4)]) (by first | decide +kernel | kernel_rfl)) (fun _ _ _ _ _ => (pg_name (i := 4) nd (by rfl) (by first | exact Or.inl rfl | exact Or.inr rfl))) (fun _ _ _ _ _ => dts_nil) (fun _ _ _ _ _ => (de_dx (hu_of hr) (de_var (pv 3)) (de_var (pv 4)) (fun _ _ => rfl)))) (doesv_gName (by decide))) da_nil (fun hg hf => pa_cons hf hg))))))))
/-! is_within -/
abbrev s_is_within : Stmt := top 14
def m_is_within : List D → LH → R D := fnD 5 (sSeq (sSet 3 (dCall 1 m_steps_of (daCons (dVar 1) daNil))) (sRet (dL (kList fAll) (daCons (dLc (iVal (dVar 2)) (gSet 4) [4] dYes (d2 kEq (dCall 3 m_row_beyond (daCons (dVar 0) (daCons (dVar 3) (daCons (dVar 4) daNil)))) (dCall 1 m_zero_row (daCons (dL kLen (daCons (dVar 4) daNil)) daNil)))) daNil))))
theorem sc_is_within : FnScope ["prime", "base", "rows", "steps", "row"] ["prime", "base", "rows"] (defScope s_is_within) := ⟨rfl, rfl, rfl, by decide +kernel, rfl, by decide +kernel, by decide +kernel⟩
theorem ok_is_within {f : Addr} {fd : FuncData} (F : Fun K "is_within" "is_within" s_is_within f fd) (T : Txt K mg) (c_row_beyond : DefAt P w K mg base ct "row_beyond" 2 3 ["prime", "steps", "row"] m_row_beyond) (c_steps_of : DefAt P w K mg base ct "steps_of" 2 1 ["base"] m_steps_of) (c_zero_row : DefAt P w K mg base ct "zero_row" 1 1 ["width"] m_zero_row) : FnOk P w K mg base (L2.CX P w) 3 f fd ["prime", "base", "rows"] (spD ⟨K, ct⟩ 3 m_is_within) :=
  fun_okD F sc_is_within rfl fun cdv A outer s H E hr => by
    have nd := sc_is_within.nd
    have tk : Takes (cxOf (L2.CX P w) P w K mg base ["prime", "base", "rows", "steps", "row"] "is_within" (defScope s_is_within) f cdv A outer s H E) (wishOf fun _ => E) := takes_of rfl rfl rfl rfl
    exact (ss_cons (s_set (fun te ht => ps_set (i := 3) nd (by rfl) (by first | exact Or.inl rfl | exact Or.inr rfl) ht) (de_call (fun t ht => pe_callS c_steps_of.G (hr.mono (by decide)) (by rfl) c_steps_of.gm c_steps_of.kp c_steps_of.b (fun σ => passAt tk σ) ht) (da_cons (de_var (pv 1)) da_nil (fun hg hf => pa_cons hf hg)))) (ss_one (s_ret (de_callB (fun t ht => pe_callB (cr_all (by rfl)) (by rfl) T.b_all PyProof.Rows.boot_all ht) does_all (da_cons (de_lc (pe_lc (by rfl) nd (di_seq (by rfl) (de_var (pv 2))) (blkOk_by (own := [("row", 4)]) (by first | decide +kernel | kernel_rfl)) (fun _ _ _ _ _ => (pg_name (i := 4) nd (by rfl) (by first | exact Or.inl rfl | exact Or.inr rfl))) (fun _ _ _ _ _ => dts_nil) (fun _ _ _ _ _ => (de_cmp (op_eqD (hu64 hr)) does_eq (de_call (fun t ht => pe_callS c_row_beyond.G (hr.mono (by decide)) (by rfl) c_row_beyond.gm c_row_beyond.kp c_row_beyond.b (fun σ => passAt takes0 σ) ht) (da_cons (de_var (pv 0)) (da_cons (de_var (pv 3)) (da_cons (de_var (pv 4)) da_nil (fun hg hf => pa_cons hf hg)) (fun hg hf => pa_cons hf hg)) (fun hg hf => pa_cons hf hg))) (de_call (fun t ht => pe_callS c_zero_row.G (hr.mono (by decide)) (by rfl) c_zero_row.gm c_zero_row.kp c_zero_row.b (fun σ => passAt takes0 σ) ht) (da_cons (de_callB (fun t ht => pe_callB call_len (by rfl) T.b_len PySem.boot_len ht) does_len (da_cons (de_var (pv 4)) da_nil (fun hg hf => pa_cons hf hg))) da_nil (fun hg hf => pa_cons hf hg))) (nomark _)))) (doesv_gName (by decide))) da_nil (fun hg hf => pa_cons hf hg))))))
/-! tails -/
abbrev s_tails : Stmt := top 15
def m_tails : List D → LH → R D := fnD 4 (sRet (dCall 2 m_reduced (daCons (dVar 0) (daCons (dLcK 2 (gSet 3) [3] (dB (d2 kGe (dVar 3) (dVar 1))) (dSlice (d2 kDx (dVar 2) (dVar 3)) (doSome (dVar 1)) doNone)) daNil))))
theorem sc_tails : FnScope ["prime", "width", "steps", "at"] ["prime", "width", "steps"] (defScope s_tails) := ⟨rfl, rfl, rfl, by decide +kernel, rfl, by decide +kernel, by decide +kernel⟩
theorem ok_tails {f : Addr} {fd : FuncData} (F : Fun K "tails" "tails" s_tails f fd) (T : Txt K mg) (c_reduced : DefAt P w K mg base ct "reduced" 4 2 ["prime", "rows"] m_reduced) : FnOk P w K mg base (L2.CX P w) 5 f fd ["prime", "width", "steps"] (spD ⟨K, ct⟩ 3 m_tails) :=
  fun_okD F sc_tails rfl fun cdv A outer s H E hr => by
    have nd := sc_tails.nd
    have tk : Takes (cxOf (L2.CX P w) P w K mg base ["prime", "width", "steps", "at"] "tails" (defScope s_tails) f cdv A outer s H E) (wishOf fun _ => E) := takes_of rfl rfl rfl rfl
    exact (ss_one (s_ret (de_call (fun t ht => pe_callS c_reduced.G (hr.mono (by decide)) (by rfl) c_reduced.gm c_reduced.kp c_reduced.b (fun σ => passAt tk σ) ht) (da_cons (de_var (pv 0)) (da_cons (de_lcK (pe_lc (by rfl) nd (pi_keys (pv 2)) (blkOk_by (own := [("at", 3)]) (by first | decide +kernel | kernel_rfl)) (fun _ _ _ _ _ => (pg_name (i := 3) nd (by rfl) (by first | exact Or.inl rfl | exact Or.inr rfl))) (fun _ _ _ _ _ => (dts_one (dt_cmp op_ge does_ge (de_var (pv 3)) (de_var (pv 1)) (nomark _)))) (fun _ _ _ _ _ => (de_slice (by rfl) (de_dx (hu_of hr) (de_var (pv 2)) (de_var (pv 3)) (fun _ _ => rfl)) (do_some (de_var (pv 1))) do_none))) (doesv_gName (by decide))) da_nil (fun hg hf => pa_cons hf hg)) (fun hg hf => pa_cons hf hg)))))
/-! meet_rows -/
abbrev s_meet_rows : Stmt := top 16
def m_meet_rows : List D → LH → R D := fnD 6 (sSeq (sSet 4 (d2 kPlus (dLc (iVal (dVar 2)) (gSet 5) [5] dYes (d2 kPlus (dVar 5) (dVar 5))) (dLc (iVal (dVar 3)) (gSet 5) [5] dYes (d2 kPlus (dVar 5) (dCall 1 m_zero_row (daCons (dVar 1) daNil)))))) (sRet (dCall 3 m_tails (daCons (dVar 0) (daCons (dVar 1) (daCons (dCall 2 m_stepped (daCons (dVar 0) (daCons (dVar 4) daNil))) daNil))))))
theorem sc_meet_rows : FnScope ["prime", "width", "one", "other", "rows", "row"] ["prime", "width", "one", "other"] (defScope s_meet_rows) := ⟨rfl, rfl, rfl, by decide +kernel, rfl, by decide +kernel, by decide +kernel⟩
theorem ok_meet_rows {f : Addr} {fd : FuncData} (F : Fun K "meet_rows" "meet_rows" s_meet_rows f fd) (T : Txt K mg) (c_stepped : DefAt P w K mg base ct "stepped" 3 2 ["prime", "rows"] m_stepped) (c_tails : DefAt P w K mg base ct "tails" 5 3 ["prime", "width", "steps"] m_tails) (c_zero_row : DefAt P w K mg base ct "zero_row" 1 1 ["width"] m_zero_row) : FnOk P w K mg base (L2.CX P w) 6 f fd ["prime", "width", "one", "other"] (spD ⟨K, ct⟩ 4 m_meet_rows) :=
  fun_okD F sc_meet_rows rfl fun cdv A outer s H E hr => by
    have nd := sc_meet_rows.nd
    have tk : Takes (cxOf (L2.CX P w) P w K mg base ["prime", "width", "one", "other", "rows", "row"] "meet_rows" (defScope s_meet_rows) f cdv A outer s H E) (wishOf fun _ => E) := takes_of rfl rfl rfl rfl
    exact (ss_cons (s_set (fun te ht => ps_set (i := 4) nd (by rfl) (by first | exact Or.inl rfl | exact Or.inr rfl) ht) (de_op op_plus does_plus (de_lc (pe_lc (by rfl) nd (di_seq (by rfl) (de_var (pv 2))) (blkOk_by (own := [("row", 5)]) (by first | decide +kernel | kernel_rfl)) (fun _ _ _ _ _ => (pg_name (i := 5) nd (by rfl) (by first | exact Or.inl rfl | exact Or.inr rfl))) (fun _ _ _ _ _ => dts_nil) (fun _ _ _ _ _ => (de_op op_plus does_plus (de_var (pv 5)) (de_var (pv 5))))) (doesv_gName (by decide))) (de_lc (pe_lc (by rfl) nd (di_seq (by rfl) (de_var (pv 3))) (blkOk_by (own := [("row", 5)]) (by first | decide +kernel | kernel_rfl)) (fun _ _ _ _ _ => (pg_name (i := 5) nd (by rfl) (by first | exact Or.inl rfl | exact Or.inr rfl))) (fun _ _ _ _ _ => dts_nil) (fun _ _ _ _ _ => (de_op op_plus does_plus (de_var (pv 5)) (de_call (fun t ht => pe_callS c_zero_row.G (hr.mono (by decide)) (by rfl) c_zero_row.gm c_zero_row.kp c_zero_row.b (fun σ => passAt takes0 σ) ht) (da_cons (de_var (pv 1)) da_nil (fun hg hf => pa_cons hf hg)))))) (doesv_gName (by decide))))) (ss_one (s_ret (de_call (fun t ht => pe_callS c_tails.G (hr.mono (by decide)) (by rfl) c_tails.gm c_tails.kp c_tails.b (fun σ => passAt tk σ) ht) (da_cons (de_var (pv 0)) (da_cons (de_var (pv 1)) (da_cons (de_call (fun t ht => pe_callS c_stepped.G (hr.mono (by decide)) (by rfl) c_stepped.gm c_stepped.kp c_stepped.b (fun σ => passAt tk σ) ht) (da_cons (de_var (pv 0)) (da_cons (de_var (pv 4)) da_nil (fun hg hf => pa_cons hf hg)) (fun hg hf => pa_cons hf hg))) da_nil (fun hg hf => pa_cons hf hg)) (fun hg hf => pa_cons hf hg)) (fun hg hf => pa_cons hf hg))))))
/-! is_integer -/
abbrev s_is_integer : Stmt := top 24
def m_is_integer : List D → LH → R D := fnD 1 (sRet (deAnd (dL kIsi (daCons (dVar 0) (daCons (dC (.obj (.ty "int"))) daNil))) (deNot (dL kIsi (daCons (dVar 0) (daCons (dC (.obj (.ty "bool"))) daNil))))))
theorem sc_is_integer : FnScope ["value"] ["value"] (defScope s_is_integer) := ⟨rfl, rfl, rfl, by decide +kernel, rfl, by decide +kernel, by decide +kernel⟩
theorem ok_is_integer {f : Addr} {fd : FuncData} (F : Fun K "is_integer" "is_integer" s_is_integer f fd) (T : Txt K mg) : FnOk P w K mg base (L2.CX P w) 1 f fd ["value"] (spD ⟨K, ct⟩ 1 m_is_integer) :=
  fun_okD F sc_is_integer rfl fun cdv A outer s H E hr => by
    have nd := sc_is_integer.nd
    have tk : Takes (cxOf (L2.CX P w) P w K mg base ["value"] "is_integer" (defScope s_is_integer) f cdv A outer s H E) (wishOf fun _ => E) := takes_of rfl rfl rfl rfl
    exact (ss_one (s_ret (de_and (by rfl) (de_callB (fun t ht => pe_callB call_isi (by rfl) T.b_isinstance PyProof.Rows.boot_isinstance ht) does_isi (da_cons (de_var (pv 0)) (da_cons (de_ty (pe_bltn (by rfl) T.b_int PyProof.Rows.boot_int rfl)) da_nil (fun hg hf => pa_cons hf hg)) (fun hg hf => pa_cons hf hg))) (pe_one (de_not (by rfl) (de_callB (fun t ht => pe_callB call_isi (by rfl) T.b_isinstance PyProof.Rows.boot_isinstance ht) does_isi (da_cons (de_var (pv 0)) (da_cons (de_ty (pe_bltn (by rfl) T.b_bool PyProof.Rows.boot_bool rfl)) da_nil (fun hg hf => pa_cons hf hg)) (fun hg hf => pa_cons hf hg))))))))
/-! is_from_to -/
abbrev s_is_from_to : Stmt := top 25
def m_is_from_to : List D → LH → R D := fnD 3 (sRet (deAnd (dCall 1 m_is_integer (daCons (dVar 0) daNil)) (dChain kLe kLe (dVar 1) (dVar 0) (dVar 2))))
theorem sc_is_from_to : FnScope ["value", "least", "most"] ["value", "least", "most"] (defScope s_is_from_to) := ⟨rfl, rfl, rfl, by decide +kernel, rfl, by decide +kernel, by decide +kernel⟩
theorem ok_is_from_to {f : Addr} {fd : FuncData} (F : Fun K "is_from_to" "is_from_to" s_is_from_to f fd) (T : Txt K mg) (c_is_integer : DefAt P w K mg base ct "is_integer" 1 1 ["value"] m_is_integer) : FnOk P w K mg base (L2.CX P w) 2 f fd ["value", "least", "most"] (spD ⟨K, ct⟩ 3 m_is_from_to) :=
  fun_okD F sc_is_from_to rfl fun cdv A outer s H E hr => by
    have nd := sc_is_from_to.nd
    have tk : Takes (cxOf (L2.CX P w) P w K mg base ["value", "least", "most"] "is_from_to" (defScope s_is_from_to) f cdv A outer s H E) (wishOf fun _ => E) := takes_of rfl rfl rfl rfl
    exact (ss_one (s_ret (de_and (by rfl) (de_call (fun t ht => pe_callS c_is_integer.G (hr.mono (by decide)) (by rfl) c_is_integer.gm c_is_integer.kp c_is_integer.b (fun σ => passAt tk σ) ht) (da_cons (de_var (pv 0)) da_nil (fun hg hf => pa_cons hf hg))) (pe_one (de_chain op_le op_le does_le does_le (de_var (pv 1)) (de_var (pv 0)) (de_var (pv 2)))))))
/-! is_row -/
abbrev s_is_row : Stmt := top 26
def m_is_row : List D → LH → R D := fnD 4 (sSeq (sIf (dOr (dNot (dTruth (dL kIsi (daCons (dVar 2) (daCons (dC (.obj (.ty "tuple"))) daNil))))) (dB (d2 kNe (dL kLen (daCons (dVar 2) daNil)) (dVar 1)))) (sRet (dC (.bl false))) sNext) (sRet (dL (kList fAll) (daCons (dLc (iVal (dVar 2)) (gSet 3) [3] dYes (deAnd (dCall 1 m_is_integer (daCons (dVar 3) daNil)) (dChain kLe kLt (dC (.int 0)) (dVar 3) (dVar 0)))) daNil))))
theorem sc_is_row : FnScope ["prime", "width", "value", "number"] ["prime", "width", "value"] (defScope s_is_row) := ⟨rfl, rfl, rfl, by decide +kernel, rfl, by decide +kernel, by decide +kernel⟩
theorem ok_is_row {f : Addr} {fd : FuncData} (F : Fun K "is_row" "is_row" s_is_row f fd) (T : Txt K mg) (c_is_integer : DefAt P w K mg base ct "is_integer" 1 1 ["value"] m_is_integer) : FnOk P w K mg base (L2.CX P w) 2 f fd ["prime", "width", "value"] (spD ⟨K, ct⟩ 3 m_is_row) :=
  fun_okD F sc_is_row rfl fun cdv A outer s H E hr => by
    have nd := sc_is_row.nd
    have tk : Takes (cxOf (L2.CX P w) P w K mg base ["prime", "width", "value", "number"] "is_row" (defScope s_is_row) f cdv A outer s H E) (wishOf fun _ => E) := takes_of rfl rfl rfl rfl
    exact (ss_cons (s_if (L2.PW.pt (dt_or (dt_not (dt_truth (by rfl) (de_callB (fun t ht => pe_callB call_isi (by rfl) T.b_isinstance PyProof.Rows.boot_isinstance ht) does_isi (da_cons (de_var (pv 2)) (da_cons (de_ty (pe_bltn (by rfl) T.b_tuple PyProof.Rows.boot_tuple rfl)) da_nil (fun hg hf => pa_cons hf hg)) (fun hg hf => pa_cons hf hg))))) (pw_or1 (dt_cmp (op_neD (hu64 hr)) does_ne (de_callB (fun t ht => pe_callB call_len (by rfl) T.b_len PySem.boot_len ht) does_len (da_cons (de_var (pv 2)) da_nil (fun hg hf => pa_cons hf hg))) (de_var (pv 1)) (nomark _))))) (ss_one (s_ret de_bl)) ss_nil) (ss_one (s_ret (de_callB (fun t ht => pe_callB (cr_all (by rfl)) (by rfl) T.b_all PyProof.Rows.boot_all ht) does_all (da_cons (de_lc (pe_lc (by rfl) nd (di_seq (by rfl) (de_var (pv 2))) (blkOk_by (own := [("number", 3)]) (by first | decide +kernel | kernel_rfl)) (fun _ _ _ _ _ => (pg_name (i := 3) nd (by rfl) (by first | exact Or.inl rfl | exact Or.inr rfl))) (fun _ _ _ _ _ => dts_nil) (fun _ _ _ _ _ => (de_and (by rfl) (de_call (fun t ht => pe_callS c_is_integer.G (hr.mono (by decide)) (by rfl) c_is_integer.gm c_is_integer.kp c_is_integer.b (fun σ => passAt takes0 σ) ht) (da_cons (de_var (pv 3)) da_nil (fun hg hf => pa_cons hf hg))) (pe_one (de_chain op_le op_lt does_le does_lt de_int (de_var (pv 3)) (de_var (pv 0))))))) (doesv_gName (by decide))) da_nil (fun hg hf => pa_cons hf hg))))))
/-! are_rows -/
abbrev s_are_rows : Stmt := top 27
def m_are_rows : List D → LH → R D := fnD 5 (sSeq (sIf (dOr (dNot (dTruth (dL kIsi (daCons (dVar 2) (daCons (dC (.obj (.ty "tuple"))) daNil))))) (dB (d2 kGt (dL kLen (daCons (dVar 2) daNil)) (dVar 3)))) (sRet (dC (.bl false))) sNext) (sRet (dL (kList fAll) (daCons (dLc (iVal (dVar 2)) (gSet 4) [4] dYes (dCall 3 m_is_row (daCons (dVar 0) (daCons (dVar 1) (daCons (dVar 4) daNil))))) daNil))))
theorem sc_are_rows : FnScope ["prime", "width", "value", "most", "row"] ["prime", "width", "value", "most"] (defScope s_are_rows) := ⟨rfl, rfl, rfl, by decide +kernel, rfl, by decide +kernel, by decide +kernel⟩
theorem ok_are_rows {f : Addr} {fd : FuncData} (F : Fun K "are_rows" "are_rows" s_are_rows f fd) (T : Txt K mg) (c_is_row : DefAt P w K mg base ct "is_row" 2 3 ["prime", "width", "value"] m_is_row) : FnOk P w K mg base (L2.CX P w) 3 f fd ["prime", "width", "value", "most"] (spD ⟨K, ct⟩ 4 m_are_rows) :=
  fun_okD F sc_are_rows rfl fun cdv A outer s H E hr => by
    have nd := sc_are_rows.nd
    have tk : Takes (cxOf (L2.CX P w) P w K mg base ["prime", "width", "value", "most", "row"] "are_rows" (defScope s_are_rows) f cdv A outer s H E) (wishOf fun _ => E) := takes_of rfl rfl rfl rfl
    exact (ss_cons (s_if (L2.PW.pt (dt_or (dt_not (dt_truth (by rfl) (de_callB (fun t ht => pe_callB call_isi (by rfl) T.b_isinstance PyProof.Rows.boot_isinstance ht) does_isi (da_cons (de_var (pv 2)) (da_cons (de_ty (pe_bltn (by rfl) T.b_tuple PyProof.Rows.boot_tuple rfl)) da_nil (fun hg hf => pa_cons hf hg)) (fun hg hf => pa_cons hf hg))))) (pw_or1 (dt_cmp op_gt does_gt (de_callB (fun t ht => pe_callB call_len (by rfl) T.b_len PySem.boot_len ht) does_len (da_cons (de_var (pv 2)) da_nil (fun hg hf => pa_cons hf hg))) (de_var (pv 3)) (nomark _))))) (ss_one (s_ret de_bl)) ss_nil) (ss_one (s_ret (de_callB (fun t ht => pe_callB (cr_all (by rfl)) (by rfl) T.b_all PyProof.Rows.boot_all ht) does_all (da_cons (de_lc (pe_lc (by rfl) nd (di_seq (by rfl) (de_var (pv 2))) (blkOk_by (own := [("row", 4)]) (by first | decide +kernel | kernel_rfl)) (fun _ _ _ _ _ => (pg_name (i := 4) nd (by rfl) (by first | exact Or.inl rfl | exact Or.inr rfl))) (fun _ _ _ _ _ => dts_nil) (fun _ _ _ _ _ => (de_call (fun t ht => pe_callS c_is_row.G (hr.mono (by decide)) (by rfl) c_is_row.gm c_is_row.kp c_is_row.b (fun σ => passAt takes0 σ) ht) (da_cons (de_var (pv 0)) (da_cons (de_var (pv 1)) (da_cons (de_var (pv 4)) da_nil (fun hg hf => pa_cons hf hg)) (fun hg hf => pa_cons hf hg)) (fun hg hf => pa_cons hf hg))))) (doesv_gName (by decide))) da_nil (fun hg hf => pa_cons hf hg))))))
/-! is_base -/
abbrev s_is_base : Stmt := top 28
def m_is_base : List D → LH → R D := fnD 8 (sSeq (sIf (dNot (dTruth (dCall 4 m_are_rows (daCons (dVar 0) (daCons (dVar 1) (daCons (dVar 2) (daCons (dVar 1) daNil))))))) (sRet (dC (.bl false))) sNext) (sSeq (sSet 3 (dLc (iVal (dVar 2)) (gSet 4) [4] dYes (dCall 2 m_lead_from (daCons (dVar 4) (daCons (dC (.int 0)) daNil))))) (sSeq (sIf (dTruth (dL (kList fAny) (daCons (dLc (iVal (dVar 3)) (gSet 5) [5] dYes (d2 kEq (dVar 5) (dVar 1))) daNil))) (sRet (dC (.bl false))) sNext) (sSeq (sIf (dNot (dTruth (dL (kList fAll) (daCons (dLc (iZip2 (daCons (dVar 3) (daCons (dSlice (dVar 3) (doSome (dC (.int 1))) doNone) daNil))) (gSet2 6 7) [6, 7] dYes (d2 kLt (dVar 6) (dVar 7))) daNil)))) (sRet (dC (.bl false))) sNext) (sRet (d2 kEq (dL kTupleOf (daCons (dLc (iVal (dVar 2)) (gSet 4) [4] dYes (dCall 2 m_at_places (daCons (dVar 4) (daCons (dVar 3) daNil)))) daNil)) (dCall 1 m_unit_rows (daCons (dL kLen (daCons (dVar 3) daNil)) daNil))))))))
theorem sc_is_base : FnScope ["prime", "width", "value", "leads", "row", "at", "one", "other"] ["prime", "width", "value"] (defScope s_is_base) := ⟨rfl, rfl, rfl, by decide +kernel, rfl, by decide +kernel, by decide +kernel⟩
theorem ok_is_base {f : Addr} {fd : FuncData} (F : Fun K "is_base" "is_base" s_is_base f fd) (T : Txt K mg) (c_are_rows : DefAt P w K mg base ct "are_rows" 3 4 ["prime", "width", "value", "most"] m_are_rows) (c_at_places : DefAt P w K mg base ct "at_places" 1 2 ["row", "places"] m_at_places) (c_lead_from : DefAt P w K mg base ct "lead_from" 1 2 ["row", "start"] m_lead_from) (c_unit_rows : DefAt P w K mg base ct "unit_rows" 3 1 ["width"] m_unit_rows) : FnOk P w K mg base (L2.CX P w) 4 f fd ["prime", "width", "value"] (spD ⟨K, ct⟩ 3 m_is_base) :=
  fun_okD F sc_is_base rfl fun cdv A outer s H E hr => by
    have nd := sc_is_base.nd
    have tk : Takes (cxOf (L2.CX P w) P w K mg base ["prime", "width", "value", "leads", "row", "at", "one", "other"] "is_base" (defScope s_is_base) f cdv A outer s H E) (wishOf fun _ => E) := takes_of rfl rfl rfl rfl
    exact (ss_cons (s_if (dt_not (dt_truth (by rfl) (de_call (fun t ht => pe_callS c_are_rows.G (hr.mono (by decide)) (by rfl) c_are_rows.gm c_are_rows.kp c_are_rows.b (fun σ => passAt tk σ) ht) (da_cons (de_var (pv 0)) (da_cons (de_var (pv 1)) (da_cons (de_var (pv 2)) (da_cons (de_var (pv 1)) da_nil (fun hg hf => pa_cons hf hg)) (fun hg hf => pa_cons hf hg)) (fun hg hf => pa_cons hf hg)) (fun hg hf => pa_cons hf hg))))) (ss_one (s_ret de_bl)) ss_nil) (ss_cons (s_set (fun te ht => ps_set (i := 3) nd (by rfl) (by first | exact Or.inl rfl | exact Or.inr rfl) ht) (de_lc (pe_lc (by rfl) nd (di_seq (by rfl) (de_var (pv 2))) (blkOk_by (own := [("row", 4)]) (by first | decide +kernel | kernel_rfl)) (fun _ _ _ _ _ => (pg_name (i := 4) nd (by rfl) (by first | exact Or.inl rfl | exact Or.inr rfl))) (fun _ _ _ _ _ => dts_nil) (fun _ _ _ _ _ => (de_call (fun t ht => pe_callS c_lead_from.G (hr.mono (by decide)) (by rfl) c_lead_from.gm c_lead_from.kp c_lead_from.b (fun σ => passAt takes0 σ) ht) (da_cons (de_var (pv 4)) (da_cons de_int da_nil (fun hg hf => pa_cons hf hg)) (fun hg hf => pa_cons hf hg))))) (doesv_gName (by decide)))) (ss_cons (s_if (dt_truth (by rfl) (de_callB (fun t ht => pe_callB (cr_any (by rfl)) (by rfl) T.b_any PyProof.Rows.boot_any ht) does_any (da_cons (de_lc (pe_lc (by rfl) nd (di_seq (by rfl) (de_var (pv 3))) (blkOk_by (own := [("at", 5)]) (by first | decide +kernel | kernel_rfl)) (fun _ _ _ _ _ => (pg_name (i := 5) nd (by rfl) (by first | exact Or.inl rfl | exact Or.inr rfl))) (fun _ _ _ _ _ => dts_nil) (fun _ _ _ _ _ => (de_cmp (op_eqD (hu64 hr)) does_eq (de_var (pv 5)) (de_var (pv 1)) (nomark _)))) (doesv_gName (by decide))) da_nil (fun hg hf => pa_cons hf hg)))) (ss_one (s_ret de_bl)) ss_nil) (ss_cons (s_if (dt_not (dt_truth (by rfl) (de_callB (fun t ht => pe_callB (cr_all (by rfl)) (by rfl) T.b_all PyProof.Rows.boot_all ht) does_all (da_cons (de_lc (pe_lc (by rfl) nd (di_zip (by rfl) (fun t ht => pi_zipB (by rfl) T.b_zip ht) (da_cons (de_var (pv 3)) (da_cons (de_slice (by rfl) (de_var (pv 3)) (do_some de_int) do_none) da_nil (fun hg hf => pa_cons hf hg)) (fun hg hf => pa_cons hf hg))) (blkOk_by (own := [("one", 6), ("other", 7)]) (by first | decide +kernel | kernel_rfl)) (fun _ _ _ _ _ => (pg_tup (by rfl) (pgs_cons (pg_name (i := 6) nd (by rfl) (by first | exact Or.inl rfl | exact Or.inr rfl)) (pgs_cons (pg_name (i := 7) nd (by rfl) (by first | exact Or.inl rfl | exact Or.inr rfl)) pgs_nil)))) (fun _ _ _ _ _ => dts_nil) (fun _ _ _ _ _ => (de_cmp op_lt does_lt (de_var (pv 6)) (de_var (pv 7)) (nomark _)))) (doesv_gTup2 (by rfl) (by decide) (by decide))) da_nil (fun hg hf => pa_cons hf hg))))) (ss_one (s_ret de_bl)) ss_nil) (ss_one (s_ret (de_cmp (op_eqD (hu64 hr)) does_eq (de_callB (fun t ht => pe_callTy call_tupF (by rfl) T.b_tuple PyProof.Rows.boot_tuple ht) does_tupleOf (da_cons (de_lc (pe_lc (by rfl) nd (di_seq (by rfl) (de_var (pv 2))) (blkOk_by (own := [("row", 4)]) (by first | decide +kernel | kernel_rfl)) (fun _ _ _ _ _ => (pg_name (i := 4) nd (by rfl) (by first | exact Or.inl rfl | exact Or.inr rfl))) (fun _ _ _ _ _ => dts_nil) (fun _ _ _ _ _ => (de_call (fun t ht => pe_callS c_at_places.G (hr.mono (by decide)) (by rfl) c_at_places.gm c_at_places.kp c_at_places.b (fun σ => passAt takes0 σ) ht) (da_cons (de_var (pv 4)) (da_cons (de_var (pv 3)) da_nil (fun hg hf => pa_cons hf hg)) (fun hg hf => pa_cons hf hg))))) (doesv_gName (by decide))) da_nil (fun hg hf => pa_cons hf hg))) (de_call (fun t ht => pe_callS c_unit_rows.G (hr.mono (by decide)) (by rfl) c_unit_rows.gm c_unit_rows.kp c_unit_rows.b (fun σ => passAt tk σ) ht) (da_cons (de_callB (fun t ht => pe_callB call_len (by rfl) T.b_len PySem.boot_len ht) does_len (da_cons (de_var (pv 3)) da_nil (fun hg hf => pa_cons hf hg))) da_nil (fun hg hf => pa_cons hf hg))) (nomark _))))))))
/-! check_prime -/
abbrev s_check_prime : Stmt := top 29
def m_check_prime : List D → LH → R D := fnD 1 (sIf (dOr (dNot (dTruth (dCall 1 m_is_integer (daCons (dVar 0) daNil)))) (dB (d2 (kIn true) (dVar 0) (dC (.tup (([2, 3, 5, 7] : List Int).map D.int)))))) sNever sNext)
theorem sc_check_prime : FnScope ["prime"] ["prime"] (defScope s_check_prime) := ⟨rfl, rfl, rfl, by decide +kernel, rfl, by decide +kernel, by decide +kernel⟩
theorem ok_check_prime {f : Addr} {fd : FuncData} (F : Fun K "check_prime" "check_prime" s_check_prime f fd) (T : Txt K mg) (c_is_integer : DefAt P w K mg base ct "is_integer" 1 1 ["value"] m_is_integer) : FnOk P w K mg base (L2.CX P w) 2 f fd ["prime"] (spD ⟨K, ct⟩ 1 m_check_prime) :=
  fun_okD F sc_check_prime rfl fun cdv A outer s H E hr => by
    have nd := sc_check_prime.nd
    have tk : Takes (cxOf (L2.CX P w) P w K mg base ["prime"] "check_prime" (defScope s_check_prime) f cdv A outer s H E) (wishOf fun _ => E) := takes_of rfl rfl rfl rfl
    exact (ss_one (s_if (L2.PW.pt (dt_or (dt_not (dt_truth (by rfl) (de_call (fun t ht => pe_callS c_is_integer.G (hr.mono (by decide)) (by rfl) c_is_integer.gm c_is_integer.kp c_is_integer.b (fun σ => passAt tk σ) ht) (da_cons (de_var (pv 0)) da_nil (fun hg hf => pa_cons hf hg))))) (pw_or1 (dt_cmp op_notIn_seq does_in (de_var (pv 0)) (de_gTup (is := [2, 3, 5, 7]) (by rfl) (by rfl) T.c_PRIMES.choose_spec.1 T.c_PRIMES.choose_spec.2) (by rfl))))) (ss_one (s_never ps_never)) ss_nil))
/-! check_from_to -/
abbrev s_check_from_to : Stmt := top 30
def m_check_from_to : List D → LH → R D := fnD 3 (sIf (dNot (dTruth (dCall 3 m_is_from_to (daCons (dVar 0) (daCons (dVar 1) (daCons (dVar 2) daNil)))))) sNever sNext)
theorem sc_check_from_to : FnScope ["number", "least", "most"] ["number", "least", "most"] (defScope s_check_from_to) := ⟨rfl, rfl, rfl, by decide +kernel, rfl, by decide +kernel, by decide +kernel⟩
theorem ok_check_from_to {f : Addr} {fd : FuncData} (F : Fun K "check_from_to" "check_from_to" s_check_from_to f fd) (T : Txt K mg) (c_is_from_to : DefAt P w K mg base ct "is_from_to" 2 3 ["value", "least", "most"] m_is_from_to) : FnOk P w K mg base (L2.CX P w) 3 f fd ["number", "least", "most"] (spD ⟨K, ct⟩ 3 m_check_from_to) :=
  fun_okD F sc_check_from_to rfl fun cdv A outer s H E hr => by
    have nd := sc_check_from_to.nd
    have tk : Takes (cxOf (L2.CX P w) P w K mg base ["number", "least", "most"] "check_from_to" (defScope s_check_from_to) f cdv A outer s H E) (wishOf fun _ => E) := takes_of rfl rfl rfl rfl
    exact (ss_one (s_if (dt_not (dt_truth (by rfl) (de_call (fun t ht => pe_callS c_is_from_to.G (hr.mono (by decide)) (by rfl) c_is_from_to.gm c_is_from_to.kp c_is_from_to.b (fun σ => passAt tk σ) ht) (da_cons (de_var (pv 0)) (da_cons (de_var (pv 1)) (da_cons (de_var (pv 2)) da_nil (fun hg hf => pa_cons hf hg)) (fun hg hf => pa_cons hf hg)) (fun hg hf => pa_cons hf hg))))) (ss_one (s_never ps_never)) ss_nil))
/-! check_width -/
abbrev s_check_width : Stmt := top 33
def m_check_width : List D → LH → R D := fnD 1 (sExpr (dCall 3 m_check_from_to (daCons (dVar 0) (daCons (dC (.int 1)) (daCons (dC (.int 150)) daNil)))))
theorem sc_check_width : FnScope ["width"] ["width"] (defScope s_check_width) := ⟨rfl, rfl, rfl, by decide +kernel, rfl, by decide +kernel, by decide +kernel⟩
theorem ok_check_width {f : Addr} {fd : FuncData} (F : Fun K "check_width" "check_width" s_check_width f fd) (T : Txt K mg) (c_check_from_to : DefAt P w K mg base ct "check_from_to" 3 3 ["number", "least", "most"] m_check_from_to) : FnOk P w K mg base (L2.CX P w) 4 f fd ["width"] (spD ⟨K, ct⟩ 1 m_check_width) :=
  fun_okD F sc_check_width rfl fun cdv A outer s H E hr => by
    have nd := sc_check_width.nd
    have tk : Takes (cxOf (L2.CX P w) P w K mg base ["width"] "check_width" (defScope s_check_width) f cdv A outer s H E) (wishOf fun _ => E) := takes_of rfl rfl rfl rfl
    exact (ss_one (s_expr (de_call (fun t ht => pe_callS c_check_from_to.G (hr.mono (by decide)) (by rfl) c_check_from_to.gm c_check_from_to.kp c_check_from_to.b (fun σ => passAt tk σ) ht) (da_cons (de_var (pv 0)) (da_cons de_int (da_cons (de_gInt (by rfl) T.c_MAX_WIDTH.choose_spec) da_nil (fun hg hf => pa_cons hf hg)) (fun hg hf => pa_cons hf hg)) (fun hg hf => pa_cons hf hg)))))
/-! check_row -/
abbrev s_check_row : Stmt := top 34
def m_check_row : List D → LH → R D := fnD 3 (sIf (dNot (dTruth (dCall 3 m_is_row (daCons (dVar 0) (daCons (dVar 1) (daCons (dVar 2) daNil)))))) sNever sNext)
theorem sc_check_row : FnScope ["prime", "width", "row"] ["prime", "width", "row"] (defScope s_check_row) := ⟨rfl, rfl, rfl, by decide +kernel, rfl, by decide +kernel, by decide +kernel⟩
theorem ok_check_row {f : Addr} {fd : FuncData} (F : Fun K "check_row" "check_row" s_check_row f fd) (T : Txt K mg) (c_is_row : DefAt P w K mg base ct "is_row" 2 3 ["prime", "width", "value"] m_is_row) : FnOk P w K mg base (L2.CX P w) 3 f fd ["prime", "width", "row"] (spD ⟨K, ct⟩ 3 m_check_row) :=
  fun_okD F sc_check_row rfl fun cdv A outer s H E hr => by
    have nd := sc_check_row.nd
    have tk : Takes (cxOf (L2.CX P w) P w K mg base ["prime", "width", "row"] "check_row" (defScope s_check_row) f cdv A outer s H E) (wishOf fun _ => E) := takes_of rfl rfl rfl rfl
    exact (ss_one (s_if (dt_not (dt_truth (by rfl) (de_call (fun t ht => pe_callS c_is_row.G (hr.mono (by decide)) (by rfl) c_is_row.gm c_is_row.kp c_is_row.b (fun σ => passAt tk σ) ht) (da_cons (de_var (pv 0)) (da_cons (de_var (pv 1)) (da_cons (de_var (pv 2)) da_nil (fun hg hf => pa_cons hf hg)) (fun hg hf => pa_cons hf hg)) (fun hg hf => pa_cons hf hg))))) (ss_one (s_never ps_never)) ss_nil))
/-! check_space -/
abbrev s_check_space : Stmt := top 35
def m_check_space : List D → LH → R D := fnD 3 (sIf (dNot (dTruth (dCall 3 m_is_base (daCons (dVar 0) (daCons (dVar 1) (daCons (dVar 2) daNil)))))) sNever sNext)
theorem sc_check_space : FnScope ["prime", "width", "space"] ["prime", "width", "space"] (defScope s_check_space) := ⟨rfl, rfl, rfl, by decide +kernel, rfl, by decide +kernel, by decide +kernel⟩
theorem ok_check_space {f : Addr} {fd : FuncData} (F : Fun K "check_space" "check_space" s_check_space f fd) (T : Txt K mg) (c_is_base : DefAt P w K mg base ct "is_base" 4 3 ["prime", "width", "value"] m_is_base) : FnOk P w K mg base (L2.CX P w) 5 f fd ["prime", "width", "space"] (spD ⟨K, ct⟩ 3 m_check_space) :=
  fun_okD F sc_check_space rfl fun cdv A outer s H E hr => by
    have nd := sc_check_space.nd
    have tk : Takes (cxOf (L2.CX P w) P w K mg base ["prime", "width", "space"] "check_space" (defScope s_check_space) f cdv A outer s H E) (wishOf fun _ => E) := takes_of rfl rfl rfl rfl
    exact (ss_one (s_if (dt_not (dt_truth (by rfl) (de_call (fun t ht => pe_callS c_is_base.G (hr.mono (by decide)) (by rfl) c_is_base.gm c_is_base.kp c_is_base.b (fun σ => passAt tk σ) ht) (da_cons (de_var (pv 0)) (da_cons (de_var (pv 1)) (da_cons (de_var (pv 2)) da_nil (fun hg hf => pa_cons hf hg)) (fun hg hf => pa_cons hf hg)) (fun hg hf => pa_cons hf hg))))) (ss_one (s_never ps_never)) ss_nil))
/-! does_hold -/
abbrev s_does_hold : Stmt := top 36
def m_does_hold : List D → LH → R D := fnD 4 (sSeq (sExpr (dCall 1 m_check_prime (daCons (dVar 0) daNil))) (sSeq (sExpr (dCall 1 m_check_width (daCons (dVar 1) daNil))) (sSeq (sExpr (dCall 3 m_check_space (daCons (dVar 0) (daCons (dVar 1) (daCons (dVar 2) daNil))))) (sSeq (sExpr (dCall 3 m_check_row (daCons (dVar 0) (daCons (dVar 1) (daCons (dVar 3) daNil))))) (sRet (dCall 3 m_is_within (daCons (dVar 0) (daCons (dVar 2) (daCons (dL kTup (daCons (dVar 3) daNil)) daNil)))))))))
theorem sc_does_hold : FnScope ["prime", "width", "space", "row"] ["prime", "width", "space", "row"] (defScope s_does_hold) := ⟨rfl, rfl, rfl, by decide +kernel, rfl, by decide +kernel, by decide +kernel⟩
theorem ok_does_hold {f : Addr} {fd : FuncData} (F : Fun K "does_hold" "does_hold" s_does_hold f fd) (T : Txt K mg) (c_check_prime : DefAt P w K mg base ct "check_prime" 2 1 ["prime"] m_check_prime) (c_check_row : DefAt P w K mg base ct "check_row" 3 3 ["prime", "width", "row"] m_check_row) (c_check_space : DefAt P w K mg base ct "check_space" 5 3 ["prime", "width", "space"] m_check_space) (c_check_width : DefAt P w K mg base ct "check_width" 4 1 ["width"] m_check_width) (c_is_within : DefAt P w K mg base ct "is_within" 3 3 ["prime", "base", "rows"] m_is_within) : FnOk P w K mg base (L2.CX P w) 6 f fd ["prime", "width", "space", "row"] (spD ⟨K, ct⟩ 4 m_does_hold) :=
  fun_okD F sc_does_hold rfl fun cdv A outer s H E hr => by
    have nd := sc_does_hold.nd
    have tk : Takes (cxOf (L2.CX P w) P w K mg base ["prime", "width", "space", "row"] "does_hold" (defScope s_does_hold) f cdv A outer s H E) (wishOf fun _ => E) := takes_of rfl rfl rfl rfl
    exact (ss_cons (s_expr (de_call (fun t ht => pe_callS c_check_prime.G (hr.mono (by decide)) (by rfl) c_check_prime.gm c_check_prime.kp c_check_prime.b (fun σ => passAt tk σ) ht) (da_cons (de_var (pv 0)) da_nil (fun hg hf => pa_cons hf hg)))) (ss_cons (s_expr (de_call (fun t ht => pe_callS c_check_width.G (hr.mono (by decide)) (by rfl) c_check_width.gm c_check_width.kp c_check_width.b (fun σ => passAt tk σ) ht) (da_cons (de_var (pv 1)) da_nil (fun hg hf => pa_cons hf hg)))) (ss_cons (s_expr (de_call (fun t ht => pe_callS c_check_space.G (hr.mono (by decide)) (by rfl) c_check_space.gm c_check_space.kp c_check_space.b (fun σ => passAt tk σ) ht) (da_cons (de_var (pv 0)) (da_cons (de_var (pv 1)) (da_cons (de_var (pv 2)) da_nil (fun hg hf => pa_cons hf hg)) (fun hg hf => pa_cons hf hg)) (fun hg hf => pa_cons hf hg)))) (ss_cons (s_expr (de_call (fun t ht => pe_callS c_check_row.G (hr.mono (by decide)) (by rfl) c_check_row.gm c_check_row.kp c_check_row.b (fun σ => passAt tk σ) ht) (da_cons (de_var (pv 0)) (da_cons (de_var (pv 1)) (da_cons (de_var (pv 3)) da_nil (fun hg hf => pa_cons hf hg)) (fun hg hf => pa_cons hf hg)) (fun hg hf => pa_cons hf hg)))) (ss_one (s_ret (de_call (fun t ht => pe_callS c_is_within.G (hr.mono (by decide)) (by rfl) c_is_within.gm c_is_within.kp c_is_within.b (fun σ => passAt tk σ) ht) (da_cons (de_var (pv 0)) (da_cons (de_var (pv 2)) (da_cons (de_tup (da_cons (de_var (pv 3)) da_nil (fun hg hf => pa_cons hf hg))) da_nil (fun hg hf => pa_cons hf hg)) (fun hg hf => pa_cons hf hg)) (fun hg hf => pa_cons hf hg)))))))))
/-! check_spaces -/
abbrev s_check_spaces : Stmt := top 37
def m_check_spaces : List D → LH → R D := fnD 4 (sSeq (sExpr (dCall 1 m_check_prime (daCons (dVar 0) daNil))) (sSeq (sExpr (dCall 1 m_check_width (daCons (dVar 1) daNil))) (sSeq (sExpr (dCall 3 m_check_space (daCons (dVar 0) (daCons (dVar 1) (daCons (dVar 2) daNil))))) (sExpr (dCall 3 m_check_space (daCons (dVar 0) (daCons (dVar 1) (daCons (dVar 3) daNil))))))))
theorem sc_check_spaces : FnScope ["prime", "width", "one", "other"] ["prime", "width", "one", "other"] (defScope s_check_spaces) := ⟨rfl, rfl, rfl, by decide +kernel, rfl, by decide +kernel, by decide +kernel⟩
theorem ok_check_spaces {f : Addr} {fd : FuncData} (F : Fun K "check_spaces" "check_spaces" s_check_spaces f fd) (T : Txt K mg) (c_check_prime : DefAt P w K mg base ct "check_prime" 2 1 ["prime"] m_check_prime) (c_check_space : DefAt P w K mg base ct "check_space" 5 3 ["prime", "width", "space"] m_check_space) (c_check_width : DefAt P w K mg base ct "check_width" 4 1 ["width"] m_check_width) : FnOk P w K mg base (L2.CX P w) 6 f fd ["prime", "width", "one", "other"] (spD ⟨K, ct⟩ 4 m_check_spaces) :=
  fun_okD F sc_check_spaces rfl fun cdv A outer s H E hr => by
    have nd := sc_check_spaces.nd
    have tk : Takes (cxOf (L2.CX P w) P w K mg base ["prime", "width", "one", "other"] "check_spaces" (defScope s_check_spaces) f cdv A outer s H E) (wishOf fun _ => E) := takes_of rfl rfl rfl rfl
    exact (ss_cons (s_expr (de_call (fun t ht => pe_callS c_check_prime.G (hr.mono (by decide)) (by rfl) c_check_prime.gm c_check_prime.kp c_check_prime.b (fun σ => passAt tk σ) ht) (da_cons (de_var (pv 0)) da_nil (fun hg hf => pa_cons hf hg)))) (ss_cons (s_expr (de_call (fun t ht => pe_callS c_check_width.G (hr.mono (by decide)) (by rfl) c_check_width.gm c_check_width.kp c_check_width.b (fun σ => passAt tk σ) ht) (da_cons (de_var (pv 1)) da_nil (fun hg hf => pa_cons hf hg)))) (ss_cons (s_expr (de_call (fun t ht => pe_callS c_check_space.G (hr.mono (by decide)) (by rfl) c_check_space.gm c_check_space.kp c_check_space.b (fun σ => passAt tk σ) ht) (da_cons (de_var (pv 0)) (da_cons (de_var (pv 1)) (da_cons (de_var (pv 2)) da_nil (fun hg hf => pa_cons hf hg)) (fun hg hf => pa_cons hf hg)) (fun hg hf => pa_cons hf hg)))) (ss_one (s_expr (de_call (fun t ht => pe_callS c_check_space.G (hr.mono (by decide)) (by rfl) c_check_space.gm c_check_space.kp c_check_space.b (fun σ => passAt tk σ) ht) (da_cons (de_var (pv 0)) (da_cons (de_var (pv 1)) (da_cons (de_var (pv 3)) da_nil (fun hg hf => pa_cons hf hg)) (fun hg hf => pa_cons hf hg)) (fun hg hf => pa_cons hf hg))))))))
/-! space_sum -/
abbrev s_space_sum : Stmt := top 38
def m_space_sum : List D → LH → R D := fnD 4 (sSeq (sExpr (dCall 4 m_check_spaces (daCons (dVar 0) (daCons (dVar 1) (daCons (dVar 2) (daCons (dVar 3) daNil)))))) (sRet (dCall 2 m_reduced (daCons (dVar 0) (daCons (d2 kPlus (dVar 2) (dVar 3)) daNil)))))
theorem sc_space_sum : FnScope ["prime", "width", "one", "other"] ["prime", "width", "one", "other"] (defScope s_space_sum) := ⟨rfl, rfl, rfl, by decide +kernel, rfl, by decide +kernel, by decide +kernel⟩
theorem ok_space_sum {f : Addr} {fd : FuncData} (F : Fun K "space_sum" "space_sum" s_space_sum f fd) (T : Txt K mg) (c_check_spaces : DefAt P w K mg base ct "check_spaces" 6 4 ["prime", "width", "one", "other"] m_check_spaces) (c_reduced : DefAt P w K mg base ct "reduced" 4 2 ["prime", "rows"] m_reduced) : FnOk P w K mg base (L2.CX P w) 7 f fd ["prime", "width", "one", "other"] (spD ⟨K, ct⟩ 4 m_space_sum) :=
  fun_okD F sc_space_sum rfl fun cdv A outer s H E hr => by
    have nd := sc_space_sum.nd
    have tk : Takes (cxOf (L2.CX P w) P w K mg base ["prime", "width", "one", "other"] "space_sum" (defScope s_space_sum) f cdv A outer s H E) (wishOf fun _ => E) := takes_of rfl rfl rfl rfl
    exact (ss_cons (s_expr (de_call (fun t ht => pe_callS c_check_spaces.G (hr.mono (by decide)) (by rfl) c_check_spaces.gm c_check_spaces.kp c_check_spaces.b (fun σ => passAt tk σ) ht) (da_cons (de_var (pv 0)) (da_cons (de_var (pv 1)) (da_cons (de_var (pv 2)) (da_cons (de_var (pv 3)) da_nil (fun hg hf => pa_cons hf hg)) (fun hg hf => pa_cons hf hg)) (fun hg hf => pa_cons hf hg)) (fun hg hf => pa_cons hf hg)))) (ss_one (s_ret (de_call (fun t ht => pe_callS c_reduced.G (hr.mono (by decide)) (by rfl) c_reduced.gm c_reduced.kp c_reduced.b (fun σ => passAt tk σ) ht) (da_cons (de_var (pv 0)) (da_cons (de_op op_plus does_plus (de_var (pv 2)) (de_var (pv 3))) da_nil (fun hg hf => pa_cons hf hg)) (fun hg hf => pa_cons hf hg))))))
/-! space_meet -/
abbrev s_space_meet : Stmt := top 39
def m_space_meet : List D → LH → R D := fnD 4 (sSeq (sExpr (dCall 4 m_check_spaces (daCons (dVar 0) (daCons (dVar 1) (daCons (dVar 2) (daCons (dVar 3) daNil)))))) (sRet (dCall 4 m_meet_rows (daCons (dVar 0) (daCons (dVar 1) (daCons (dVar 2) (daCons (dVar 3) daNil)))))))
theorem sc_space_meet : FnScope ["prime", "width", "one", "other"] ["prime", "width", "one", "other"] (defScope s_space_meet) := ⟨rfl, rfl, rfl, by decide +kernel, rfl, by decide +kernel, by decide +kernel⟩
theorem ok_space_meet {f : Addr} {fd : FuncData} (F : Fun K "space_meet" "space_meet" s_space_meet f fd) (T : Txt K mg) (c_check_spaces : DefAt P w K mg base ct "check_spaces" 6 4 ["prime", "width", "one", "other"] m_check_spaces) (c_meet_rows : DefAt P w K mg base ct "meet_rows" 6 4 ["prime", "width", "one", "other"] m_meet_rows) : FnOk P w K mg base (L2.CX P w) 7 f fd ["prime", "width", "one", "other"] (spD ⟨K, ct⟩ 4 m_space_meet) :=
  fun_okD F sc_space_meet rfl fun cdv A outer s H E hr => by
    have nd := sc_space_meet.nd
    have tk : Takes (cxOf (L2.CX P w) P w K mg base ["prime", "width", "one", "other"] "space_meet" (defScope s_space_meet) f cdv A outer s H E) (wishOf fun _ => E) := takes_of rfl rfl rfl rfl
    exact (ss_cons (s_expr (de_call (fun t ht => pe_callS c_check_spaces.G (hr.mono (by decide)) (by rfl) c_check_spaces.gm c_check_spaces.kp c_check_spaces.b (fun σ => passAt tk σ) ht) (da_cons (de_var (pv 0)) (da_cons (de_var (pv 1)) (da_cons (de_var (pv 2)) (da_cons (de_var (pv 3)) da_nil (fun hg hf => pa_cons hf hg)) (fun hg hf => pa_cons hf hg)) (fun hg hf => pa_cons hf hg)) (fun hg hf => pa_cons hf hg)))) (ss_one (s_ret (de_call (fun t ht => pe_callS c_meet_rows.G (hr.mono (by decide)) (by rfl) c_meet_rows.gm c_meet_rows.kp c_meet_rows.b (fun σ => passAt tk σ) ht) (da_cons (de_var (pv 0)) (da_cons (de_var (pv 1)) (da_cons (de_var (pv 2)) (da_cons (de_var (pv 3)) da_nil (fun hg hf => pa_cons hf hg)) (fun hg hf => pa_cons hf hg)) (fun hg hf => pa_cons hf hg)) (fun hg hf => pa_cons hf hg))))))
/-! _law_kettle -/
abbrev s_law_kettle : Stmt := top 41
def m_law_kettle : List D → LH → R (List D) := fnF 5 (sSeq (sSet 2 (dIf (dB (d2 kLt (dVar 1) (dL kLen (daCons (dVar 0) daNil)))) (dL kIntOf (daCons (d2 kIx (dVar 0) (dVar 1)) daNil)) (d2 kPlus (d2 kTimes (dC (.int 97)) (dVar 1)) (dC (.int 41))))) (sSeq (sSet 3 (d2 kMod (dL kIntOf (daCons (dL (kI1 fun i => if i < 0 then -i else i) (daCons (dVar 2) daNil)) daNil)) (d2 kPow (d2 kPow (dC (.int 10)) (dC (.int 59))) (dC (.int 7))))) (sSeq (sSet 4 (d2 kPlus (d2 kPlus (d2 kPlus (d2 kTimes (d2 kMod (dL kIntOf (daCons (dVar 3) daNil)) (dC (.int 1152921504606846697))) (dC (.int 60623))) (d2 kTimes (dC (.int 7393)) (dVar 1))) (d2 kTimes (dC (.int 71)) (dL kIntOf (daCons (d2 kLt (dVar 2) (dC (.int 0))) daNil)))) (dC (.int 37)))) (sRetF (fun env L => ((daCons (dL (kI2 fun i j => if j > i then j else i) (daCons (dC (.int 0)) (daCons (d2 kPlus (d2 kSub (dVar 3) (d2 kPow (dC (.int 10)) (dC (.int 16)))) (dC (.int 3))) daNil))) (daCons (d2 kMod (dL kIntOf (daCons (dVar 4) daNil)) (dC (.int 2305843009213693973))) (daCons (dC (.int 0)) daNil))) env L).bind fun ds L1 => if fits ds.length then .ok ds L1 else .no)))))
theorem sc_law_kettle : FnScope ["_law_script", "_law_at", "_law_cell", "_law_great", "_law_mixed"] ["_law_script", "_law_at"] (defScope s_law_kettle) := ⟨rfl, rfl, rfl, by decide +kernel, rfl, by decide +kernel, by decide +kernel⟩
theorem ok_law_kettle {f : Addr} {fd : FuncData} (F : Fun K "_law_kettle" "_law_kettle" s_law_kettle f fd) (T : Txt K mg) : FnOk P w K mg base (L2.CX P w) 1 f fd ["_law_script", "_law_at"] (spF ⟨K, ct⟩ 2 m_law_kettle) :=
  fun_okF F sc_law_kettle rfl fun cdv A outer s H E hr => by
    have nd := sc_law_kettle.nd
    have tk : Takes (cxOf (L2.CX P w) P w K mg base ["_law_script", "_law_at", "_law_cell", "_law_great", "_law_mixed"] "_law_kettle" (defScope s_law_kettle) f cdv A outer s H E) (wishOf fun _ => E) := takes_of rfl rfl rfl rfl
    exact (ss_cons (s_set (fun te ht => ps_set (i := 2) nd (by rfl) (by first | exact Or.inl rfl | exact Or.inr rfl) ht) (de_ifExp (dt_cmp op_lt does_lt (de_var (pv 1)) (de_callB (fun t ht => pe_callB call_len (by rfl) T.b_len PySem.boot_len ht) does_len (da_cons (de_var (pv 0)) da_nil (fun hg hf => pa_cons hf hg))) (nomark _)) (de_callB (fun t ht => pe_callTy call_int1 (by rfl) T.b_int PyProof.Rows.boot_int ht) does_intOf (da_cons (de_ix (by rfl) (de_var (pv 0)) (de_var (pv 1)) (fun _ _ => rfl)) da_nil (fun hg hf => pa_cons hf hg))) (de_op op_plus does_plus (de_op op_times does_times de_int (de_var (pv 1))) de_int))) (ss_cons (s_set (fun te ht => ps_set (i := 3) nd (by rfl) (by first | exact Or.inl rfl | exact Or.inr rfl) ht) (de_op op_mod does_mod (de_callB (fun t ht => pe_callTy call_int1 (by rfl) T.b_int PyProof.Rows.boot_int ht) does_intOf (da_cons (de_callB (fun t ht => pe_callB call_abs (by rfl) T.b_abs PyProof.Rows.boot_abs ht) does_abs (da_cons (de_var (pv 2)) da_nil (fun hg hf => pa_cons hf hg))) da_nil (fun hg hf => pa_cons hf hg))) (de_op op_powW does_pow (de_op op_powW does_pow de_int de_int) de_int))) (ss_cons (s_set (fun te ht => ps_set (i := 4) nd (by rfl) (by first | exact Or.inl rfl | exact Or.inr rfl) ht) (de_op op_plus does_plus (de_op op_plus does_plus (de_op op_plus does_plus (de_op op_times does_times (de_op op_mod does_mod (de_callB (fun t ht => pe_callTy call_int1 (by rfl) T.b_int PyProof.Rows.boot_int ht) does_intOf (da_cons (de_var (pv 3)) da_nil (fun hg hf => pa_cons hf hg))) de_int) de_int) (de_op op_times does_times de_int (de_var (pv 1)))) (de_op op_times does_times de_int (de_callB (fun t ht => pe_callTy call_int1 (by rfl) T.b_int PyProof.Rows.boot_int ht) does_intOf (da_cons (de_cmp op_lt does_lt (de_var (pv 2)) de_int (nomark _)) da_nil (fun hg hf => pa_cons hf hg))))) de_int)) (ss_one (s_retF (df_lst (da_cons (de_callB (fun t ht => pe_callB (call_max2 (by rfl)) (by rfl) T.b_max PyProof.Rows.boot_max ht) does_max2 (da_cons de_int (da_cons (de_op op_plus does_plus (de_op op_sub does_sub (de_var (pv 3)) (de_op op_powW does_pow de_int de_int)) de_int) da_nil (fun hg hf => pa_cons hf hg)) (fun hg hf => pa_cons hf hg))) (da_cons (de_op op_mod does_mod (de_callB (fun t ht => pe_callTy call_int1 (by rfl) T.b_int PyProof.Rows.boot_int ht) does_intOf (da_cons (de_var (pv 4)) da_nil (fun hg hf => pa_cons hf hg))) de_int) (da_cons de_int da_nil (fun hg hf => pa_cons hf hg)) (fun hg hf => pa_cons hf hg)) (fun hg hf => pa_cons hf hg))))))))
/-! _law_ladle -/
abbrev s_law_ladle : Stmt := top 42
def m_law_ladle : List D → LH → R D := fnD 5 (sSeq (sIf (dB (d2 kGt (d2 kIx (dVar 0) (dC (.int 0))) (dC (.int 0)))) (sSeq (sSet 4 (d2 kMod (dL kIntOf (daCons (d2 kIx (dVar 0) (dC (.int 0))) daNil)) (dVar 1))) (sSeq (sSetIx (dVar 0) (dC (.int 0)) (d2 kDivW (d2 kIx (dVar 0) (dC (.int 0))) (dVar 1))) (sRet (dVar 4)))) sNext) (sSeq (sSetIx (dVar 0) (dC (.int 2)) (d2 kPlus (d2 kIx (dVar 0) (dC (.int 2))) (dC (.int 1)))) (sSeq (sSet 2 (d2 kMod (dL kIntOf (daCons (d2 kPlus (d2 kIx (dVar 0) (dC (.int 1))) (d2 kTimes (dC (.int 1000423)) (d2 kIx (dVar 0) (dC (.int 2))))) daNil)) (dC (.int 2305843009213693973)))) (sSeq (sSet 3 (d2 kPlus (d2 kTimes (d2 kMod (dL kIntOf (daCons (d2 kTimes (dVar 2) (dVar 2)) daNil)) (dC (.int 2305843009213693951))) (dVar 2)) (d2 kTimes (dC (.int 6947)) (d2 kIx (dVar 0) (dC (.int 2)))))) (sRet (d2 kMod (dL kIntOf (daCons (d2 kDivW (d2 kMod (dL kIntOf (daCons (dVar 3) daNil)) (dC (.int 2305843009213693867))) (dC (.int 16384))) daNil)) (dVar 1)))))))
theorem sc_law_ladle : FnScope ["_law_kettle_here", "_law_total", "_law_one", "_law_two", "_law_found"] ["_law_kettle_here", "_law_total"] (defScope s_law_ladle) := ⟨rfl, rfl, rfl, by decide +kernel, rfl, by decide +kernel, by decide +kernel⟩
theorem ok_law_ladle {f : Addr} {fd : FuncData} (F : Fun K "_law_ladle" "_law_ladle" s_law_ladle f fd) (T : Txt K mg) : FnOk P w K mg base (L2.CX P w) 1 f fd ["_law_kettle_here", "_law_total"] (spD ⟨K, ct⟩ 2 m_law_ladle) :=
  fun_okD F sc_law_ladle rfl fun cdv A outer s H E hr => by
    have nd := sc_law_ladle.nd
    have tk : Takes (cxOf (L2.CX P w) P w K mg base ["_law_kettle_here", "_law_total", "_law_one", "_law_two", "_law_found"] "_law_ladle" (defScope s_law_ladle) f cdv A outer s H E) (wishOf fun _ => E) := takes_of rfl rfl rfl rfl
    exact (ss_cons (s_if (dt_cmp op_gt does_gt (de_ix (by rfl) (de_var (pv 0)) de_int (fun _ _ => rfl)) de_int (nomark _)) (ss_cons (s_set (fun te ht => ps_set (i := 4) nd (by rfl) (by first | exact Or.inl rfl | exact Or.inr rfl) ht) (de_op op_mod does_mod (de_callB (fun t ht => pe_callTy call_int1 (by rfl) T.b_int PyProof.Rows.boot_int ht) does_intOf (da_cons (de_ix (by rfl) (de_var (pv 0)) de_int (fun _ _ => rfl)) da_nil (fun hg hf => pa_cons hf hg))) (de_var (pv 1)))) (ss_cons (s_setIx (fun to ti te ho hi he => ps_asg he (pg_sub ho hi set_list)) (de_var (pv 0)) de_int (de_op op_fdivW does_divW (de_ix (by rfl) (de_var (pv 0)) de_int (fun _ _ => rfl)) (de_var (pv 1)))) (ss_one (s_ret (de_var (pv 4)))))) ss_nil) (ss_cons (s_setIx (fun to ti te ho hi he => ps_asg he (pg_sub ho hi set_list)) (de_var (pv 0)) de_int (de_op op_plus does_plus (de_ix (by rfl) (de_var (pv 0)) de_int (fun _ _ => rfl)) de_int)) (ss_cons (s_set (fun te ht => ps_set (i := 2) nd (by rfl) (by first | exact Or.inl rfl | exact Or.inr rfl) ht) (de_op op_mod does_mod (de_callB (fun t ht => pe_callTy call_int1 (by rfl) T.b_int PyProof.Rows.boot_int ht) does_intOf (da_cons (de_op op_plus does_plus (de_ix (by rfl) (de_var (pv 0)) de_int (fun _ _ => rfl)) (de_op op_times does_times de_int (de_ix (by rfl) (de_var (pv 0)) de_int (fun _ _ => rfl)))) da_nil (fun hg hf => pa_cons hf hg))) de_int)) (ss_cons (s_set (fun te ht => ps_set (i := 3) nd (by rfl) (by first | exact Or.inl rfl | exact Or.inr rfl) ht) (de_op op_plus does_plus (de_op op_times does_times (de_op op_mod does_mod (de_callB (fun t ht => pe_callTy call_int1 (by rfl) T.b_int PyProof.Rows.boot_int ht) does_intOf (da_cons (de_op op_times does_times (de_var (pv 2)) (de_var (pv 2))) da_nil (fun hg hf => pa_cons hf hg))) de_int) (de_var (pv 2))) (de_op op_times does_times de_int (de_ix (by rfl) (de_var (pv 0)) de_int (fun _ _ => rfl))))) (ss_one (s_ret (de_op op_mod does_mod (de_callB (fun t ht => pe_callTy call_int1 (by rfl) T.b_int PyProof.Rows.boot_int ht) does_intOf (da_cons (de_op op_fdivW does_divW (de_op op_mod does_mod (de_callB (fun t ht => pe_callTy call_int1 (by rfl) T.b_int PyProof.Rows.boot_int ht) does_intOf (da_cons (de_var (pv 3)) da_nil (fun hg hf => pa_cons hf hg))) de_int) de_int) da_nil (fun hg hf => pa_cons hf hg))) (de_var (pv 1)))))))))
/-! _law_pick -/
abbrev s_law_pick : Stmt := top 43
def m_law_pick : List D → LH → R D := fnD 2 (sRet (d2 kIx (dVar 1) (dCall 2 m_law_ladle (daCons (dVar 0) (daCons (dL kLen (daCons (dVar 1) daNil)) daNil)))))
theorem sc_law_pick : FnScope ["_law_kettle_here", "_law_items"] ["_law_kettle_here", "_law_items"] (defScope s_law_pick) := ⟨rfl, rfl, rfl, by decide +kernel, rfl, by decide +kernel, by decide +kernel⟩
theorem ok_law_pick {f : Addr} {fd : FuncData} (F : Fun K "_law_pick" "_law_pick" s_law_pick f fd) (T : Txt K mg) (c_law_ladle : DefAt P w K mg base ct "_law_ladle" 1 2 ["_law_kettle_here", "_law_total"] m_law_ladle) : FnOk P w K mg base (L2.CX P w) 2 f fd ["_law_kettle_here", "_law_items"] (spD ⟨K, ct⟩ 2 m_law_pick) :=
  fun_okD F sc_law_pick rfl fun cdv A outer s H E hr => by
    have nd := sc_law_pick.nd
    have tk : Takes (cxOf (L2.CX P w) P w K mg base ["_law_kettle_here", "_law_items"] "_law_pick" (defScope s_law_pick) f cdv A outer s H E) (wishOf fun _ => E) := takes_of rfl rfl rfl rfl
    exact (ss_one (s_ret (de_ix (by rfl) (de_var (pv 1)) (de_call (fun t ht => pe_callS c_law_ladle.G (hr.mono (by decide)) (by rfl) c_law_ladle.gm c_law_ladle.kp c_law_ladle.b (fun σ => passAt tk σ) ht) (da_cons (de_var (pv 0)) (da_cons (de_callB (fun t ht => pe_callB call_len (by rfl) T.b_len PySem.boot_len ht) does_len (da_cons (de_var (pv 1)) da_nil (fun hg hf => pa_cons hf hg))) da_nil (fun hg hf => pa_cons hf hg)) (fun hg hf => pa_cons hf hg))) (fun _ _ => rfl))))
/-! _law_undone -/
abbrev s_law_undone : Stmt := top 44
def m_law_undone : List D → LH → R D := fnD 3 (sRet (d2 kIx (dLc (iRange2 (daCons (dC (.int 1)) (daCons (dVar 0) daNil))) (gSet 2) [2] (dB (d2 kEq (d2 kMod (d2 kTimes (dVar 2) (dVar 1)) (dVar 0)) (dC (.int 1)))) (dVar 2)) (dC (.int 0))))
theorem sc_law_undone : FnScope ["_law_prime", "_law_residue", "_law_one"] ["_law_prime", "_law_residue"] (defScope s_law_undone) := ⟨rfl, rfl, rfl, by decide +kernel, rfl, by decide +kernel, by decide +kernel⟩
theorem ok_law_undone {f : Addr} {fd : FuncData} (F : Fun K "_law_undone" "_law_undone" s_law_undone f fd) (T : Txt K mg) : FnOk P w K mg base (L2.CX P w) 1 f fd ["_law_prime", "_law_residue"] (spD ⟨K, ct⟩ 2 m_law_undone) :=
  fun_okD F sc_law_undone rfl fun cdv A outer s H E hr => by
    have nd := sc_law_undone.nd
    have tk : Takes (cxOf (L2.CX P w) P w K mg base ["_law_prime", "_law_residue", "_law_one"] "_law_undone" (defScope s_law_undone) f cdv A outer s H E) (wishOf fun _ => E) := takes_of rfl rfl rfl rfl
    exact (ss_one (s_ret (de_ix (by rfl) (de_lc (pe_lc (by rfl) nd (di_range2 (fun t ht => pi_range2 (by rfl) T.b_range ht) (da_cons de_int (da_cons (de_var (pv 0)) da_nil (fun hg hf => pa_cons hf hg)) (fun hg hf => pa_cons hf hg))) (blkOk_by (own := [("_law_one", 2)]) (by first | decide +kernel | kernel_rfl)) (fun _ _ _ _ _ => (pg_name (i := 2) nd (by rfl) (by first | exact Or.inl rfl | exact Or.inr rfl))) (fun _ _ _ _ _ => (dts_one (dt_cmp (op_eqD (hu64 hr)) does_eq (de_op op_mod does_mod (de_op op_times does_times (de_var (pv 2)) (de_var (pv 1))) (de_var (pv 0))) de_int (nomark _)))) (fun _ _ _ _ _ => (de_var (pv 2)))) (doesv_gName (by decide))) de_int (fun _ _ => rfl))))
/-! _law_plus -/
abbrev s_law_plus : Stmt := top 45
def m_law_plus : List D → LH → R D := fnD 6 (sRet (dL kTupleOf (daCons (dLc (iZip2 (daCons (dVar 1) (daCons (dVar 2) daNil))) (gSet2 4 5) [4, 5] dYes (d2 kMod (d2 kPlus (dVar 4) (d2 kTimes (dVar 3) (dVar 5))) (dVar 0))) daNil)))
theorem sc_law_plus : FnScope ["_law_prime", "_law_row", "_law_other", "_law_factor", "_law_one", "_law_two"] ["_law_prime", "_law_row", "_law_other", "_law_factor"] (defScope s_law_plus) := ⟨rfl, rfl, rfl, by decide +kernel, rfl, by decide +kernel, by decide +kernel⟩
theorem ok_law_plus {f : Addr} {fd : FuncData} (F : Fun K "_law_plus" "_law_plus" s_law_plus f fd) (T : Txt K mg) : FnOk P w K mg base (L2.CX P w) 1 f fd ["_law_prime", "_law_row", "_law_other", "_law_factor"] (spD ⟨K, ct⟩ 4 m_law_plus) :=
  fun_okD F sc_law_plus rfl fun cdv A outer s H E hr => by
    have nd := sc_law_plus.nd
    have tk : Takes (cxOf (L2.CX P w) P w K mg base ["_law_prime", "_law_row", "_law_other", "_law_factor", "_law_one", "_law_two"] "_law_plus" (defScope s_law_plus) f cdv A outer s H E) (wishOf fun _ => E) := takes_of rfl rfl rfl rfl
    exact (ss_one (s_ret (de_callB (fun t ht => pe_callTy call_tupF (by rfl) T.b_tuple PyProof.Rows.boot_tuple ht) does_tupleOf (da_cons (de_lc (pe_lc (by rfl) nd (di_zip (by rfl) (fun t ht => pi_zipB (by rfl) T.b_zip ht) (da_cons (de_var (pv 1)) (da_cons (de_var (pv 2)) da_nil (fun hg hf => pa_cons hf hg)) (fun hg hf => pa_cons hf hg))) (blkOk_by (own := [("_law_one", 4), ("_law_two", 5)]) (by first | decide +kernel | kernel_rfl)) (fun _ _ _ _ _ => (pg_tup (by rfl) (pgs_cons (pg_name (i := 4) nd (by rfl) (by first | exact Or.inl rfl | exact Or.inr rfl)) (pgs_cons (pg_name (i := 5) nd (by rfl) (by first | exact Or.inl rfl | exact Or.inr rfl)) pgs_nil)))) (fun _ _ _ _ _ => dts_nil) (fun _ _ _ _ _ => (de_op op_mod does_mod (de_op op_plus does_plus (de_var (pv 4)) (de_op op_times does_times (de_var (pv 3)) (de_var (pv 5)))) (de_var (pv 0))))) (doesv_gTup2 (by rfl) (by decide) (by decide))) da_nil (fun hg hf => pa_cons hf hg)))))
/-! _law_base -/
abbrev s_law_base : Stmt := top 46
def m_law_base : List D → LH → R D := fnD 11 (sSeq (sPar 4 5 (daCons (dLcV 1 (gSet 9) [9] (dB (d2 kGt (dL kMax (daCons (dVar 9) daNil)) (dC (.int 0)))) (dVar 9)) (daCons (dL kLst daNil) daNil))) (sSeq (sFor (iRange1 (daCons (dVar 2) daNil)) (gSet 3) (sSeq (sSet 6 (dLc (iVal (dVar 4)) (gSet 9) [9] (dB (d2 kGt (d2 kIx (dVar 9) (dVar 3)) (dC (.int 0)))) (dVar 9))) (sIf (dB (d2 kNe (dVar 6) (dL kLst daNil))) (sSeq (sSet 7 (dCall 2 m_law_undone (daCons (dVar 0) (daCons (d2 kIx (d2 kIx (dVar 6) (dC (.int 0))) (dVar 3)) daNil)))) (sSeq (sSet 8 (dL kTupleOf (daCons (dLc (iVal (d2 kIx (dVar 6) (dC (.int 0)))) (gSet 10) [10] dYes (d2 kMod (d2 kTimes (dVar 7) (dVar 10)) (dVar 0))) daNil))) (sSeq (sSet 4 (dLc (iVal (dVar 4)) (gSet 9) [9] dYes (dCall 4 m_law_plus (daCons (dVar 0) (daCons (dVar 9) (daCons (dVar 8) (daCons (d2 kSub (dC (.int 0)) (d2 kIx (dVar 9) (dVar 3))) daNil))))))) (sSeq (sSet 4 (dLc (iVal (dVar 4)) (gSet 9) [9] (dB (d2 kGt (dL kMax (daCons (dVar 9) daNil)) (dC (.int 0)))) (dVar 9))) (sSet 5 (d2 kPlus (dLc (iVal (dVar 5)) (gSet 9) [9] dYes (dCall 4 m_law_plus (daCons (dVar 0) (daCons (dVar 9) (daCons (dVar 8) (daCons (d2 kSub (dC (.int 0)) (d2 kIx (dVar 9) (dVar 3))) daNil)))))) (dL kLst (daCons (dVar 8) daNil)))))))) sNext))) (sRet (dL kTupleOf (daCons (dVar 5) daNil)))))
theorem sc_law_base : FnScope ["_law_prime", "_law_rows", "_law_width", "_law_place", "_law_left", "_law_found", "_law_some", "_law_factor", "_law_head", "_law_row", "_law_one"] ["_law_prime", "_law_rows", "_law_width"] (defScope s_law_base) := ⟨rfl, rfl, rfl, by decide +kernel, rfl, by decide +kernel, by decide +kernel⟩
theorem ok_law_base {f : Addr} {fd : FuncData} (F : Fun K "_law_base" "_law_base" s_law_base f fd) (T : Txt K mg) (c_law_plus : DefAt P w K mg base ct "_law_plus" 1 4 ["_law_prime", "_law_row", "_law_other", "_law_factor"] m_law_plus) (c_law_undone : DefAt P w K mg base ct "_law_undone" 1 2 ["_law_prime", "_law_residue"] m_law_undone) : FnOk P w K mg base (L2.CX P w) 2 f fd ["_law_prime", "_law_rows", "_law_width"] (spD ⟨K, ct⟩ 3 m_law_base) :=
  fun_okD F sc_law_base rfl fun cdv A outer s H E hr => by
    have nd := sc_law_base.nd
    have tk : Takes (cxOf (L2.CX P w) P w K mg base ["_law_prime", "_law_rows", "_law_width", "_law_place", "_law_left", "_law_found", "_law_some", "_law_factor", "_law_head", "_law_row", "_law_one"] "_law_base" (defScope s_law_base) f cdv A outer s H E) (wishOf fun _ => E) := takes_of rfl rfl rfl rfl
    exact (ss_cons (s_par (fun t ht => ps_par (by rfl) nd (by rfl) (by rfl) (by decide) (by rfl) (by rfl) ht (by rfl)) (da_cons (de_lcV (by rfl) (by first | exact pure_yes | exact pure_dB (pure_d2 kgt_pure (pure_max pure_var kmax_pure) pure_c)) (by exact pure_var) (pe_lc (by rfl) nd (pi_seq (pv 1)) (blkOk_by (own := [("_law_row", 9)]) (by first | decide +kernel | kernel_rfl)) (fun _ _ _ _ _ => (pg_name (i := 9) nd (by rfl) (by first | exact Or.inl rfl | exact Or.inr rfl))) (fun _ _ _ _ _ => (dts_one (dt_cmp op_gt does_gt (de_callB (fun t ht => pe_callB (call_or (cr_max (by rfl)) (cr_maxT (by rfl))) (by rfl) T.b_max PyProof.Rows.boot_max ht) does_max (da_cons (de_var (pv 9)) da_nil (fun hg hf => pa_cons hf hg))) de_int (nomark _)))) (fun _ _ _ _ _ => (de_var (pv 9)))) (pe_lc (by rfl) nd (di_seq (by rfl) (de_var (pv 1))) (blkOk_by (own := [("_law_row", 9)]) (by first | decide +kernel | kernel_rfl)) (fun _ _ _ _ _ => (pg_name (i := 9) nd (by rfl) (by first | exact Or.inl rfl | exact Or.inr rfl))) (fun _ _ _ _ _ => (dts_one (dt_cmp op_gt does_gt (de_callB (fun t ht => pe_callB (call_or (cr_max (by rfl)) (cr_maxT (by rfl))) (by rfl) T.b_max PyProof.Rows.boot_max ht) does_max (da_cons (de_var (pv 9)) da_nil (fun hg hf => pa_cons hf hg))) de_int (nomark _)))) (fun _ _ _ _ _ => (de_var (pv 9)))) (doesv_gName (by decide))) (da_cons (de_lst da_nil) da_nil (fun hg hf => pa_cons hf hg)) (fun hg hf => pa_cons hf hg))) (ss_cons (s_for (fun wi tb hi hb => ps_for (passes_of (by rfl)) (by rfl) hi (pg_name (i := 3) nd (by rfl) (by first | exact Or.inl rfl | exact Or.inr rfl)) hb) (di_range1 (fun t ht => pi_range1 (by rfl) T.b_range ht) (da_cons (de_var (pv 2)) da_nil (fun hg hf => pa_cons hf hg))) does_gName (ss_cons (s_setLc (ps_setLc (i := 6) (by rfl) nd (by rfl) (by rfl) (sw_true (by rfl) (by rfl) (by rfl) (by decide +kernel)) (di_seq (by rfl) (de_var (pv 4))) (blkOk_by (own := [("_law_row", 9)]) (by first | decide +kernel | kernel_rfl)) (fun _ _ _ _ _ => (pg_name (i := 9) nd (by rfl) (by first | exact Or.inl rfl | exact Or.inr rfl))) (fun _ _ _ _ _ => (dts_one (dt_cmp op_gt does_gt (de_ix (by rfl) (de_var (pv 9)) (de_var (pv 3)) (fun _ _ => rfl)) de_int (nomark _)))) (fun _ _ _ _ _ => (de_var (pv 9)))) (doesv_gName (by decide))) (ss_one (s_if (dt_cmp (op_neD (hu64 hr)) does_ne (de_var (pv 6)) (de_lst da_nil) (nomark _)) (ss_cons (s_set (fun te ht => ps_set (i := 7) nd (by rfl) (by first | exact Or.inl rfl | exact Or.inr rfl) ht) (de_call (fun t ht => pe_callS c_law_undone.G (hr.mono (by decide)) (by rfl) c_law_undone.gm c_law_undone.kp c_law_undone.b (fun σ => passAt tk σ) ht) (da_cons (de_var (pv 0)) (da_cons (de_ix (by rfl) (de_ix (by rfl) (de_var (pv 6)) de_int (fun _ _ => rfl)) (de_var (pv 3)) (fun _ _ => rfl)) da_nil (fun hg hf => pa_cons hf hg)) (fun hg hf => pa_cons hf hg)))) (ss_cons (s_set (fun te ht => ps_set (i := 8) nd (by rfl) (by first | exact Or.inl rfl | exact Or.inr rfl) ht) (de_callB (fun t ht => pe_callTy call_tupF (by rfl) T.b_tuple PyProof.Rows.boot_tuple ht) does_tupleOf (da_cons (de_lc (pe_lc (by rfl) nd (di_seq (by rfl) (de_ix (by rfl) (de_var (pv 6)) de_int (fun _ _ => rfl))) (blkOk_by (own := [("_law_one", 10)]) (by first | decide +kernel | kernel_rfl)) (fun _ _ _ _ _ => (pg_name (i := 10) nd (by rfl) (by first | exact Or.inl rfl | exact Or.inr rfl))) (fun _ _ _ _ _ => dts_nil) (fun _ _ _ _ _ => (de_op op_mod does_mod (de_op op_times does_times (de_var (pv 7)) (de_var (pv 10))) (de_var (pv 0))))) (doesv_gName (by decide))) da_nil (fun hg hf => pa_cons hf hg)))) (ss_cons (s_setLc (ps_setLc (i := 4) (by rfl) nd (by rfl) (by rfl) (sw_true (by rfl) (by rfl) (by rfl) (by decide +kernel)) (di_seq (by rfl) (de_var (pv 4))) (blkOk_by (own := [("_law_row", 9)]) (by first | decide +kernel | kernel_rfl)) (fun _ _ _ _ _ => (pg_name (i := 9) nd (by rfl) (by first | exact Or.inl rfl | exact Or.inr rfl))) (fun _ _ _ _ _ => dts_nil) (fun _ _ _ _ _ => (de_call (fun t ht => pe_callS c_law_plus.G (hr.mono (by decide)) (by rfl) c_law_plus.gm c_law_plus.kp c_law_plus.b (fun σ => passAt takes0 σ) ht) (da_cons (de_var (pv 0)) (da_cons (de_var (pv 9)) (da_cons (de_var (pv 8)) (da_cons (de_op op_sub does_sub de_int (de_ix (by rfl) (de_var (pv 9)) (de_var (pv 3)) (fun _ _ => rfl))) da_nil (fun hg hf => pa_cons hf hg)) (fun hg hf => pa_cons hf hg)) (fun hg hf => pa_cons hf hg)) (fun hg hf => pa_cons hf hg))))) (doesv_gName (by decide))) (ss_cons (s_setLc (ps_setLc (i := 4) (by rfl) nd (by rfl) (by rfl) (sw_true (by rfl) (by rfl) (by rfl) (by decide +kernel)) (di_seq (by rfl) (de_var (pv 4))) (blkOk_by (own := [("_law_row", 9)]) (by first | decide +kernel | kernel_rfl)) (fun _ _ _ _ _ => (pg_name (i := 9) nd (by rfl) (by first | exact Or.inl rfl | exact Or.inr rfl))) (fun _ _ _ _ _ => (dts_one (dt_cmp op_gt does_gt (de_callB (fun t ht => pe_callB (call_or (cr_max (by rfl)) (cr_maxT (by rfl))) (by rfl) T.b_max PyProof.Rows.boot_max ht) does_max (da_cons (de_var (pv 9)) da_nil (fun hg hf => pa_cons hf hg))) de_int (nomark _)))) (fun _ _ _ _ _ => (de_var (pv 9)))) (doesv_gName (by decide))) (ss_one (s_set (fun te ht => ps_set (i := 5) nd (by rfl) (by first | exact Or.inl rfl | exact Or.inr rfl) ht) (de_op op_plus does_plus (de_lc (pe_lc (by rfl) nd (di_seq (by rfl) (de_var (pv 5))) (blkOk_by (own := [("_law_row", 9)]) (by first | decide +kernel | kernel_rfl)) (fun _ _ _ _ _ => (pg_name (i := 9) nd (by rfl) (by first | exact Or.inl rfl | exact Or.inr rfl))) (fun _ _ _ _ _ => dts_nil) (fun _ _ _ _ _ => (de_call (fun t ht => pe_callS c_law_plus.G (hr.mono (by decide)) (by rfl) c_law_plus.gm c_law_plus.kp c_law_plus.b (fun σ => passAt takes0 σ) ht) (da_cons (de_var (pv 0)) (da_cons (de_var (pv 9)) (da_cons (de_var (pv 8)) (da_cons (de_op op_sub does_sub de_int (de_ix (by rfl) (de_var (pv 9)) (de_var (pv 3)) (fun _ _ => rfl))) da_nil (fun hg hf => pa_cons hf hg)) (fun hg hf => pa_cons hf hg)) (fun hg hf => pa_cons hf hg)) (fun hg hf => pa_cons hf hg))))) (doesv_gName (by decide))) (de_lst (da_cons (de_var (pv 8)) da_nil (fun hg hf => pa_cons hf hg)))))))))) ss_nil)))) (ss_one (s_ret (de_callB (fun t ht => pe_callTy call_tupF (by rfl) T.b_tuple PyProof.Rows.boot_tuple ht) does_tupleOf (da_cons (de_var (pv 5)) da_nil (fun hg hf => pa_cons hf hg)))))))
/-! _law_has -/
abbrev s_law_has : Stmt := top 47
def m_law_has : List D → LH → R D := fnD 4 (sSeq (sFor (iVal (dVar 1)) (gSet 3) (sSet 2 (dCall 4 m_law_plus (daCons (dVar 0) (daCons (dVar 2) (daCons (dVar 3) (daCons (d2 kSub (dC (.int 0)) (d2 kIx (dVar 2) (dIndexT (dVar 3) (dC (.int 1))))) daNil))))))) (sRet (d2 kEq (dL kMax (daCons (dVar 2) daNil)) (dC (.int 0)))))
theorem sc_law_has : FnScope ["_law_prime", "_law_space", "_law_row", "_law_line"] ["_law_prime", "_law_space", "_law_row"] (defScope s_law_has) := ⟨rfl, rfl, rfl, by decide +kernel, rfl, by decide +kernel, by decide +kernel⟩
theorem ok_law_has {f : Addr} {fd : FuncData} (F : Fun K "_law_has" "_law_has" s_law_has f fd) (T : Txt K mg) (c_law_plus : DefAt P w K mg base ct "_law_plus" 1 4 ["_law_prime", "_law_row", "_law_other", "_law_factor"] m_law_plus) : FnOk P w K mg base (L2.CX P w) 2 f fd ["_law_prime", "_law_space", "_law_row"] (spD ⟨K, ct⟩ 3 m_law_has) :=
  fun_okD F sc_law_has rfl fun cdv A outer s H E hr => by
    have nd := sc_law_has.nd
    have tk : Takes (cxOf (L2.CX P w) P w K mg base ["_law_prime", "_law_space", "_law_row", "_law_line"] "_law_has" (defScope s_law_has) f cdv A outer s H E) (wishOf fun _ => E) := takes_of rfl rfl rfl rfl
    exact (ss_cons (s_for (fun wi tb hi hb => ps_for (passes_of (by rfl)) (by rfl) hi (pg_name (i := 3) nd (by rfl) (by first | exact Or.inl rfl | exact Or.inr rfl)) hb) (di_seq (by rfl) (de_var (pv 1))) does_gName (ss_one (s_set (fun te ht => ps_set (i := 2) nd (by rfl) (by first | exact Or.inl rfl | exact Or.inr rfl) ht) (de_call (fun t ht => pe_callS c_law_plus.G (hr.mono (by decide)) (by rfl) c_law_plus.gm c_law_plus.kp c_law_plus.b (fun σ => passAt tk σ) ht) (da_cons (de_var (pv 0)) (da_cons (de_var (pv 2)) (da_cons (de_var (pv 3)) (da_cons (de_op op_sub does_sub de_int (de_ix (by rfl) (de_var (pv 2)) (de_indexT (by rfl) (fun to t ho ht => pe_bmT PySem.F.plainAttrs_tuple PySem.F.slot_tuple_index PySem.F.type_tuple_index mt_tup_indexI ho ht) (de_var (pv 3)) (da_cons de_int da_nil (fun hg hf => pa_cons hf hg))) (fun _ _ => rfl))) da_nil (fun hg hf => pa_cons hf hg)) (fun hg hf => pa_cons hf hg)) (fun hg hf => pa_cons hf hg)) (fun hg hf => pa_cons hf hg)))))) (ss_one (s_ret (de_cmp (op_eqD (hu64 hr)) does_eq (de_callB (fun t ht => pe_callB (call_or (cr_max (by rfl)) (cr_maxT (by rfl))) (by rfl) T.b_max PyProof.Rows.boot_max ht) does_max (da_cons (de_var (pv 2)) da_nil (fun hg hf => pa_cons hf hg))) de_int (nomark _)))))
/-! _law_lines -/
abbrev s_law_lines : Stmt := top 48
def m_law_lines : List D → LH → R D := fnD 10 (sSeq (sParF0 5 6 (fun env L => (daNil env L).bind fun ds L1 => if fits ds.length then .ok ds L1 else .no) (d2 kEq (dCall 2 m_law_ladle (daCons (dVar 0) (daCons (dC (.int 3)) daNil))) (dC (.int 0)))) (sSeq (sFor (iRange1 (daCons (dVar 2) daNil)) (gSet 4) (sSeq (sNew 7 (fun env L => (daNil env L).bind fun ds L1 => if fits ds.length then .ok ds L1 else .no)) (sSeq (sFor (iRange1 (daCons (dVar 3) daNil)) (gSet 8) (sSeq (sSet 9 (dCall 2 m_law_ladle (daCons (dVar 0) (daCons (dVar 1) daNil)))) (sExpr (dAppend (dVar 7) (dIf (dOr (dNot (dTruth (dVar 6))) (dB (d2 kEq (dCall 2 m_law_ladle (daCons (dVar 0) (daCons (dC (.int 3)) daNil))) (dC (.int 0))))) (dVar 9) (dC (.int 0))))))) (sExpr (dAppend (dVar 5) (dL kTupleOf (daCons (dVar 7) daNil))))))) (sRet (dVar 5))))
theorem sc_law_lines : FnScope ["_law_kettle_here", "_law_prime", "_law_many", "_law_width", "_law_turn", "_law_found", "_law_is_thin", "_law_row", "_law_place", "_law_entry"] ["_law_kettle_here", "_law_prime", "_law_many", "_law_width"] (defScope s_law_lines) := ⟨rfl, rfl, rfl, by decide +kernel, rfl, by decide +kernel, by decide +kernel⟩
theorem ok_law_lines {f : Addr} {fd : FuncData} (F : Fun K "_law_lines" "_law_lines" s_law_lines f fd) (T : Txt K mg) (c_law_ladle : DefAt P w K mg base ct "_law_ladle" 1 2 ["_law_kettle_here", "_law_total"] m_law_ladle) : FnOk P w K mg base (L2.CX P w) 2 f fd ["_law_kettle_here", "_law_prime", "_law_many", "_law_width"] (spD ⟨K, ct⟩ 4 m_law_lines) :=
  fun_okD F sc_law_lines rfl fun cdv A outer s H E hr => by
    have nd := sc_law_lines.nd
    have tk : Takes (cxOf (L2.CX P w) P w K mg base ["_law_kettle_here", "_law_prime", "_law_many", "_law_width", "_law_turn", "_law_found", "_law_is_thin", "_law_row", "_law_place", "_law_entry"] "_law_lines" (defScope s_law_lines) f cdv A outer s H E) (wishOf fun _ => E) := takes_of rfl rfl rfl rfl
    exact (ss_cons (s_parF0 (fun t ht => ps_par (by rfl) nd (by rfl) (by rfl) (by decide) (by rfl) (by rfl) ht (by rfl)) (fun ta tb ha hb => pa_cons ha (pa_cons hb pa_nil)) (df_lst da_nil) (de_cmp (op_eqD (hu64 hr)) does_eq (de_call (fun t ht => pe_callS c_law_ladle.G (hr.mono (by decide)) (by rfl) c_law_ladle.gm c_law_ladle.kp c_law_ladle.b (fun σ => passAt tk σ) ht) (da_cons (de_var (pv 0)) (da_cons de_int da_nil (fun hg hf => pa_cons hf hg)) (fun hg hf => pa_cons hf hg))) de_int (nomark _))) (ss_cons (s_for (fun wi tb hi hb => ps_for (passes_of (by rfl)) (by rfl) hi (pg_name (i := 4) nd (by rfl) (by first | exact Or.inl rfl | exact Or.inr rfl)) hb) (di_range1 (fun t ht => pi_range1 (by rfl) T.b_range ht) (da_cons (de_var (pv 2)) da_nil (fun hg hf => pa_cons hf hg))) does_gName (ss_cons (s_new (fun te ht => ps_set (i := 7) nd (by rfl) (by first | exact Or.inl rfl | exact Or.inr rfl) ht) (df_lst da_nil)) (ss_cons (s_for (fun wi tb hi hb => ps_for (passes_of (by rfl)) (by rfl) hi (pg_name (i := 8) nd (by rfl) (by first | exact Or.inl rfl | exact Or.inr rfl)) hb) (di_range1 (fun t ht => pi_range1 (by rfl) T.b_range ht) (da_cons (de_var (pv 3)) da_nil (fun hg hf => pa_cons hf hg))) does_gName (ss_cons (s_set (fun te ht => ps_set (i := 9) nd (by rfl) (by first | exact Or.inl rfl | exact Or.inr rfl) ht) (de_call (fun t ht => pe_callS c_law_ladle.G (hr.mono (by decide)) (by rfl) c_law_ladle.gm c_law_ladle.kp c_law_ladle.b (fun σ => passAt tk σ) ht) (da_cons (de_var (pv 0)) (da_cons (de_var (pv 1)) da_nil (fun hg hf => pa_cons hf hg)) (fun hg hf => pa_cons hf hg)))) (ss_one (s_expr (de_append (fun to t ho ht => pe_bm PySem.F.plainAttrs_list PySem.F.slot_list_append PySem.F.type_list_append mt_append ho ht) (de_var (pv 7)) (da_cons (de_ifExp (L2.PW.pt (dt_or (dt_not (dt_truth (by rfl) (de_var (pv 6)))) (pw_or1 (dt_cmp (op_eqD (hu64 hr)) does_eq (de_call (fun t ht => pe_callS c_law_ladle.G (hr.mono (by decide)) (by rfl) c_law_ladle.gm c_law_ladle.kp c_law_ladle.b (fun σ => passAt tk σ) ht) (da_cons (de_var (pv 0)) (da_cons de_int da_nil (fun hg hf => pa_cons hf hg)) (fun hg hf => pa_cons hf hg))) de_int (nomark _))))) (de_var (pv 9)) de_int) da_nil (fun hg hf => pa_cons hf hg))))))) (ss_one (s_expr (de_append (fun to t ho ht => pe_bm PySem.F.plainAttrs_list PySem.F.slot_list_append PySem.F.type_list_append mt_append ho ht) (de_var (pv 5)) (da_cons (de_callB (fun t ht => pe_callTy call_tupF (by rfl) T.b_tuple PyProof.Rows.boot_tuple ht) does_tupleOf (da_cons (de_var (pv 7)) da_nil (fun hg hf => pa_cons hf hg))) da_nil (fun hg hf => pa_cons hf hg)))))))) (ss_one (s_ret (de_var (pv 5))))))
/-! _law_null -/
abbrev s_law_null : Stmt := top 49
def m_law_null : List D → LH → R D := fnD 9 (sSeq (sSet 3 (dL kLen (daCons (dVar 1) daNil))) (sSeq (sSet 4 (dLc (iEnum1 (daCons (dVar 1) daNil)) (gSet2 6 7) [6, 7] dYes (d2 kPlus (dL kTupleOf (daCons (dVar 7) daNil)) (dL kTupleOf (daCons (dLc (iRange1 (daCons (dVar 3) daNil)) (gSet 8) [8] dYes (dL kIntOf (daCons (d2 kEq (dVar 6) (dVar 8)) daNil))) daNil))))) (sSeq (sSet 5 (dCall 3 m_law_base (daCons (dVar 0) (daCons (dVar 4) (daCons (d2 kPlus (dVar 2) (dVar 3)) daNil))))) (sRet (dCall 3 m_law_base (daCons (dVar 0) (daCons (dLc (iVal (dVar 5)) (gSet 7) [7] (dB (d2 kEq (dL kMax (daCons (dSlice (dVar 7) doNone (doSome (dVar 2))) daNil)) (dC (.int 0)))) (dSlice (dVar 7) (doSome (dVar 2)) doNone)) (daCons (dVar 3) daNil))))))))
theorem sc_law_null : FnScope ["_law_prime", "_law_table", "_law_width", "_law_many", "_law_beside", "_law_made", "_law_at", "_law_row", "_law_to"] ["_law_prime", "_law_table", "_law_width"] (defScope s_law_null) := ⟨rfl, rfl, rfl, by decide +kernel, rfl, by decide +kernel, by decide +kernel⟩
theorem ok_law_null {f : Addr} {fd : FuncData} (F : Fun K "_law_null" "_law_null" s_law_null f fd) (T : Txt K mg) (c_law_base : DefAt P w K mg base ct "_law_base" 2 3 ["_law_prime", "_law_rows", "_law_width"] m_law_base) : FnOk P w K mg base (L2.CX P w) 3 f fd ["_law_prime", "_law_table", "_law_width"] (spD ⟨K, ct⟩ 3 m_law_null) :=
  fun_okD F sc_law_null rfl fun cdv A outer s H E hr => by
    have nd := sc_law_null.nd
    have tk : Takes (cxOf (L2.CX P w) P w K mg base ["_law_prime", "_law_table", "_law_width", "_law_many", "_law_beside", "_law_made", "_law_at", "_law_row", "_law_to"] "_law_null" (defScope s_law_null) f cdv A outer s H E) (wishOf fun _ => E) := takes_of rfl rfl rfl rfl
    exact (ss_cons (s_set (fun te ht => ps_set (i := 3) nd (by rfl) (by first | exact Or.inl rfl | exact Or.inr rfl) ht) (de_callB (fun t ht => pe_callB call_len (by rfl) T.b_len PySem.boot_len ht) does_len (da_cons (de_var (pv 1)) da_nil (fun hg hf => pa_cons hf hg)))) (ss_cons (s_setLc (ps_setLc (i := 4) (by rfl) nd (by rfl) (by rfl) (sw_true (by rfl) (by rfl) (by rfl) (by decide +kernel)) (di_enum (by rfl) (fun t ht => pi_enumB (by rfl) T.b_enumerate ht) (da_cons (de_var (pv 1)) da_nil (fun hg hf => pa_cons hf hg))) (blkOk_by (own := [("_law_at", 6), ("_law_row", 7)]) (by first | decide +kernel | kernel_rfl)) (fun _ _ _ _ _ => (pg_tup (by rfl) (pgs_cons (pg_name (i := 6) nd (by rfl) (by first | exact Or.inl rfl | exact Or.inr rfl)) (pgs_cons (pg_name (i := 7) nd (by rfl) (by first | exact Or.inl rfl | exact Or.inr rfl)) pgs_nil)))) (fun _ _ _ _ _ => dts_nil) (fun _ _ _ _ _ => (de_op op_plus does_plus (de_callB (fun t ht => pe_callTy call_tupF (by rfl) T.b_tuple PyProof.Rows.boot_tuple ht) does_tupleOf (da_cons (de_var (pv 7)) da_nil (fun hg hf => pa_cons hf hg))) (de_callB (fun t ht => pe_callTy call_tupF (by rfl) T.b_tuple PyProof.Rows.boot_tuple ht) does_tupleOf (da_cons (de_lc (pe_lc (by rfl) nd (di_range1 (fun t ht => pi_range1 (by rfl) T.b_range ht) (da_cons (de_var (pv 3)) da_nil (fun hg hf => pa_cons hf hg))) (blkOk_by (own := [("_law_to", 8)]) (by first | decide +kernel | kernel_rfl)) (fun _ _ _ _ _ => (pg_name (i := 8) nd (by rfl) (by first | exact Or.inl rfl | exact Or.inr rfl))) (fun _ _ _ _ _ => dts_nil) (fun _ _ _ _ _ => (de_callB (fun t ht => pe_callTy call_int1 (by rfl) T.b_int PyProof.Rows.boot_int ht) does_intOf (da_cons (de_cmp (op_eqD (hu64 hr)) does_eq (de_var (pv 6)) (de_var (pv 8)) (nomark _)) da_nil (fun hg hf => pa_cons hf hg))))) (doesv_gName (by decide))) da_nil (fun hg hf => pa_cons hf hg)))))) (doesv_gTup2 (by rfl) (by decide) (by decide))) (ss_cons (s_set (fun te ht => ps_set (i := 5) nd (by rfl) (by first | exact Or.inl rfl | exact Or.inr rfl) ht) (de_call (fun t ht => pe_callS c_law_base.G (hr.mono (by decide)) (by rfl) c_law_base.gm c_law_base.kp c_law_base.b (fun σ => passAt tk σ) ht) (da_cons (de_var (pv 0)) (da_cons (de_var (pv 4)) (da_cons (de_op op_plus does_plus (de_var (pv 2)) (de_var (pv 3))) da_nil (fun hg hf => pa_cons hf hg)) (fun hg hf => pa_cons hf hg)) (fun hg hf => pa_cons hf hg)))) (ss_one (s_ret (de_call (fun t ht => pe_callS c_law_base.G (hr.mono (by decide)) (by rfl) c_law_base.gm c_law_base.kp c_law_base.b (fun σ => passAt tk σ) ht) (da_cons (de_var (pv 0)) (da_cons (de_lc (pe_lc (by rfl) nd (di_seq (by rfl) (de_var (pv 5))) (blkOk_by (own := [("_law_row", 7)]) (by first | decide +kernel | kernel_rfl)) (fun _ _ _ _ _ => (pg_name (i := 7) nd (by rfl) (by first | exact Or.inl rfl | exact Or.inr rfl))) (fun _ _ _ _ _ => (dts_one (dt_cmp (op_eqD (hu64 hr)) does_eq (de_callB (fun t ht => pe_callB (call_or (cr_max (by rfl)) (cr_maxT (by rfl))) (by rfl) T.b_max PyProof.Rows.boot_max ht) does_max (da_cons (de_slice (by rfl) (de_var (pv 7)) do_none (do_some (de_var (pv 2)))) da_nil (fun hg hf => pa_cons hf hg))) de_int (nomark _)))) (fun _ _ _ _ _ => (de_slice (by rfl) (de_var (pv 7)) (do_some (de_var (pv 2))) do_none))) (doesv_gName (by decide))) (da_cons (de_var (pv 3)) da_nil (fun hg hf => pa_cons hf hg)) (fun hg hf => pa_cons hf hg)) (fun hg hf => pa_cons hf hg))))))))
/-! _law_meet -/
abbrev s_law_meet : Stmt := top 50
def m_law_meet : List D → LH → R D := fnD 10 (sSeq (sNew 4 (fun env L => (daNil env L).bind fun ds L1 => if fits ds.length then .ok ds L1 else .no)) (sSeq (sSet 5 (d2 kPlus (dLc (iVal (dVar 1)) (gSet 7) [7] dYes (dL kTupleOf (daCons (dVar 7) daNil))) (dLc (iVal (dVar 2)) (gSet 7) [7] dYes (dL kTupleOf (daCons (dVar 7) daNil))))) (sSeq (sFor (iVal (dIf (dB (d2 kNe (dVar 5) (dL kLst daNil))) (dCall 3 m_law_null (daCons (dVar 0) (daCons (dVar 5) (daCons (dVar 3) daNil)))) (dL kLst daNil))) (gSet 6) (sSeq (sSet 7 (d2 kTimes (dL kTup (daCons (dC (.int 0)) daNil)) (dVar 3))) (sSeq (sFor (iZip2 (daCons (dVar 6) (daCons (dVar 1) daNil))) (gSet2 8 9) (sSet 7 (dCall 4 m_law_plus (daCons (dVar 0) (daCons (dVar 7) (daCons (dVar 9) (daCons (dVar 8) daNil))))))) (sExpr (dAppend (dVar 4) (dVar 7)))))) (sRet (dCall 3 m_law_base (daCons (dVar 0) (daCons (dVar 4) (daCons (dVar 3) daNil))))))))
theorem sc_law_meet : FnScope ["_law_prime", "_law_one", "_law_other", "_law_width", "_law_found", "_law_lines_here", "_law_factors", "_law_row", "_law_factor", "_law_line"] ["_law_prime", "_law_one", "_law_other", "_law_width"] (defScope s_law_meet) := ⟨rfl, rfl, rfl, by decide +kernel, rfl, by decide +kernel, by decide +kernel⟩
theorem ok_law_meet {f : Addr} {fd : FuncData} (F : Fun K "_law_meet" "_law_meet" s_law_meet f fd) (T : Txt K mg) (c_law_base : DefAt P w K mg base ct "_law_base" 2 3 ["_law_prime", "_law_rows", "_law_width"] m_law_base) (c_law_null : DefAt P w K mg base ct "_law_null" 3 3 ["_law_prime", "_law_table", "_law_width"] m_law_null) (c_law_plus : DefAt P w K mg base ct "_law_plus" 1 4 ["_law_prime", "_law_row", "_law_other", "_law_factor"] m_law_plus) : FnOk P w K mg base (L2.CX P w) 4 f fd ["_law_prime", "_law_one", "_law_other", "_law_width"] (spD ⟨K, ct⟩ 4 m_law_meet) :=
  fun_okD F sc_law_meet rfl fun cdv A outer s H E hr => by
    have nd := sc_law_meet.nd
    have tk : Takes (cxOf (L2.CX P w) P w K mg base ["_law_prime", "_law_one", "_law_other", "_law_width", "_law_found", "_law_lines_here", "_law_factors", "_law_row", "_law_factor", "_law_line"] "_law_meet" (defScope s_law_meet) f cdv A outer s H E) (wishOf fun _ => E) := takes_of rfl rfl rfl rfl
    exact (ss_cons (s_new (fun te ht => ps_set (i := 4) nd (by rfl) (by first | exact Or.inl rfl | exact Or.inr rfl) ht) (df_lst da_nil)) (ss_cons (s_set (fun te ht => ps_set (i := 5) nd (by rfl) (by first | exact Or.inl rfl | exact Or.inr rfl) ht) (de_op op_plus does_plus (de_lc (pe_lc (by rfl) nd (di_seq (by rfl) (de_var (pv 1))) (blkOk_by (own := [("_law_row", 7)]) (by first | decide +kernel | kernel_rfl)) (fun _ _ _ _ _ => (pg_name (i := 7) nd (by rfl) (by first | exact Or.inl rfl | exact Or.inr rfl))) (fun _ _ _ _ _ => dts_nil) (fun _ _ _ _ _ => (de_callB (fun t ht => pe_callTy call_tupF (by rfl) T.b_tuple PyProof.Rows.boot_tuple ht) does_tupleOf (da_cons (de_var (pv 7)) da_nil (fun hg hf => pa_cons hf hg))))) (doesv_gName (by decide))) (de_lc (pe_lc (by rfl) nd (di_seq (by rfl) (de_var (pv 2))) (blkOk_by (own := [("_law_row", 7)]) (by first | decide +kernel | kernel_rfl)) (fun _ _ _ _ _ => (pg_name (i := 7) nd (by rfl) (by first | exact Or.inl rfl | exact Or.inr rfl))) (fun _ _ _ _ _ => dts_nil) (fun _ _ _ _ _ => (de_callB (fun t ht => pe_callTy call_tupF (by rfl) T.b_tuple PyProof.Rows.boot_tuple ht) does_tupleOf (da_cons (de_var (pv 7)) da_nil (fun hg hf => pa_cons hf hg))))) (doesv_gName (by decide))))) (ss_cons (s_for (fun wi tb hi hb => ps_for (passes_of (by rfl)) (by rfl) hi (pg_name (i := 6) nd (by rfl) (by first | exact Or.inl rfl | exact Or.inr rfl)) hb) (di_seq (by rfl) (de_ifExp (dt_cmp (op_neD (hu64 hr)) does_ne (de_var (pv 5)) (de_lst da_nil) (nomark _)) (de_call (fun t ht => pe_callS c_law_null.G (hr.mono (by decide)) (by rfl) c_law_null.gm c_law_null.kp c_law_null.b (fun σ => passAt tk σ) ht) (da_cons (de_var (pv 0)) (da_cons (de_var (pv 5)) (da_cons (de_var (pv 3)) da_nil (fun hg hf => pa_cons hf hg)) (fun hg hf => pa_cons hf hg)) (fun hg hf => pa_cons hf hg))) (de_lst da_nil))) does_gName (ss_cons (s_set (fun te ht => ps_set (i := 7) nd (by rfl) (by first | exact Or.inl rfl | exact Or.inr rfl) ht) (de_op op_times does_times (de_tup (da_cons de_int da_nil (fun hg hf => pa_cons hf hg))) (de_var (pv 3)))) (ss_cons (s_for (fun wi tb hi hb => ps_for (passes_of (by rfl)) (by rfl) hi (pg_tup (by rfl) (pgs_cons (pg_name (i := 8) nd (by rfl) (by first | exact Or.inl rfl | exact Or.inr rfl)) (pgs_cons (pg_name (i := 9) nd (by rfl) (by first | exact Or.inl rfl | exact Or.inr rfl)) pgs_nil))) hb) (di_zip (by rfl) (fun t ht => pi_zipB (by rfl) T.b_zip ht) (da_cons (de_var (pv 6)) (da_cons (de_var (pv 1)) da_nil (fun hg hf => pa_cons hf hg)) (fun hg hf => pa_cons hf hg))) (does_gTup2 (by rfl)) (ss_one (s_set (fun te ht => ps_set (i := 7) nd (by rfl) (by first | exact Or.inl rfl | exact Or.inr rfl) ht) (de_call (fun t ht => pe_callS c_law_plus.G (hr.mono (by decide)) (by rfl) c_law_plus.gm c_law_plus.kp c_law_plus.b (fun σ => passAt tk σ) ht) (da_cons (de_var (pv 0)) (da_cons (de_var (pv 7)) (da_cons (de_var (pv 9)) (da_cons (de_var (pv 8)) da_nil (fun hg hf => pa_cons hf hg)) (fun hg hf => pa_cons hf hg)) (fun hg hf => pa_cons hf hg)) (fun hg hf => pa_cons hf hg)))))) (ss_one (s_expr (de_append (fun to t ho ht => pe_bm PySem.F.plainAttrs_list PySem.F.slot_list_append PySem.F.type_list_append mt_append ho ht) (de_var (pv 4)) (da_cons (de_var (pv 7)) da_nil (fun hg hf => pa_cons hf hg)))))))) (ss_one (s_ret (de_call (fun t ht => pe_callS c_law_base.G (hr.mono (by decide)) (by rfl) c_law_base.gm c_law_base.kp c_law_base.b (fun σ => passAt tk σ) ht) (da_cons (de_var (pv 0)) (da_cons (de_var (pv 4)) (da_cons (de_var (pv 3)) da_nil (fun hg hf => pa_cons hf hg)) (fun hg hf => pa_cons hf hg)) (fun hg hf => pa_cons hf hg))))))))
/-! _law_drawn -/
abbrev s_law_drawn : Stmt := top 51
def m_law_drawn : List D → LH → R D := fnD 3 (sRet (dCall 3 m_law_base (daCons (dVar 1) (daCons (dCall 4 m_law_lines (daCons (dVar 0) (daCons (dVar 1) (daCons (dCall 2 m_law_ladle (daCons (dVar 0) (daCons (d2 kPlus (dVar 2) (dC (.int 1))) daNil))) (daCons (dVar 2) daNil))))) (daCons (dVar 2) daNil)))))
theorem sc_law_drawn : FnScope ["_law_kettle_here", "_law_prime", "_law_width"] ["_law_kettle_here", "_law_prime", "_law_width"] (defScope s_law_drawn) := ⟨rfl, rfl, rfl, by decide +kernel, rfl, by decide +kernel, by decide +kernel⟩
theorem ok_law_drawn {f : Addr} {fd : FuncData} (F : Fun K "_law_drawn" "_law_drawn" s_law_drawn f fd) (T : Txt K mg) (c_law_base : DefAt P w K mg base ct "_law_base" 2 3 ["_law_prime", "_law_rows", "_law_width"] m_law_base) (c_law_ladle : DefAt P w K mg base ct "_law_ladle" 1 2 ["_law_kettle_here", "_law_total"] m_law_ladle) (c_law_lines : DefAt P w K mg base ct "_law_lines" 2 4 ["_law_kettle_here", "_law_prime", "_law_many", "_law_width"] m_law_lines) : FnOk P w K mg base (L2.CX P w) 3 f fd ["_law_kettle_here", "_law_prime", "_law_width"] (spD ⟨K, ct⟩ 3 m_law_drawn) :=
  fun_okD F sc_law_drawn rfl fun cdv A outer s H E hr => by
    have nd := sc_law_drawn.nd
    have tk : Takes (cxOf (L2.CX P w) P w K mg base ["_law_kettle_here", "_law_prime", "_law_width"] "_law_drawn" (defScope s_law_drawn) f cdv A outer s H E) (wishOf fun _ => E) := takes_of rfl rfl rfl rfl
    exact (ss_one (s_ret (de_call (fun t ht => pe_callS c_law_base.G (hr.mono (by decide)) (by rfl) c_law_base.gm c_law_base.kp c_law_base.b (fun σ => passAt tk σ) ht) (da_cons (de_var (pv 1)) (da_cons (de_call (fun t ht => pe_callS c_law_lines.G (hr.mono (by decide)) (by rfl) c_law_lines.gm c_law_lines.kp c_law_lines.b (fun σ => passAt tk σ) ht) (da_cons (de_var (pv 0)) (da_cons (de_var (pv 1)) (da_cons (de_call (fun t ht => pe_callS c_law_ladle.G (hr.mono (by decide)) (by rfl) c_law_ladle.gm c_law_ladle.kp c_law_ladle.b (fun σ => passAt tk σ) ht) (da_cons (de_var (pv 0)) (da_cons (de_op op_plus does_plus (de_var (pv 2)) de_int) da_nil (fun hg hf => pa_cons hf hg)) (fun hg hf => pa_cons hf hg))) (da_cons (de_var (pv 2)) da_nil (fun hg hf => pa_cons hf hg)) (fun hg hf => pa_cons hf hg)) (fun hg hf => pa_cons hf hg)) (fun hg hf => pa_cons hf hg))) (da_cons (de_var (pv 2)) da_nil (fun hg hf => pa_cons hf hg)) (fun hg hf => pa_cons hf hg)) (fun hg hf => pa_cons hf hg)))))
/-! _law_right -/
abbrev s_law_right : Stmt := top 52
def m_law_right : List D → LH → R D := fnD 12 (sSeq (sAsg (dL kTup (daCons (dCall 2 m_law_pick (daCons (dVar 0) (daCons (dL kLst (daCons (dC (.int 2)) (daCons (dC (.int 3)) (daCons (dC (.int 5)) (daCons (dC (.int 7)) daNil))))) daNil))) (daCons (d2 kPlus (dC (.int 1)) (dCall 2 m_law_ladle (daCons (dVar 0) (daCons (dC (.int 6)) daNil)))) daNil))) (gSet2 3 4)) (sSeq (sAsg (dLc (iVal (dL kTup (daCons (dVar 4) (daCons (dVar 4) (daCons (dVar 4) daNil))))) (gSet 11) [11] dYes (dCall 3 m_law_drawn (daCons (dVar 0) (daCons (dVar 3) (daCons (dVar 11) daNil))))) (gSet3L 5 6 7)) (sSeq (sIf (dB (d2 kEq (dCall 2 m_law_ladle (daCons (dVar 0) (daCons (dC (.int 3)) daNil))) (dC (.int 0)))) (sSet 6 (dCall 3 m_law_base (daCons (dVar 3) (daCons (d2 kPlus (dL kListOf (daCons (dVar 6) daNil)) (dL kListOf (daCons (dVar 5) daNil))) (daCons (dVar 4) daNil))))) sNext) (sSeq (sPar 8 9 (daCons (dCall 4 m_space_sum (daCons (dVar 3) (daCons (dVar 4) (daCons (dVar 5) (daCons (dVar 6) daNil))))) (daCons (dCall 4 m_space_meet (daCons (dVar 3) (daCons (dVar 4) (daCons (dVar 5) (daCons (dVar 6) daNil))))) daNil))) (sSeq (sIf (dOr (dB (d2 kNe (dVar 8) (dCall 3 m_law_base (daCons (dVar 3) (daCons (d2 kPlus (dL kListOf (daCons (dVar 5) daNil)) (dL kListOf (daCons (dVar 6) daNil))) (daCons (dVar 4) daNil)))))) (dB (d2 kNe (dVar 9) (dCall 4 m_law_meet (daCons (dVar 3) (daCons (dVar 5) (daCons (dVar 6) (daCons (dVar 4) daNil)))))))) (sRet (dC (.bl false))) sNext) (sSeq (sIf (dOr (dB (d2 kNe (d2 kPlus (dL kLen (daCons (dVar 8) daNil)) (dL kLen (daCons (dVar 9) daNil))) (d2 kPlus (dL kLen (daCons (dVar 5) daNil)) (dL kLen (daCons (dVar 6) daNil))))) (dB (d2 kNe (dCall 4 m_space_sum (daCons (dVar 3) (daCons (dVar 4) (daCons (dVar 6) (daCons (dVar 5) daNil))))) (dVar 8)))) (sRet (dC (.bl false))) sNext) (sSeq (sIf (dB (d2 kNe (dCall 4 m_space_meet (daCons (dVar 3) (daCons (dVar 4) (daCons (dVar 6) (daCons (dVar 5) daNil))))) (dVar 9))) (sRet (dC (.bl false))) sNext) (sSeq (sIf (dB (d2 kNe (dLc (iVal (dVar 9)) (gSet 1) [1] (dOr (dNot (dTruth (dCall 4 m_does_hold (daCons (dVar 3) (daCons (dVar 4) (daCons (dVar 5) (daCons (dVar 1) daNil))))))) (dNot (dTruth (dCall 4 m_does_hold (daCons (dVar 3) (daCons (dVar 4) (daCons (dVar 6) (daCons (dVar 1) daNil)))))))) (dVar 1)) (dL kLst daNil))) (sRet (dC (.bl false))) sNext) (sSeq (sFor (iVal (dCall 4 m_law_lines (daCons (dVar 0) (daCons (dVar 3) (daCons (dC (.int 4)) (daCons (dVar 4) daNil)))))) (gSet 1) (sSeq (sSet 10 (deAnd (dCall 3 m_law_has (daCons (dVar 3) (daCons (dVar 5) (daCons (dVar 1) daNil)))) (dCall 3 m_law_has (daCons (dVar 3) (daCons (dVar 6) (daCons (dVar 1) daNil)))))) (sIf (dB (d2 kNe (dCall 4 m_does_hold (daCons (dVar 3) (daCons (dVar 4) (daCons (dVar 9) (daCons (dVar 1) daNil))))) (dVar 10))) (sRet (dC (.bl false))) sNext))) (sSeq (sIf (dB (d2 kNe (dCall 4 m_space_sum (daCons (dVar 3) (daCons (dVar 4) (daCons (dVar 8) (daCons (dVar 7) daNil))))) (dCall 4 m_space_sum (daCons (dVar 3) (daCons (dVar 4) (daCons (dVar 5) (daCons (dCall 4 m_space_sum (daCons (dVar 3) (daCons (dVar 4) (daCons (dVar 6) (daCons (dVar 7) daNil))))) daNil))))))) (sRet (dC (.bl false))) sNext) (sSeq (sIf (dB (d2 kNe (dCall 4 m_space_meet (daCons (dVar 3) (daCons (dVar 4) (daCons (dVar 9) (daCons (dVar 7) daNil))))) (dCall 4 m_space_meet (daCons (dVar 3) (daCons (dVar 4) (daCons (dVar 5) (daCons (dCall 4 m_space_meet (daCons (dVar 3) (daCons (dVar 4) (daCons (dVar 6) (daCons (dVar 7) daNil))))) daNil))))))) (sRet (dC (.bl false))) sNext) (sSeq (sSet 2 (dCall 4 m_space_sum (daCons (dVar 3) (daCons (dVar 4) (daCons (dVar 9) (daCons (dCall 4 m_space_meet (daCons (dVar 3) (daCons (dVar 4) (daCons (dVar 5) (daCons (dVar 7) daNil))))) daNil)))))) (sSeq (sIf (dB (d2 kNe (dVar 2) (dCall 4 m_space_meet (daCons (dVar 3) (daCons (dVar 4) (daCons (dVar 5) (daCons (dCall 4 m_space_sum (daCons (dVar 3) (daCons (dVar 4) (daCons (dVar 6) (daCons (dCall 4 m_space_meet (daCons (dVar 3) (daCons (dVar 4) (daCons (dVar 5) (daCons (dVar 7) daNil))))) daNil))))) daNil))))))) (sRet (dC (.bl false))) sNext) (sSeq (sIf (dOr (dB (d2 kNe (dCall 4 m_space_sum (daCons (dVar 3) (daCons (dVar 4) (daCons (dVar 5) (daCons (dL kTup daNil) daNil))))) (dVar 5))) (dB (d2 kNe (dCall 4 m_space_meet (daCons (dVar 3) (daCons (dVar 4) (daCons (dVar 5) (daCons (dVar 5) daNil))))) (dVar 5)))) (sRet (dC (.bl false))) sNext) (sRet (d2 kEq (dCall 4 m_space_meet (daCons (dVar 3) (daCons (dVar 4) (daCons (dVar 5) (daCons (dL kTup daNil) daNil))))) (dL kTup daNil)))))))))))))))))
theorem sc_law_right : FnScope ["_law_kettle_here", "_law_row", "_law_inner", "_law_prime", "_law_width", "_law_one", "_law_other", "_law_third", "_law_both", "_law_shared", "_law_is_shared", "_law_wide"] ["_law_kettle_here"] (defScope s_law_right) := ⟨rfl, rfl, rfl, by decide +kernel, rfl, by decide +kernel, by decide +kernel⟩
theorem ok_law_right {f : Addr} {fd : FuncData} (F : Fun K "_law_right" "_law_right" s_law_right f fd) (T : Txt K mg) (c_law_base : DefAt P w K mg base ct "_law_base" 2 3 ["_law_prime", "_law_rows", "_law_width"] m_law_base) (c_law_drawn : DefAt P w K mg base ct "_law_drawn" 3 3 ["_law_kettle_here", "_law_prime", "_law_width"] m_law_drawn) (c_law_has : DefAt P w K mg base ct "_law_has" 2 3 ["_law_prime", "_law_space", "_law_row"] m_law_has) (c_law_ladle : DefAt P w K mg base ct "_law_ladle" 1 2 ["_law_kettle_here", "_law_total"] m_law_ladle) (c_law_lines : DefAt P w K mg base ct "_law_lines" 2 4 ["_law_kettle_here", "_law_prime", "_law_many", "_law_width"] m_law_lines) (c_law_meet : DefAt P w K mg base ct "_law_meet" 4 4 ["_law_prime", "_law_one", "_law_other", "_law_width"] m_law_meet) (c_law_pick : DefAt P w K mg base ct "_law_pick" 2 2 ["_law_kettle_here", "_law_items"] m_law_pick) (c_does_hold : DefAt P w K mg base ct "does_hold" 6 4 ["prime", "width", "space", "row"] m_does_hold) (c_space_meet : DefAt P w K mg base ct "space_meet" 7 4 ["prime", "width", "one", "other"] m_space_meet) (c_space_sum : DefAt P w K mg base ct "space_sum" 7 4 ["prime", "width", "one", "other"] m_space_sum) : FnOk P w K mg base (L2.CX P w) 8 f fd ["_law_kettle_here"] (spD ⟨K, ct⟩ 1 m_law_right) :=
  fun_okD F sc_law_right rfl fun cdv A outer s H E hr => by
    have nd := sc_law_right.nd
    have tk : Takes (cxOf (L2.CX P w) P w K mg base ["_law_kettle_here", "_law_row", "_law_inner", "_law_prime", "_law_width", "_law_one", "_law_other", "_law_third", "_law_both", "_law_shared", "_law_is_shared", "_law_wide"] "_law_right" (defScope s_law_right) f cdv A outer s H E) (wishOf fun _ => E) := takes_of rfl rfl rfl rfl
    exact (ss_cons (s_asg (fun te ht => ps_asg ht (pg_tup (by rfl) (pgs_cons (pg_name (i := 3) nd (by rfl) (by first | exact Or.inl rfl | exact Or.inr rfl)) (pgs_cons (pg_name (i := 4) nd (by rfl) (by first | exact Or.inl rfl | exact Or.inr rfl)) pgs_nil)))) (de_tup (da_cons (de_call (fun t ht => pe_callS c_law_pick.G (hr.mono (by decide)) (by rfl) c_law_pick.gm c_law_pick.kp c_law_pick.b (fun σ => passAt tk σ) ht) (da_cons (de_var (pv 0)) (da_cons (de_lst (da_cons de_int (da_cons de_int (da_cons de_int (da_cons de_int da_nil (fun hg hf => pa_cons hf hg)) (fun hg hf => pa_cons hf hg)) (fun hg hf => pa_cons hf hg)) (fun hg hf => pa_cons hf hg))) da_nil (fun hg hf => pa_cons hf hg)) (fun hg hf => pa_cons hf hg))) (da_cons (de_op op_plus does_plus de_int (de_call (fun t ht => pe_callS c_law_ladle.G (hr.mono (by decide)) (by rfl) c_law_ladle.gm c_law_ladle.kp c_law_ladle.b (fun σ => passAt tk σ) ht) (da_cons (de_var (pv 0)) (da_cons de_int da_nil (fun hg hf => pa_cons hf hg)) (fun hg hf => pa_cons hf hg)))) da_nil (fun hg hf => pa_cons hf hg)) (fun hg hf => pa_cons hf hg))) (does_gTup2 (by rfl))) (ss_cons (s_asg (fun te ht => ps_asg ht (pg_lst (by rfl) (pgs_cons (pg_name (i := 5) nd (by rfl) (by first | exact Or.inl rfl | exact Or.inr rfl)) (pgs_cons (pg_name (i := 6) nd (by rfl) (by first | exact Or.inl rfl | exact Or.inr rfl)) (pgs_cons (pg_name (i := 7) nd (by rfl) (by first | exact Or.inl rfl | exact Or.inr rfl)) pgs_nil))))) (de_lc (pe_lc (by rfl) nd (di_seq (by rfl) (de_tup (da_cons (de_var (pv 4)) (da_cons (de_var (pv 4)) (da_cons (de_var (pv 4)) da_nil (fun hg hf => pa_cons hf hg)) (fun hg hf => pa_cons hf hg)) (fun hg hf => pa_cons hf hg)))) (blkOk_by (own := [("_law_wide", 11)]) (by first | decide +kernel | kernel_rfl)) (fun _ _ _ _ _ => (pg_name (i := 11) nd (by rfl) (by first | exact Or.inl rfl | exact Or.inr rfl))) (fun _ _ _ _ _ => dts_nil) (fun _ _ _ _ _ => (de_call (fun t ht => pe_callS c_law_drawn.G (hr.mono (by decide)) (by rfl) c_law_drawn.gm c_law_drawn.kp c_law_drawn.b (fun σ => passAt takes0 σ) ht) (da_cons (de_var (pv 0)) (da_cons (de_var (pv 3)) (da_cons (de_var (pv 11)) da_nil (fun hg hf => pa_cons hf hg)) (fun hg hf => pa_cons hf hg)) (fun hg hf => pa_cons hf hg))))) (doesv_gName (by decide))) (does_gLst3 (by rfl))) (ss_cons (s_if (dt_cmp (op_eqD (hu64 hr)) does_eq (de_call (fun t ht => pe_callS c_law_ladle.G (hr.mono (by decide)) (by rfl) c_law_ladle.gm c_law_ladle.kp c_law_ladle.b (fun σ => passAt tk σ) ht) (da_cons (de_var (pv 0)) (da_cons de_int da_nil (fun hg hf => pa_cons hf hg)) (fun hg hf => pa_cons hf hg))) de_int (nomark _)) (ss_one (s_set (fun te ht => ps_set (i := 6) nd (by rfl) (by first | exact Or.inl rfl | exact Or.inr rfl) ht) (de_call (fun t ht => pe_callS c_law_base.G (hr.mono (by decide)) (by rfl) c_law_base.gm c_law_base.kp c_law_base.b (fun σ => passAt tk σ) ht) (da_cons (de_var (pv 3)) (da_cons (de_op op_plus does_plus (de_callB (fun t ht => pe_callTy call_list_of (by rfl) T.b_list PyProof.Rows.boot_list ht) does_listOf (da_cons (de_var (pv 6)) da_nil (fun hg hf => pa_cons hf hg))) (de_callB (fun t ht => pe_callTy call_list_of (by rfl) T.b_list PyProof.Rows.boot_list ht) does_listOf (da_cons (de_var (pv 5)) da_nil (fun hg hf => pa_cons hf hg)))) (da_cons (de_var (pv 4)) da_nil (fun hg hf => pa_cons hf hg)) (fun hg hf => pa_cons hf hg)) (fun hg hf => pa_cons hf hg))))) ss_nil) (ss_cons (s_par (fun t ht => ps_par (by rfl) nd (by rfl) (by rfl) (by decide) (by rfl) (by rfl) ht (by rfl)) (da_cons (de_call (fun t ht => pe_callS c_space_sum.G (hr.mono (by decide)) (by rfl) c_space_sum.gm c_space_sum.kp c_space_sum.b (fun σ => passAt tk σ) ht) (da_cons (de_var (pv 3)) (da_cons (de_var (pv 4)) (da_cons (de_var (pv 5)) (da_cons (de_var (pv 6)) da_nil (fun hg hf => pa_cons hf hg)) (fun hg hf => pa_cons hf hg)) (fun hg hf => pa_cons hf hg)) (fun hg hf => pa_cons hf hg))) (da_cons (de_call (fun t ht => pe_callS c_space_meet.G (hr.mono (by decide)) (by rfl) c_space_meet.gm c_space_meet.kp c_space_meet.b (fun σ => passAt tk σ) ht) (da_cons (de_var (pv 3)) (da_cons (de_var (pv 4)) (da_cons (de_var (pv 5)) (da_cons (de_var (pv 6)) da_nil (fun hg hf => pa_cons hf hg)) (fun hg hf => pa_cons hf hg)) (fun hg hf => pa_cons hf hg)) (fun hg hf => pa_cons hf hg))) da_nil (fun hg hf => pa_cons hf hg)) (fun hg hf => pa_cons hf hg))) (ss_cons (s_if (L2.PW.pt (dt_or (dt_cmp (op_neD (hu64 hr)) does_ne (de_var (pv 8)) (de_call (fun t ht => pe_callS c_law_base.G (hr.mono (by decide)) (by rfl) c_law_base.gm c_law_base.kp c_law_base.b (fun σ => passAt tk σ) ht) (da_cons (de_var (pv 3)) (da_cons (de_op op_plus does_plus (de_callB (fun t ht => pe_callTy call_list_of (by rfl) T.b_list PyProof.Rows.boot_list ht) does_listOf (da_cons (de_var (pv 5)) da_nil (fun hg hf => pa_cons hf hg))) (de_callB (fun t ht => pe_callTy call_list_of (by rfl) T.b_list PyProof.Rows.boot_list ht) does_listOf (da_cons (de_var (pv 6)) da_nil (fun hg hf => pa_cons hf hg)))) (da_cons (de_var (pv 4)) da_nil (fun hg hf => pa_cons hf hg)) (fun hg hf => pa_cons hf hg)) (fun hg hf => pa_cons hf hg))) (nomark _)) (pw_or1 (dt_cmp (op_neD (hu64 hr)) does_ne (de_var (pv 9)) (de_call (fun t ht => pe_callS c_law_meet.G (hr.mono (by decide)) (by rfl) c_law_meet.gm c_law_meet.kp c_law_meet.b (fun σ => passAt tk σ) ht) (da_cons (de_var (pv 3)) (da_cons (de_var (pv 5)) (da_cons (de_var (pv 6)) (da_cons (de_var (pv 4)) da_nil (fun hg hf => pa_cons hf hg)) (fun hg hf => pa_cons hf hg)) (fun hg hf => pa_cons hf hg)) (fun hg hf => pa_cons hf hg))) (nomark _))))) (ss_one (s_ret de_bl)) ss_nil) (ss_cons (s_if (L2.PW.pt (dt_or (dt_cmp (op_neD (hu64 hr)) does_ne (de_op op_plus does_plus (de_callB (fun t ht => pe_callB call_len (by rfl) T.b_len PySem.boot_len ht) does_len (da_cons (de_var (pv 8)) da_nil (fun hg hf => pa_cons hf hg))) (de_callB (fun t ht => pe_callB call_len (by rfl) T.b_len PySem.boot_len ht) does_len (da_cons (de_var (pv 9)) da_nil (fun hg hf => pa_cons hf hg)))) (de_op op_plus does_plus (de_callB (fun t ht => pe_callB call_len (by rfl) T.b_len PySem.boot_len ht) does_len (da_cons (de_var (pv 5)) da_nil (fun hg hf => pa_cons hf hg))) (de_callB (fun t ht => pe_callB call_len (by rfl) T.b_len PySem.boot_len ht) does_len (da_cons (de_var (pv 6)) da_nil (fun hg hf => pa_cons hf hg)))) (nomark _)) (pw_or1 (dt_cmp (op_neD (hu64 hr)) does_ne (de_call (fun t ht => pe_callS c_space_sum.G (hr.mono (by decide)) (by rfl) c_space_sum.gm c_space_sum.kp c_space_sum.b (fun σ => passAt tk σ) ht) (da_cons (de_var (pv 3)) (da_cons (de_var (pv 4)) (da_cons (de_var (pv 6)) (da_cons (de_var (pv 5)) da_nil (fun hg hf => pa_cons hf hg)) (fun hg hf => pa_cons hf hg)) (fun hg hf => pa_cons hf hg)) (fun hg hf => pa_cons hf hg))) (de_var (pv 8)) (nomark _))))) (ss_one (s_ret de_bl)) ss_nil) (ss_cons (s_if (dt_cmp (op_neD (hu64 hr)) does_ne (de_call (fun t ht => pe_callS c_space_meet.G (hr.mono (by decide)) (by rfl) c_space_meet.gm c_space_meet.kp c_space_meet.b (fun σ => passAt tk σ) ht) (da_cons (de_var (pv 3)) (da_cons (de_var (pv 4)) (da_cons (de_var (pv 6)) (da_cons (de_var (pv 5)) da_nil (fun hg hf => pa_cons hf hg)) (fun hg hf => pa_cons hf hg)) (fun hg hf => pa_cons hf hg)) (fun hg hf => pa_cons hf hg))) (de_var (pv 9)) (nomark _)) (ss_one (s_ret de_bl)) ss_nil) (ss_cons (s_if (dt_cmp (op_neD (hu64 hr)) does_ne (de_lc (pe_lc (by rfl) nd (di_seq (by rfl) (de_var (pv 9))) (blkOk_by (own := [("_law_row", 1)]) (by first | decide +kernel | kernel_rfl)) (fun _ _ _ _ _ => (pg_name (i := 1) nd (by rfl) (by first | exact Or.inl rfl | exact Or.inr rfl))) (fun _ _ _ _ _ => (dts_one (L2.PW.pt (dt_or (dt_not (dt_truth (by rfl) (de_call (fun t ht => pe_callS c_does_hold.G (hr.mono (by decide)) (by rfl) c_does_hold.gm c_does_hold.kp c_does_hold.b (fun σ => passAt takes0 σ) ht) (da_cons (de_var (pv 3)) (da_cons (de_var (pv 4)) (da_cons (de_var (pv 5)) (da_cons (de_var (pv 1)) da_nil (fun hg hf => pa_cons hf hg)) (fun hg hf => pa_cons hf hg)) (fun hg hf => pa_cons hf hg)) (fun hg hf => pa_cons hf hg))))) (pw_or1 (dt_not (dt_truth (by rfl) (de_call (fun t ht => pe_callS c_does_hold.G (hr.mono (by decide)) (by rfl) c_does_hold.gm c_does_hold.kp c_does_hold.b (fun σ => passAt takes0 σ) ht) (da_cons (de_var (pv 3)) (da_cons (de_var (pv 4)) (da_cons (de_var (pv 6)) (da_cons (de_var (pv 1)) da_nil (fun hg hf => pa_cons hf hg)) (fun hg hf => pa_cons hf hg)) (fun hg hf => pa_cons hf hg)) (fun hg hf => pa_cons hf hg)))))))))) (fun _ _ _ _ _ => (de_var (pv 1)))) (doesv_gName (by decide))) (de_lst da_nil) (nomark _)) (ss_one (s_ret de_bl)) ss_nil) (ss_cons (s_for (fun wi tb hi hb => ps_for (passes_of (by rfl)) (by rfl) hi (pg_name (i := 1) nd (by rfl) (by first | exact Or.inl rfl | exact Or.inr rfl)) hb) (di_seq (by rfl) (de_call (fun t ht => pe_callS c_law_lines.G (hr.mono (by decide)) (by rfl) c_law_lines.gm c_law_lines.kp c_law_lines.b (fun σ => passAt tk σ) ht) (da_cons (de_var (pv 0)) (da_cons (de_var (pv 3)) (da_cons de_int (da_cons (de_var (pv 4)) da_nil (fun hg hf => pa_cons hf hg)) (fun hg hf => pa_cons hf hg)) (fun hg hf => pa_cons hf hg)) (fun hg hf => pa_cons hf hg)))) does_gName (ss_cons (s_set (fun te ht => ps_set (i := 10) nd (by rfl) (by first | exact Or.inl rfl | exact Or.inr rfl) ht) (de_and (by rfl) (de_call (fun t ht => pe_callS c_law_has.G (hr.mono (by decide)) (by rfl) c_law_has.gm c_law_has.kp c_law_has.b (fun σ => passAt tk σ) ht) (da_cons (de_var (pv 3)) (da_cons (de_var (pv 5)) (da_cons (de_var (pv 1)) da_nil (fun hg hf => pa_cons hf hg)) (fun hg hf => pa_cons hf hg)) (fun hg hf => pa_cons hf hg))) (pe_one (de_call (fun t ht => pe_callS c_law_has.G (hr.mono (by decide)) (by rfl) c_law_has.gm c_law_has.kp c_law_has.b (fun σ => passAt tk σ) ht) (da_cons (de_var (pv 3)) (da_cons (de_var (pv 6)) (da_cons (de_var (pv 1)) da_nil (fun hg hf => pa_cons hf hg)) (fun hg hf => pa_cons hf hg)) (fun hg hf => pa_cons hf hg)))))) (ss_one (s_if (dt_cmp (op_neD (hu64 hr)) does_ne (de_call (fun t ht => pe_callS c_does_hold.G (hr.mono (by decide)) (by rfl) c_does_hold.gm c_does_hold.kp c_does_hold.b (fun σ => passAt tk σ) ht) (da_cons (de_var (pv 3)) (da_cons (de_var (pv 4)) (da_cons (de_var (pv 9)) (da_cons (de_var (pv 1)) da_nil (fun hg hf => pa_cons hf hg)) (fun hg hf => pa_cons hf hg)) (fun hg hf => pa_cons hf hg)) (fun hg hf => pa_cons hf hg))) (de_var (pv 10)) (nomark _)) (ss_one (s_ret de_bl)) ss_nil)))) (ss_cons (s_if (dt_cmp (op_neD (hu64 hr)) does_ne (de_call (fun t ht => pe_callS c_space_sum.G (hr.mono (by decide)) (by rfl) c_space_sum.gm c_space_sum.kp c_space_sum.b (fun σ => passAt tk σ) ht) (da_cons (de_var (pv 3)) (da_cons (de_var (pv 4)) (da_cons (de_var (pv 8)) (da_cons (de_var (pv 7)) da_nil (fun hg hf => pa_cons hf hg)) (fun hg hf => pa_cons hf hg)) (fun hg hf => pa_cons hf hg)) (fun hg hf => pa_cons hf hg))) (de_call (fun t ht => pe_callS c_space_sum.G (hr.mono (by decide)) (by rfl) c_space_sum.gm c_space_sum.kp c_space_sum.b (fun σ => passAt tk σ) ht) (da_cons (de_var (pv 3)) (da_cons (de_var (pv 4)) (da_cons (de_var (pv 5)) (da_cons (de_call (fun t ht => pe_callS c_space_sum.G (hr.mono (by decide)) (by rfl) c_space_sum.gm c_space_sum.kp c_space_sum.b (fun σ => passAt tk σ) ht) (da_cons (de_var (pv 3)) (da_cons (de_var (pv 4)) (da_cons (de_var (pv 6)) (da_cons (de_var (pv 7)) da_nil (fun hg hf => pa_cons hf hg)) (fun hg hf => pa_cons hf hg)) (fun hg hf => pa_cons hf hg)) (fun hg hf => pa_cons hf hg))) da_nil (fun hg hf => pa_cons hf hg)) (fun hg hf => pa_cons hf hg)) (fun hg hf => pa_cons hf hg)) (fun hg hf => pa_cons hf hg))) (nomark _)) (ss_one (s_ret de_bl)) ss_nil) (ss_cons (s_if (dt_cmp (op_neD (hu64 hr)) does_ne (de_call (fun t ht => pe_callS c_space_meet.G (hr.mono (by decide)) (by rfl) c_space_meet.gm c_space_meet.kp c_space_meet.b (fun σ => passAt tk σ) ht) (da_cons (de_var (pv 3)) (da_cons (de_var (pv 4)) (da_cons (de_var (pv 9)) (da_cons (de_var (pv 7)) da_nil (fun hg hf => pa_cons hf hg)) (fun hg hf => pa_cons hf hg)) (fun hg hf => pa_cons hf hg)) (fun hg hf => pa_cons hf hg))) (de_call (fun t ht => pe_callS c_space_meet.G (hr.mono (by decide)) (by rfl) c_space_meet.gm c_space_meet.kp c_space_meet.b (fun σ => passAt tk σ) ht) (da_cons (de_var (pv 3)) (da_cons (de_var (pv 4)) (da_cons (de_var (pv 5)) (da_cons (de_call (fun t ht => pe_callS c_space_meet.G (hr.mono (by decide)) (by rfl) c_space_meet.gm c_space_meet.kp c_space_meet.b (fun σ => passAt tk σ) ht) (da_cons (de_var (pv 3)) (da_cons (de_var (pv 4)) (da_cons (de_var (pv 6)) (da_cons (de_var (pv 7)) da_nil (fun hg hf => pa_cons hf hg)) (fun hg hf => pa_cons hf hg)) (fun hg hf => pa_cons hf hg)) (fun hg hf => pa_cons hf hg))) da_nil (fun hg hf => pa_cons hf hg)) (fun hg hf => pa_cons hf hg)) (fun hg hf => pa_cons hf hg)) (fun hg hf => pa_cons hf hg))) (nomark _)) (ss_one (s_ret de_bl)) ss_nil) (ss_cons (s_set (fun te ht => ps_set (i := 2) nd (by rfl) (by first | exact Or.inl rfl | exact Or.inr rfl) ht) (de_call (fun t ht => pe_callS c_space_sum.G (hr.mono (by decide)) (by rfl) c_space_sum.gm c_space_sum.kp c_space_sum.b (fun σ => passAt tk σ) ht) (da_cons (de_var (pv 3)) (da_cons (de_var (pv 4)) (da_cons (de_var (pv 9)) (da_cons (de_call (fun t ht => pe_callS c_space_meet.G (hr.mono (by decide)) (by rfl) c_space_meet.gm c_space_meet.kp c_space_meet.b (fun σ => passAt tk σ) ht) (da_cons (de_var (pv 3)) (da_cons (de_var (pv 4)) (da_cons (de_var (pv 5)) (da_cons (de_var (pv 7)) da_nil (fun hg hf => pa_cons hf hg)) (fun hg hf => pa_cons hf hg)) (fun hg hf => pa_cons hf hg)) (fun hg hf => pa_cons hf hg))) da_nil (fun hg hf => pa_cons hf hg)) (fun hg hf => pa_cons hf hg)) (fun hg hf => pa_cons hf hg)) (fun hg hf => pa_cons hf hg)))) (ss_cons (s_if (dt_cmp (op_neD (hu64 hr)) does_ne (de_var (pv 2)) (de_call (fun t ht => pe_callS c_space_meet.G (hr.mono (by decide)) (by rfl) c_space_meet.gm c_space_meet.kp c_space_meet.b (fun σ => passAt tk σ) ht) (da_cons (de_var (pv 3)) (da_cons (de_var (pv 4)) (da_cons (de_var (pv 5)) (da_cons (de_call (fun t ht => pe_callS c_space_sum.G (hr.mono (by decide)) (by rfl) c_space_sum.gm c_space_sum.kp c_space_sum.b (fun σ => passAt tk σ) ht) (da_cons (de_var (pv 3)) (da_cons (de_var (pv 4)) (da_cons (de_var (pv 6)) (da_cons (de_call (fun t ht => pe_callS c_space_meet.G (hr.mono (by decide)) (by rfl) c_space_meet.gm c_space_meet.kp c_space_meet.b (fun σ => passAt tk σ) ht) (da_cons (de_var (pv 3)) (da_cons (de_var (pv 4)) (da_cons (de_var (pv 5)) (da_cons (de_var (pv 7)) da_nil (fun hg hf => pa_cons hf hg)) (fun hg hf => pa_cons hf hg)) (fun hg hf => pa_cons hf hg)) (fun hg hf => pa_cons hf hg))) da_nil (fun hg hf => pa_cons hf hg)) (fun hg hf => pa_cons hf hg)) (fun hg hf => pa_cons hf hg)) (fun hg hf => pa_cons hf hg))) da_nil (fun hg hf => pa_cons hf hg)) (fun hg hf => pa_cons hf hg)) (fun hg hf => pa_cons hf hg)) (fun hg hf => pa_cons hf hg))) (nomark _)) (ss_one (s_ret de_bl)) ss_nil) (ss_cons (s_if (L2.PW.pt (dt_or (dt_cmp (op_neD (hu64 hr)) does_ne (de_call (fun t ht => pe_callS c_space_sum.G (hr.mono (by decide)) (by rfl) c_space_sum.gm c_space_sum.kp c_space_sum.b (fun σ => passAt tk σ) ht) (da_cons (de_var (pv 3)) (da_cons (de_var (pv 4)) (da_cons (de_var (pv 5)) (da_cons (de_tup da_nil) da_nil (fun hg hf => pa_cons hf hg)) (fun hg hf => pa_cons hf hg)) (fun hg hf => pa_cons hf hg)) (fun hg hf => pa_cons hf hg))) (de_var (pv 5)) (nomark _)) (pw_or1 (dt_cmp (op_neD (hu64 hr)) does_ne (de_call (fun t ht => pe_callS c_space_meet.G (hr.mono (by decide)) (by rfl) c_space_meet.gm c_space_meet.kp c_space_meet.b (fun σ => passAt tk σ) ht) (da_cons (de_var (pv 3)) (da_cons (de_var (pv 4)) (da_cons (de_var (pv 5)) (da_cons (de_var (pv 5)) da_nil (fun hg hf => pa_cons hf hg)) (fun hg hf => pa_cons hf hg)) (fun hg hf => pa_cons hf hg)) (fun hg hf => pa_cons hf hg))) (de_var (pv 5)) (nomark _))))) (ss_one (s_ret de_bl)) ss_nil) (ss_one (s_ret (de_cmp (op_eqD (hu64 hr)) does_eq (de_call (fun t ht => pe_callS c_space_meet.G (hr.mono (by decide)) (by rfl) c_space_meet.gm c_space_meet.kp c_space_meet.b (fun σ => passAt tk σ) ht) (da_cons (de_var (pv 3)) (da_cons (de_var (pv 4)) (da_cons (de_var (pv 5)) (da_cons (de_tup da_nil) da_nil (fun hg hf => pa_cons hf hg)) (fun hg hf => pa_cons hf hg)) (fun hg hf => pa_cons hf hg)) (fun hg hf => pa_cons hf hg))) (de_tup da_nil) (nomark _))))))))))))))))))
/-! law -/
abbrev s_law : Stmt := top 53
def m_law : List D → LH → R D := fnD 4 (sSeq (sFor (iRange1 (daCons (dL (kI2 fun i j => if j > i then j else i) (daCons (dC (.int 1)) (daCons (dL (kI2 fun i j => if j < i then j else i) (daCons (dC (.int 2)) (daCons (dL kLen (daCons (dVar 0) daNil)) daNil))) daNil))) daNil)) (gSet 1) (sIf (dNot (dTruth (dCallNew m_law_right (dCallF 2 m_law_kettle (daCons (dVar 0) (daCons (dVar 1) daNil)))))) (sRet (dC (.bl false))) sNext)) (sSeq (sSet 2 (dL kLst (daCons (dCall 4 m_space_meet (daCons (dC (.int 2)) (daCons (dC (.int 3)) (daCons (dL kTup (daCons (dL kTup (daCons (dC (.int 1)) (daCons (dC (.int 0)) (daCons (dC (.int 0)) daNil)))) (daCons (dL kTup (daCons (dC (.int 0)) (daCons (dC (.int 1)) (daCons (dC (.int 0)) daNil)))) daNil))) (daCons (dL kTup (daCons (dL kTup (daCons (dC (.int 0)) (daCons (dC (.int 1)) (daCons (dC (.int 0)) daNil)))) (daCons (dL kTup (daCons (dC (.int 0)) (daCons (dC (.int 0)) (daCons (dC (.int 1)) daNil)))) daNil))) daNil))))) (daCons (dCall 4 m_space_sum (daCons (dC (.int 2)) (daCons (dC (.int 3)) (daCons (dL kTup (daCons (dL kTup (daCons (dC (.int 1)) (daCons (dC (.int 1)) (daCons (dC (.int 0)) daNil)))) daNil)) (daCons (dL kTup (daCons (dL kTup (daCons (dC (.int 0)) (daCons (dC (.int 1)) (daCons (dC (.int 1)) daNil)))) daNil)) daNil))))) daNil)))) (sSeq (sIf (dB (d2 kNe (dVar 2) (dL kLst (daCons (dL kTup (daCons (dL kTup (daCons (dC (.int 0)) (daCons (dC (.int 1)) (daCons (dC (.int 0)) daNil)))) daNil)) (daCons (dL kTup (daCons (dL kTup (daCons (dC (.int 1)) (daCons (dC (.int 0)) (daCons (dC (.int 1)) daNil)))) (daCons (dL kTup (daCons (dC (.int 0)) (daCons (dC (.int 1)) (daCons (dC (.int 1)) daNil)))) daNil))) daNil))))) (sRet (dC (.bl false))) sNext) (sSeq (sSet 3 (dL kLst (daCons (dL kTup (daCons (dL kTup (daCons (dC (.int 1)) (daCons (dC (.int 0)) daNil))) daNil)) (daCons (dL kTup (daCons (dL kTup (daCons (dC (.int 0)) (daCons (dC (.int 1)) daNil))) daNil)) (daCons (dL kTup (daCons (dL kTup (daCons (dC (.int 1)) (daCons (dC (.int 1)) daNil))) daNil)) daNil))))) (sSeq (sIf (dB (d2 kNe (dLc (iRange1 (daCons (dC (.int 3)) daNil)) (gSet 1) [1] dYes (dCall 4 m_space_meet (daCons (dC (.int 5)) (daCons (dC (.int 2)) (daCons (d2 kIx (dVar 3) (dVar 1)) (daCons (d2 kIx (dVar 3) (d2 kSub (dVar 1) (dC (.int 1)))) daNil)))))) (d2 kTimes (dL kLst (daCons (dL kTup daNil) daNil)) (dC (.int 3))))) (sRet (dC (.bl false))) sNext) (sRet (d2 kEq (dCall 4 m_space_sum (daCons (dC (.int 5)) (daCons (dC (.int 2)) (daCons (dCall 4 m_space_sum (daCons (dC (.int 5)) (daCons (dC (.int 2)) (daCons (d2 kIx (dVar 3) (dC (.int 0))) (daCons (d2 kIx (dVar 3) (dC (.int 1))) daNil))))) (daCons (d2 kIx (dVar 3) (dC (.int 2))) daNil))))) (dL kTup (daCons (dL kTup (daCons (dC (.int 1)) (daCons (dC (.int 0)) daNil))) (daCons (dL kTup (daCons (dC (.int 0)) (daCons (dC (.int 1)) daNil))) daNil))))))))))
theorem sc_law : FnScope ["_law_script", "_law_at", "_law_told", "_law_three"] ["_law_script"] (defScope s_law) := ⟨rfl, rfl, rfl, by decide +kernel, rfl, by decide +kernel, by decide +kernel⟩
theorem ok_law {f : Addr} {fd : FuncData} (F : Fun K "law" "law" s_law f fd) (T : Txt K mg) (c_law_kettle : DefAtF P w K mg base ct "_law_kettle" 1 2 ["_law_script", "_law_at"] m_law_kettle) (c_law_right : DefAt P w K mg base ct "_law_right" 8 1 ["_law_kettle_here"] m_law_right) (c_space_meet : DefAt P w K mg base ct "space_meet" 7 4 ["prime", "width", "one", "other"] m_space_meet) (c_space_sum : DefAt P w K mg base ct "space_sum" 7 4 ["prime", "width", "one", "other"] m_space_sum) : FnOk P w K mg base (L2.CX P w) 9 f fd ["_law_script"] (spD ⟨K, ct⟩ 1 m_law) :=
  fun_okD F sc_law rfl fun cdv A outer s H E hr => by
    have nd := sc_law.nd
    have tk : Takes (cxOf (L2.CX P w) P w K mg base ["_law_script", "_law_at", "_law_told", "_law_three"] "law" (defScope s_law) f cdv A outer s H E) (wishOf fun _ => E) := takes_of rfl rfl rfl rfl
    exact (ss_cons (s_for (fun wi tb hi hb => ps_for (passes_of (by rfl)) (by rfl) hi (pg_name (i := 1) nd (by rfl) (by first | exact Or.inl rfl | exact Or.inr rfl)) hb) (di_range1 (fun t ht => pi_range1 (by rfl) T.b_range ht) (da_cons (de_callB (fun t ht => pe_callB (call_max2 (by rfl)) (by rfl) T.b_max PyProof.Rows.boot_max ht) does_max2 (da_cons de_int (da_cons (de_callB (fun t ht => pe_callB (call_min2 (by rfl)) (by rfl) T.b_min PyProof.Rows.boot_min ht) does_min2 (da_cons de_int (da_cons (de_callB (fun t ht => pe_callB call_len (by rfl) T.b_len PySem.boot_len ht) does_len (da_cons (de_var (pv 0)) da_nil (fun hg hf => pa_cons hf hg))) da_nil (fun hg hf => pa_cons hf hg)) (fun hg hf => pa_cons hf hg))) da_nil (fun hg hf => pa_cons hf hg)) (fun hg hf => pa_cons hf hg))) da_nil (fun hg hf => pa_cons hf hg))) does_gName (ss_one (s_if (dt_not (dt_truth (by rfl) (de_callNew (fun t ht => pe_callS c_law_right.G (hr.mono (by decide)) (by rfl) c_law_right.gm c_law_right.kp c_law_right.b (fun σ => passAt tk σ) ht) (df_call (fun t ht => pe_callS c_law_kettle.G (hr.mono (by decide)) (by rfl) c_law_kettle.gm c_law_kettle.kp c_law_kettle.b (fun σ => passAt tk σ) ht) (da_cons (de_var (pv 0)) (da_cons (de_var (pv 1)) da_nil (fun hg hf => pa_cons hf hg)) (fun hg hf => pa_cons hf hg))) (fun hf => pa_cons hf pa_nil)))) (ss_one (s_ret de_bl)) ss_nil))) (ss_cons (s_set (fun te ht => ps_set (i := 2) nd (by rfl) (by first | exact Or.inl rfl | exact Or.inr rfl) ht) (de_lst (da_cons (de_call (fun t ht => pe_callS c_space_meet.G (hr.mono (by decide)) (by rfl) c_space_meet.gm c_space_meet.kp c_space_meet.b (fun σ => passAt tk σ) ht) (da_cons de_int (da_cons de_int (da_cons (de_tup (da_cons (de_tup (da_cons de_int (da_cons de_int (da_cons de_int da_nil (fun hg hf => pa_cons hf hg)) (fun hg hf => pa_cons hf hg)) (fun hg hf => pa_cons hf hg))) (da_cons (de_tup (da_cons de_int (da_cons de_int (da_cons de_int da_nil (fun hg hf => pa_cons hf hg)) (fun hg hf => pa_cons hf hg)) (fun hg hf => pa_cons hf hg))) da_nil (fun hg hf => pa_cons hf hg)) (fun hg hf => pa_cons hf hg))) (da_cons (de_tup (da_cons (de_tup (da_cons de_int (da_cons de_int (da_cons de_int da_nil (fun hg hf => pa_cons hf hg)) (fun hg hf => pa_cons hf hg)) (fun hg hf => pa_cons hf hg))) (da_cons (de_tup (da_cons de_int (da_cons de_int (da_cons de_int da_nil (fun hg hf => pa_cons hf hg)) (fun hg hf => pa_cons hf hg)) (fun hg hf => pa_cons hf hg))) da_nil (fun hg hf => pa_cons hf hg)) (fun hg hf => pa_cons hf hg))) da_nil (fun hg hf => pa_cons hf hg)) (fun hg hf => pa_cons hf hg)) (fun hg hf => pa_cons hf hg)) (fun hg hf => pa_cons hf hg))) (da_cons (de_call (fun t ht => pe_callS c_space_sum.G (hr.mono (by decide)) (by rfl) c_space_sum.gm c_space_sum.kp c_space_sum.b (fun σ => passAt tk σ) ht) (da_cons de_int (da_cons de_int (da_cons (de_tup (da_cons (de_tup (da_cons de_int (da_cons de_int (da_cons de_int da_nil (fun hg hf => pa_cons hf hg)) (fun hg hf => pa_cons hf hg)) (fun hg hf => pa_cons hf hg))) da_nil (fun hg hf => pa_cons hf hg))) (da_cons (de_tup (da_cons (de_tup (da_cons de_int (da_cons de_int (da_cons de_int da_nil (fun hg hf => pa_cons hf hg)) (fun hg hf => pa_cons hf hg)) (fun hg hf => pa_cons hf hg))) da_nil (fun hg hf => pa_cons hf hg))) da_nil (fun hg hf => pa_cons hf hg)) (fun hg hf => pa_cons hf hg)) (fun hg hf => pa_cons hf hg)) (fun hg hf => pa_cons hf hg))) da_nil (fun hg hf => pa_cons hf hg)) (fun hg hf => pa_cons hf hg)))) (ss_cons (s_if (dt_cmp (op_neD (hu64 hr)) does_ne (de_var (pv 2)) (de_lst (da_cons (de_tup (da_cons (de_tup (da_cons de_int (da_cons de_int (da_cons de_int da_nil (fun hg hf => pa_cons hf hg)) (fun hg hf => pa_cons hf hg)) (fun hg hf => pa_cons hf hg))) da_nil (fun hg hf => pa_cons hf hg))) (da_cons (de_tup (da_cons (de_tup (da_cons de_int (da_cons de_int (da_cons de_int da_nil (fun hg hf => pa_cons hf hg)) (fun hg hf => pa_cons hf hg)) (fun hg hf => pa_cons hf hg))) (da_cons (de_tup (da_cons de_int (da_cons de_int (da_cons de_int da_nil (fun hg hf => pa_cons hf hg)) (fun hg hf => pa_cons hf hg)) (fun hg hf => pa_cons hf hg))) da_nil (fun hg hf => pa_cons hf hg)) (fun hg hf => pa_cons hf hg))) da_nil (fun hg hf => pa_cons hf hg)) (fun hg hf => pa_cons hf hg))) (nomark _)) (ss_one (s_ret de_bl)) ss_nil) (ss_cons (s_set (fun te ht => ps_set (i := 3) nd (by rfl) (by first | exact Or.inl rfl | exact Or.inr rfl) ht) (de_lst (da_cons (de_tup (da_cons (de_tup (da_cons de_int (da_cons de_int da_nil (fun hg hf => pa_cons hf hg)) (fun hg hf => pa_cons hf hg))) da_nil (fun hg hf => pa_cons hf hg))) (da_cons (de_tup (da_cons (de_tup (da_cons de_int (da_cons de_int da_nil (fun hg hf => pa_cons hf hg)) (fun hg hf => pa_cons hf hg))) da_nil (fun hg hf => pa_cons hf hg))) (da_cons (de_tup (da_cons (de_tup (da_cons de_int (da_cons de_int da_nil (fun hg hf => pa_cons hf hg)) (fun hg hf => pa_cons hf hg))) da_nil (fun hg hf => pa_cons hf hg))) da_nil (fun hg hf => pa_cons hf hg)) (fun hg hf => pa_cons hf hg)) (fun hg hf => pa_cons hf hg)))) (ss_cons (s_if (dt_cmp (op_neD (hu64 hr)) does_ne (de_lc (pe_lc (by rfl) nd (di_range1 (fun t ht => pi_range1 (by rfl) T.b_range ht) (da_cons de_int da_nil (fun hg hf => pa_cons hf hg))) (blkOk_by (own := [("_law_at", 1)]) (by first | decide +kernel | kernel_rfl)) (fun _ _ _ _ _ => (pg_name (i := 1) nd (by rfl) (by first | exact Or.inl rfl | exact Or.inr rfl))) (fun _ _ _ _ _ => dts_nil) (fun _ _ _ _ _ => (de_call (fun t ht => pe_callS c_space_meet.G (hr.mono (by decide)) (by rfl) c_space_meet.gm c_space_meet.kp c_space_meet.b (fun σ => passAt takes0 σ) ht) (da_cons de_int (da_cons de_int (da_cons (de_ix (by rfl) (de_var (pv 3)) (de_var (pv 1)) (fun _ _ => rfl)) (da_cons (de_ix (by rfl) (de_var (pv 3)) (de_op op_sub does_sub (de_var (pv 1)) de_int) (fun _ _ => rfl)) da_nil (fun hg hf => pa_cons hf hg)) (fun hg hf => pa_cons hf hg)) (fun hg hf => pa_cons hf hg)) (fun hg hf => pa_cons hf hg))))) (doesv_gName (by decide))) (de_op op_times does_times (de_lst (da_cons (de_tup da_nil) da_nil (fun hg hf => pa_cons hf hg))) de_int) (nomark _)) (ss_one (s_ret de_bl)) ss_nil) (ss_one (s_ret (de_cmp (op_eqD (hu64 hr)) does_eq (de_call (fun t ht => pe_callS c_space_sum.G (hr.mono (by decide)) (by rfl) c_space_sum.gm c_space_sum.kp c_space_sum.b (fun σ => passAt tk σ) ht) (da_cons de_int (da_cons de_int (da_cons (de_call (fun t ht => pe_callS c_space_sum.G (hr.mono (by decide)) (by rfl) c_space_sum.gm c_space_sum.kp c_space_sum.b (fun σ => passAt tk σ) ht) (da_cons de_int (da_cons de_int (da_cons (de_ix (by rfl) (de_var (pv 3)) de_int (fun _ _ => rfl)) (da_cons (de_ix (by rfl) (de_var (pv 3)) de_int (fun _ _ => rfl)) da_nil (fun hg hf => pa_cons hf hg)) (fun hg hf => pa_cons hf hg)) (fun hg hf => pa_cons hf hg)) (fun hg hf => pa_cons hf hg))) (da_cons (de_ix (by rfl) (de_var (pv 3)) de_int (fun _ _ => rfl)) da_nil (fun hg hf => pa_cons hf hg)) (fun hg hf => pa_cons hf hg)) (fun hg hf => pa_cons hf hg)) (fun hg hf => pa_cons hf hg))) (de_tup (da_cons (de_tup (da_cons de_int (da_cons de_int da_nil (fun hg hf => pa_cons hf hg)) (fun hg hf => pa_cons hf hg))) (da_cons (de_tup (da_cons de_int (da_cons de_int da_nil (fun hg hf => pa_cons hf hg)) (fun hg hf => pa_cons hf hg))) da_nil (fun hg hf => pa_cons hf hg)) (fun hg hf => pa_cons hf hg))) (nomark _)))))))))
end
end Law

set_option Elab.async false
set_option linter.all false
set_option maxRecDepth 100000
set_option maxHeartbeats 1000000
namespace Law
open PySem PySem.Spec L2 DL PM
theorem undone_ok {p a : Int} (hp : pr p) (h0 : 0 < a) (h1 : a < p) (L : LH) : m_undone_number [.int p, .int a] L = .ok (.int (inv p a)) L := by
  rcases hp with rfl | rfl | rfl | rfl
  · obtain rfl : a = 1 := by omega
    exact fnD_rt (by rfl)
  · obtain rfl | rfl : a = 1 ∨ a = 2 := by omega
    all_goals exact fnD_rt (by rfl)
  · obtain rfl | rfl | rfl | rfl : a = 1 ∨ a = 2 ∨ a = 3 ∨ a = 4 := by omega
    all_goals exact fnD_rt (by rfl)
  · obtain rfl | rfl | rfl | rfl | rfl | rfl : a = 1 ∨ a = 2 ∨ a = 3 ∨ a = 4 ∨ a = 5 ∨ a = 6 := by omega
    all_goals exact fnD_rt (by rfl)
theorem lundone_ok {p a : Int} (hp : pr p) (h0 : 0 < a) (h1 : a < p) (L : LH) : m_law_undone [.int p, .int a] L = .ok (.int (inv p a)) L := by
  rcases hp with rfl | rfl | rfl | rfl
  · obtain rfl : a = 1 := by omega
    exact fnD_rt (by rfl)
  · obtain rfl | rfl : a = 1 ∨ a = 2 := by omega
    all_goals exact fnD_rt (by rfl)
  · obtain rfl | rfl | rfl | rfl : a = 1 ∨ a = 2 ∨ a = 3 ∨ a = 4 := by omega
    all_goals exact fnD_rt (by rfl)
  · obtain rfl | rfl | rfl | rfl | rfl | rfl : a = 1 ∨ a = 2 ∨ a = 3 ∨ a = 4 ∨ a = 5 ∨ a = 6 := by omega
    all_goals exact fnD_rt (by rfl)
theorem zero_ok {n : Int} (h : -100000 ≤ n) (k : n ≤ 100000) (L : LH) : m_zero_row [.int n] L = .ok (PI (List.replicate n.toNat 0)) L := by
  refine fnD_rt ?_
  show R.toS (DL.kTimes (.tup [.int 0]) (.int n) L) _ _ = _
  rw [k_timesT 0 h k]; rfl
theorem row_times_ok {p c : Int} (hp : 0 < p) (c0 : 0 ≤ c) (c1 : c < 100) {l : List Int} (hl : l.length ≤ 100000) (L : LH) : m_row_times [.int p, .int c, PI l] L = .ok (PI (l.map fun a => c * a % p)) L := by
  refine fnD_rt (ret_ok ((dL_ok (ca_ok (a := .lst (LI (l.map fun a => c * a % p))) (L1 := L) ?_ cn_ok)).trans rfl))
  refine dLc_ok (items := LI l) (L1 := L) rfl (by simp; omega) (lc_int l (fun a _ => ?_))
  exact (d2_ok (a := .int (c * a)) (b := .int p) (L1 := L) (L2 := L) ((d2_ok (a := .int c) (b := .int a) (L1 := L) (L2 := L) rfl rfl).trans (k_times _ _ (small_mul c0 c1))) rfl).trans (k_mod _ _ hp)
theorem less_times_ok {p c : Int} (hp : 0 < p) (c0 : -100 < c) (c1 : c < 100) {l r : List Int} (hl : l.length ≤ 100000) (L : LH) : m_row_less_times [.int p, PI l, .int c, PI r] L = .ok (PI (List.zipWith (fun a b => (a - c * b) % p) l r)) L := by
  refine fnD_rt (ret_ok ((dL_ok (ca_ok (a := .lst (LI (List.zipWith (fun a b => (a - c * b) % p) l r))) (L1 := L) ?_ cn_ok)).trans rfl))
  refine dLc_ok (items := zipD (LI l) (LI r)) (L1 := L) rfl (by have := zipD_len (LI l) (LI r); simp at this ⊢; omega) (lc_zip l r (fun a b _ _ => ?_))
  exact (d2_ok (a := .int (a - c * b)) (b := .int p) (L1 := L) (L2 := L) ((d2_ok (a := .int a) (b := .int (c * b)) (L1 := L) (L2 := L) rfl ((d2_ok (a := .int c) (b := .int b) (L1 := L) (L2 := L) rfl rfl).trans (k_times _ _ (mulOk_sm c0 c1)))).trans (k_sub _ _)) rfl).trans (k_mod _ _ hp)
theorem lplus_ok {p c : Int} (hp : 0 < p) (c0 : -100 < c) (c1 : c < 100) {l r : List Int} (hl : l.length ≤ 100000) (L : LH) : m_law_plus [.int p, PI l, PI r, .int c] L = .ok (PI (List.zipWith (fun a b => (a + c * b) % p) l r)) L := by
  refine fnD_rt (ret_ok ((dL_ok (ca_ok (a := .lst (LI (List.zipWith (fun a b => (a + c * b) % p) l r))) (L1 := L) ?_ cn_ok)).trans rfl))
  refine dLc_ok (items := zipD (LI l) (LI r)) (L1 := L) rfl (by have := zipD_len (LI l) (LI r); simp at this ⊢; omega) (lc_zip l r (fun a b _ _ => ?_))
  exact (d2_ok (a := .int (a + c * b)) (b := .int p) (L1 := L) (L2 := L) ((d2_ok (a := .int a) (b := .int (c * b)) (L1 := L) (L2 := L) rfl ((d2_ok (a := .int c) (b := .int b) (L1 := L) (L2 := L) rfl rfl).trans (k_times _ _ (mulOk_sm c0 c1)))).trans (k_plusI _ _)) rfl).trans (k_mod _ _ hp)
/-! rows that are reckoned -/
def addR (p c : Int) (l r : List Int) : List Int := List.zipWith (fun a b => (a + c * b) % p) l r
def mulR (p c : Int) (l : List Int) : List Int := l.map fun a => c * a % p
theorem co_addR {p c : Int} {l r : List Int} (h : l.length = r.length) (i : Nat) : co (addR p c l r) i = (co l i + c * co r i) % p := co_zipWith _ (by simp) _ _ _ h
theorem co_mulR {p c : Int} {l : List Int} (i : Nat) : co (mulR p c l) i = c * co l i % p := co_map (fun a => c * a % p) (by simp) _ _
theorem red_of {p : Int} (hp : 0 < p) {l : List Int} {f : Nat → Int} (h : ∀ i, co l i = f i % p) : Red p l := fun i => by
  rw [h]; exact ⟨Int.emod_nonneg _ (by omega), Int.emod_lt_of_pos _ hp⟩
theorem row_addR {p c : Int} (hp : pr p) {w : Nat} {l r : List Int} (hl : Row p w l) (hr : Row p w r) : Row p w (addR p c l r) :=
  ⟨by simp [addR, hl.n, hr.n], red_of (pr_pos hp) (co_addR (by rw [hl.n, hr.n]))⟩
theorem row_mulR {p c : Int} (hp : pr p) {w : Nat} {l : List Int} (hl : Row p w l) : Row p w (mulR p c l) :=
  ⟨by simp [mulR, hl.n], red_of (pr_pos hp) (co_mulR)⟩
theorem sub_addR (p c : Int) (l r : List Int) : List.zipWith (fun a b => (a - c * b) % p) l r = addR p (-c) l r := by
  unfold addR
  congr 1
  funext a b
  rw [Int.neg_mul, Int.sub_eq_add_neg]
theorem sp_addR {p c : Int} {w : Nat} {R : List (List Int)} {l r : List Int} (hl : Row p w l) (hr : Row p w r) (h1 : Sp p R (co l)) (h2 : Sp p R (co r)) : Sp p R (co (addR p c l r)) :=
  (h1.lin c h2).cgr fun i => by rw [co_addR (by rw [hl.n, hr.n])]; exact cg_sym cg_mod
theorem sp_mulR {p c : Int} {R : List (List Int)} {l : List Int} (h1 : Sp p R (co l)) : Sp p R (co (mulR p c l)) :=
  (h1.smul c).cgr fun i => by rw [co_mulR]; exact cg_sym cg_mod
theorem Row.sm {p : Int} (hp : pr p) {w : Nat} {l : List Int} (h : Row p w l) (i : Nat) : 0 ≤ co l i ∧ co l i < p ∧ p < 10 := by
  have := h.r i
  unfold pr at hp
  omega
/-! where a row begins -/
def leadN : List Int → Nat
  | [] => 0
  | a :: l => if a = 0 then leadN l + 1 else 0
def lead (r : List Int) (s : Nat) : Nat := s + leadN (r.drop s)
theorem leadN_ok : ∀ l : List Int, leadN l ≤ l.length ∧ (∀ i, i < leadN l → co l i = 0) ∧ (leadN l < l.length → co l (leadN l) ≠ 0)
  | [] => ⟨Nat.le_refl _, fun i h => absurd h (Nat.not_lt_zero i), fun h => absurd h (Nat.lt_irrefl _)⟩
  | a :: l => by
    obtain ⟨h1, h2, h3⟩ := leadN_ok l
    unfold leadN
    by_cases e : a = 0
    · rw [if_pos e]
      refine ⟨by simp; omega, fun i hi => ?_, fun h => ?_⟩
      · cases i with
        | zero => simpa using e
        | succ i => rw [co_succ]; exact h2 i (by omega)
      · rw [co_succ]; exact h3 (by simp at h; omega)
    · rw [if_neg e]
      exact ⟨Nat.zero_le _, fun i h => absurd h (Nat.not_lt_zero i), fun _ => by simpa using e⟩
theorem co_drop (l : List Int) (s i : Nat) : co (l.drop s) i = co l (s + i) := by
  unfold co; rw [List.getD_eq_getElem?_getD, List.getD_eq_getElem?_getD, List.getElem?_drop]
theorem lead_ok {r : List Int} {s : Nat} (h : s ≤ r.length) : s ≤ lead r s ∧ lead r s ≤ r.length ∧ (∀ i, s ≤ i → i < lead r s → co r i = 0) ∧ (lead r s < r.length → co r (lead r s) ≠ 0) := by
  obtain ⟨h1, h2, h3⟩ := leadN_ok (r.drop s)
  rw [List.length_drop] at h1 h3
  unfold lead
  refine ⟨by omega, by omega, fun i hi hlt => ?_, fun hlt => ?_⟩
  · have := h2 (i - s) (by omega)
    rwa [co_drop, show s + (i - s) = i by omega] at this
  · have := h3 (by omega)
    rwa [co_drop] at this
theorem for_rt {k : DG} {b : DS} {d d' : D} {ds : List D} {env env1 : DEnv} {L L2 : LH} (h : k d env = some env1) (h2 : b env1 L = .rt d' L2) : forD k b (d :: ds) env L = .rt d' L2 := by
  simp [forD, h, h2]
theorem lead_loop (r : List Int) (L : LH) (x : D) : ∀ (n s : Nat) (z : Option D), s + n = r.length → ∃ z', forD (gSet 2) (sIf (dTruth (d2 kIx (dVar 0) (dVar 2))) (sRet (dVar 2)) sNext) (rangeD (s : Int) n) [some (PI r), some x, z] L = (if lead r s < r.length then .rt (.int (lead r s : Nat)) L else .nx [some (PI r), some x, z'] L)
  | 0, s, z, h => ⟨z, by
    have : ¬ lead r s < r.length := by
      have := (lead_ok (r := r) (s := s) (by omega)).1
      omega
    rw [if_neg this]; rfl⟩
  | n + 1, s, z, h => by
    have e1 : rangeD (s : Int) (n + 1) = .int (s : Int) :: rangeD ((s + 1 : Nat) : Int) n := by
      unfold rangeD
      rw [List.range_succ_eq_map, List.map_cons, List.map_map]
      have h0 : D.int ((s : Int) + ((0 : Nat) : Int)) = D.int (s : Int) := by simp
      rw [h0]
      congr 1
      refine List.map_congr_left fun i _ => ?_
      show D.int ((s : Int) + ((i + 1 : Nat) : Int)) = D.int (((s + 1 : Nat) : Int) + (i : Int))
      congr 1
      omega
    have hd : r.drop s = co r s :: r.drop (s + 1) := by
      have hs : s < r.length := by omega
      rw [List.drop_eq_getElem_cons hs]
      unfold co
      rw [List.getD_eq_getElem?_getD, List.getElem?_eq_getElem hs]; rfl
    have ht : dTruth (d2 kIx (dVar 0) (dVar 2)) [some (PI r), some x, some (.int (s : Int))] L = .ok (co r s != 0) L :=
      truth_b (d := .int (co r s)) ((d2_ok (a := PI r) (b := .int (s : Int)) (L1 := L) (L2 := L) rfl rfl).trans (seqD_ix (seqT L r) s (by omega))) rfl
    by_cases e : co r s = 0
    · have hl : lead r s = lead r (s + 1) := by
        have h1 : leadN (co r s :: r.drop (s + 1)) = if co r s = 0 then leadN (r.drop (s + 1)) + 1 else 0 := rfl
        unfold lead
        rw [hd, h1, if_pos e]; omega
      obtain ⟨z', ih⟩ := lead_loop r L x n (s + 1) (some (.int (s : Int))) (by omega)
      refine ⟨z', ?_⟩
      rw [e1, hl]
      refine (for_go (env1 := [some (PI r), some x, some (.int (s : Int))]) (env2 := [some (PI r), some x, some (.int (s : Int))]) (L2 := L) rfl ((if_f (ht.trans (by rw [e]; rfl))).trans rfl)).trans ih
    · have hl : lead r s = s := by
        have h1 : leadN (co r s :: r.drop (s + 1)) = if co r s = 0 then leadN (r.drop (s + 1)) + 1 else 0 := rfl
        unfold lead
        rw [hd, h1, if_neg e]; rfl
      refine ⟨z, ?_⟩
      rw [e1, hl, if_pos (by omega)]
      exact for_rt (env1 := [some (PI r), some x, some (.int (s : Int))]) rfl ((if_t (ht.trans (by rw [bne_iff_ne.mpr e]))).trans rfl)
theorem range2_gen {f g : DE} {env : DEnv} {L : LH} {i j : Int} (hf : f env L = .ok (.int i) L) (hg : g env L = .ok (.int j) L) (hn : (inR i && inR j) = true) : iRange2 (daCons f (daCons g daNil)) env L = .ok (rangeD i (j - i).toNat) L := by
  unfold iRange2
  rw [ca_ok hf (ca_ok hg cn_ok)]
  show (if (inR i && inR j) = true then R.ok (rangeD i (j - i).toNat) L else .no) = _
  rw [if_pos hn]
theorem range2_ok {f g : DE} {env : DEnv} {L : LH} {a b : Nat} (hf : f env L = .ok (.int (a : Int)) L) (hg : g env L = .ok (.int (b : Int)) L) (h : a ≤ 1000000) (h2 : b ≤ 1000000) : iRange2 (daCons f (daCons g daNil)) env L = .ok (rangeD (a : Int) (b - a)) L := by
  have e : ((b : Int) - (a : Int)).toNat = b - a := by omega
  have := range2_gen hf hg (by rw [inR_ok a h, inR_ok b h2]; rfl)
  rwa [e] at this
theorem lead_from_ok {r : List Int} {s : Nat} (h : s ≤ r.length) (hr : r.length ≤ 100000) (L : LH) : m_lead_from [PI r, .int (s : Int)] L = .ok (.int (lead r s : Nat)) L := by
  obtain ⟨z', hl⟩ := lead_loop r L (.int (s : Int)) (r.length - s) s none (by omega)
  have hi : iRange2 (daCons (dVar 1) (daCons (dL kLen (daCons (dVar 0) daNil)) daNil)) [some (PI r), some (.int (s : Int)), none] L = .ok (rangeD (s : Int) (r.length - s)) L :=
    range2_ok rfl ((len_ok (ds := LI r) rfl).trans (by rw [List.length_map])) (by omega) (by omega)
  have hlk := (lead_ok h).2.1
  have hfor : sFor (iRange2 (daCons (dVar 1) (daCons (dL kLen (daCons (dVar 0) daNil)) daNil))) (gSet 2) (sIf (dTruth (d2 kIx (dVar 0) (dVar 2))) (sRet (dVar 2)) sNext) [some (PI r), some (.int (s : Int)), none] L = (if lead r s < r.length then .rt (.int (lead r s : Nat)) L else .nx [some (PI r), some (.int (s : Int)), z'] L) := by
    rw [ev_for, hi, toS_ok]; exact hl
  by_cases e : lead r s < r.length
  · rw [if_pos e] at hfor
    exact fnD_rt (seq_rt _ _ hfor)
  · rw [if_neg e] at hfor
    have : lead r s = r.length := by omega
    refine fnD_rt ((seq_nx _ _ hfor).trans (ret_ok ((len_ok (ds := LI r) rfl).trans ?_)))
    rw [List.length_map, this]
end Law

set_option Elab.async false
set_option linter.all false
set_option maxRecDepth 100000
set_option maxHeartbeats 1000000
namespace Law
open PySem PySem.Spec L2 DL PM
/-! steps as dicts -/
def KD (B : List (Nat × List Int)) : List (Key × D) := B.map fun b => (Sum.inl (b.1 : Int), PI b.2)
theorem val_in : ∀ {B : List (Nat × List Int)} {k : Nat} {r : List Int}, (B.map (·.1)).Nodup → (k, r) ∈ B → valD (KD B) (.inl (k : Int)) = some (PI r)
  | b :: B, k, r, nd, h => by
    rw [List.map_cons, List.nodup_cons] at nd
    show (if (Sum.inl (b.1 : Int) : Key) = Sum.inl (k : Int) then some (PI b.2) else valD (KD B) (.inl (k : Int))) = _
    rcases List.mem_cons.mp h with e | h
    · rw [← e, if_pos rfl]
    · have hk : b.1 ≠ k := fun e => nd.1 (List.mem_map.mpr ⟨(k, r), h, e.symm⟩)
      have hk2 : ¬ (Sum.inl (b.1 : Int) : Key) = Sum.inl (k : Int) := fun z => hk (by injection z with z; omega)
      rw [if_neg hk2]
      exact val_in nd.2 h
theorem val_out : ∀ {B : List (Nat × List Int)} {k : Nat}, k ∉ B.map (·.1) → valD (KD B) (.inl (k : Int)) = none
  | [], _, _ => rfl
  | b :: B, k, h => by
    rw [List.map_cons, List.mem_cons, not_or] at h
    show (if (Sum.inl (b.1 : Int) : Key) = Sum.inl (k : Int) then some (PI b.2) else valD (KD B) (.inl (k : Int))) = _
    have hk2 : ¬ (Sum.inl (b.1 : Int) : Key) = Sum.inl (k : Int) := fun z => h.1 (by injection z with z; omega)
    rw [if_neg hk2]
    exact val_out h.2
theorem has_out : ∀ {B : List (Nat × List Int)} {k : Nat}, k ∉ B.map (·.1) → hasD (KD B) (.inl (k : Int)) = false
  | [], _, _ => rfl
  | b :: B, k, h => by
    rw [List.map_cons, List.mem_cons, not_or] at h
    have hk2 : ¬ (Sum.inl (b.1 : Int) : Key) = Sum.inl (k : Int) := fun z => h.1 (by injection z with z; omega)
    show (decide ((Sum.inl (b.1 : Int) : Key) = Sum.inl (k : Int)) || hasD (KD B) (.inl (k : Int))) = false
    rw [decide_eq_false hk2, has_out h.2]; rfl
theorem put_new {B : List (Nat × List Int)} {k : Nat} (h : k ∉ B.map (·.1)) (r : List Int) : putD (KD B) (.inl (k : Int)) (PI r) = KD (B ++ [(k, r)]) := by
  unfold putD
  rw [has_out h, if_neg Bool.false_ne_true]
  simp [KD]
theorem keys_KD : ∀ B : List (Nat × List Int), keysI (KD B) = some (B.map fun b => (b.1 : Int))
  | [] => rfl
  | b :: B => by
    show (keysI (KD B)).map ((b.1 : Int) :: ·) = _
    rw [keys_KD B]; rfl
theorem low_KD (n : Nat) : ∀ B : List (Nat × List Int), lowKV n (KD B) = true
  | [] => rfl
  | b :: B => by
    show (low n (PI b.2) && lowKV n (KD B)) = true
    rw [low_KD n B]
    show (lowAll n (LI b.2) && true) = true
    rw [low_LI]; rfl
theorem mem_key {B : List (Nat × List Int)} {k : Nat} (h : k ∈ B.map (·.1)) : ∃ r, (k, r) ∈ B := by
  obtain ⟨b, hb, rfl⟩ := List.mem_map.mp h
  exact ⟨b.2, hb⟩
/-! a row less steps -/
section
variable {p : Int} (hp : pr p) {w : Nat} (hw : w ≤ 1000)
include hp hw
theorem beyond_loop {B : List (Nat × List Int)} (hB : Ech p w B) {d : D} {L : LH} (hd : dictD L d = some (KD B)) {v0 : List Int} : ∀ (m fuel k : Nat) (v : List Int), Row p w v → k ≤ w → w - k ≤ m → m < fuel → (k < w → co v k ≠ 0) → (∀ b ∈ B, b.1 < k → co v b.1 = 0) → Sp p (rowsB B) (fun i => co v i - co v0 i) →
    ∃ u, Row p w u ∧ (∀ b ∈ B, co u b.1 = 0) ∧ Sp p (rowsB B) (fun i => co u i - co v0 i) ∧ whileD (dB (d2 kLt (dVar 3) (dL kLen (daCons (dVar 2) daNil)))) (sSeq (sIf (dB (d2 (kDIn false) (dVar 3) (dVar 1))) (sSet 2 (dCall 4 m_row_less_times (daCons (dVar 0) (daCons (dVar 2) (daCons (d2 kIx (dVar 2) (dVar 3)) (daCons (d2 kDx (dVar 1) (dVar 3)) daNil)))))) sNext) (sSet 3 (dCall 2 m_lead_from (daCons (dVar 2) (daCons (d2 kPlus (dVar 3) (dC (.int 1))) daNil))))) fuel [some (.int p), some d, some (PI v), some (.int (k : Int))] L = .nx [some (.int p), some d, some (PI u), some (.int (w : Int))] L := by
  intro m
  induction m with
  | zero =>
    intro fuel k v hv hk hm hf hne h0 hs
    obtain rfl : k = w := by omega
    obtain ⟨f, rfl⟩ : ∃ f, fuel = f + 1 := ⟨fuel - 1, by omega⟩
    refine ⟨v, hv, fun b hb => h0 b hb (hB.lt b hb), hs, ?_⟩
    refine while_end (L1 := L) (dB_b ((d2_ok (a := .int (k : Int)) (b := .int ((LI v).length : Int)) (L1 := L) (L2 := L) rfl (len_ok rfl)).trans ?_))
    rw [k_lt, List.length_map, hv.n, decide_eq_false (Int.lt_irrefl _)]
  | succ m ih =>
    intro fuel k v hv hk hm hf hne h0 hs
    obtain ⟨f, rfl⟩ : ∃ f, fuel = f + 1 := ⟨fuel - 1, by omega⟩
    have ht : dB (d2 kLt (dVar 3) (dL kLen (daCons (dVar 2) daNil))) [some (.int p), some d, some (PI v), some (.int (k : Int))] L = .ok (decide ((k : Int) < (w : Int))) L := dB_b ((d2_ok (a := .int (k : Int)) (b := .int ((LI v).length : Int)) (L1 := L) (L2 := L) rfl (len_ok rfl)).trans (by rw [k_lt, List.length_map, hv.n]))
    by_cases hkw : k < w
    · rw [decide_eq_true (by omega)] at ht
      -- the row behind this turn
      obtain ⟨v1, hv1, e1, z1, s1, hst⟩ : ∃ v1, Row p w v1 ∧ (∀ i, i < k → co v i = 0 ∨ True) ∧ (∀ b ∈ B, b.1 < k + 1 → co v1 b.1 = 0) ∧ Sp p (rowsB B) (fun i => co v1 i - co v0 i) ∧
          sIf (dB (d2 (kDIn false) (dVar 3) (dVar 1))) (sSet 2 (dCall 4 m_row_less_times (daCons (dVar 0) (daCons (dVar 2) (daCons (d2 kIx (dVar 2) (dVar 3)) (daCons (d2 kDx (dVar 1) (dVar 3)) daNil)))))) sNext [some (.int p), some d, some (PI v), some (.int (k : Int))] L = .nx [some (.int p), some d, some (PI v1), some (.int (k : Int))] L := by
        by_cases hin : k ∈ B.map (·.1)
        · obtain ⟨r, hr⟩ := mem_key hin
          have hval := val_in hB.nd hr
          have hrow := hB.row _ hr
          have sm := Row.sm hp hv k
          refine ⟨addR p (-(co v k)) v r, row_addR hp hv hrow, fun _ _ => .inr trivial, fun b hb hlt => ?_, ?_, ?_⟩
          · rw [co_addR (by rw [hv.n, hrow.n])]
            by_cases e : b.1 = k
            · rw [e, hB.one _ hr]
              have : co v k + -(co v k) * 1 = 0 := by omega
              rw [this]; rfl
            · rw [h0 b hb (by omega), hB.low _ hr b.1 (by show b.1 < k; omega)]; simp
          · refine (hs.lin (-(co v k)) (Sp.mem (List.mem_map.mpr ⟨(k, r), hr, rfl⟩))).cgr fun i => ?_
            rw [co_addR (by rw [hv.n, hrow.n])]
            have := cg_sub (cg_sym (cg_mod (p := p) (a := co v i + -(co v k) * co r i))) (cg_rfl (a := co v0 i))
            refine cg_trans (cg_of ?_) this
            show co v i - co v0 i + -(co v k) * co r i = co v i + -(co v k) * co r i - co v0 i
            omega
          · refine (if_t (dB_b ((d2_ok (a := .int (k : Int)) (b := d) (L1 := L) (L2 := L) rfl rfl).trans ?_))).trans (set_ok ((call4 (a := .int p) (b := PI v) (c := .int (co v k)) (x := PI r) rfl rfl ((d2_ok (a := PI v) (b := .int (k : Int)) (L1 := L) (L2 := L) rfl rfl).trans (seqD_ix (seqT L v) k (by rw [hv.n]; omega))) ((d2_ok (a := d) (b := .int (k : Int)) (L1 := L) (L2 := L) rfl rfl).trans ?_) (less_times_ok (pr_pos hp) (by omega) (by omega) (by rw [hv.n]; omega) L)).trans ?_))
            · unfold kDIn
              rw [hd]
              show R.ok (D.bl (valD (KD B) (.inl (k : Int))).isSome) L = _
              rw [hval]; rfl
            · unfold kDx
              rw [hd]
              show orNo (valD (KD B) (.inl (k : Int))) L = _
              rw [hval]; rfl
            · rw [sub_addR]
        · refine ⟨v, hv, fun _ _ => .inr trivial, fun b hb hlt => h0 b hb ?_, hs, ?_⟩
          · rcases Nat.lt_or_ge b.1 k with z | z
            · exact z
            · have : b.1 = k := by omega
              exact absurd (List.mem_map.mpr ⟨b, hb, this⟩) hin
          · refine (if_f (dB_b ((d2_ok (a := .int (k : Int)) (b := d) (L1 := L) (L2 := L) rfl rfl).trans ?_))).trans rfl
            unfold kDIn
            rw [hd]
            show R.ok (D.bl (valD (KD B) (.inl (k : Int))).isSome) L = _
            rw [val_out hin]; rfl
      have hl := lead_ok (r := v1) (s := k + 1) (by rw [hv1.n]; omega)
      rw [hv1.n] at hl
      obtain ⟨u, u1, u2, u3, u4⟩ := ih f (lead v1 (k + 1)) v1 hv1 hl.2.1 (by omega) (by omega) hl.2.2.2 (fun b hb hlt => by
        rcases Nat.lt_or_ge b.1 (k + 1) with z | z
        · exact z1 b hb z
        · exact hl.2.2.1 b.1 z hlt) s1
      refine ⟨u, u1, u2, u3, (while_go ht ((seq_nx _ _ hst).trans (set_ok ((call_ok (a := [PI v1, .int ((k + 1 : Nat) : Int)]) (ca_ok (L1 := L) rfl (ca_ok (L1 := L) ?_ cn_ok)) rfl).trans (lead_from_ok (by rw [hv1.n]; omega) (by rw [hv1.n]; omega) L))))).trans u4⟩
      refine (d2_ok (a := .int (k : Int)) (b := .int 1) (L1 := L) (L2 := L) rfl rfl).trans ?_
      rw [k_plusI]; rfl
    · obtain rfl : k = w := by omega
      rw [decide_eq_false (Int.lt_irrefl _)] at ht
      exact ⟨v, hv, fun b hb => h0 b hb (hB.lt b hb), hs, while_end ht⟩
theorem beyond_ok {B : List (Nat × List Int)} (hB : Ech p w B) {d : D} {L : LH} (hd : dictD L d = some (KD B)) {v : List Int} (hv : Row p w v) : ∃ u, Row p w u ∧ (∀ b ∈ B, co u b.1 = 0) ∧ Sp p (rowsB B) (fun i => co u i - co v i) ∧ m_row_beyond [.int p, d, PI v] L = .ok (PI u) L := by
  have hl := lead_ok (r := v) (s := 0) (Nat.zero_le _)
  rw [hv.n] at hl
  obtain ⟨u, u1, u2, u3, u4⟩ := beyond_loop hp hw hB hd (v0 := v) w 100000 (lead v 0) v hv hl.2.1 (by omega) (by omega) hl.2.2.2 (fun b hb hlt => hl.2.2.1 b.1 (Nat.zero_le _) hlt) (Sp.zero.cgr fun i => cg_of (by omega))
  refine ⟨u, u1, u2, u3, fnD_rt ((seq_nx _ _ (env1 := [some (.int p), some d, some (PI v), some (.int (lead v 0 : Nat))]) (L1 := L) (set_ok ((call_ok (a := [PI v, .int 0]) (L1 := L) rfl rfl).trans (lead_from_ok (s := 0) (Nat.zero_le _) (by rw [hv.n]; omega) L)))).trans ((seq_nx _ _ u4).trans (ret_ok rfl)))⟩
end
end Law

set_option Elab.async false
set_option linter.all false
set_option maxRecDepth 100000
set_option maxHeartbeats 1000000
namespace Law
open PySem PySem.Spec L2 DL PM
abbrev PT (R : List (List Int)) : D := .tup (R.map PI)
abbrev PL (R : List (List Int)) : D := .lst (R.map PI)
theorem frz_rows (b : Nat) (L : LH) : ∀ R : List (List Int), frzAll b L (R.map PI) = some (R.map PI)
  | [] => rfl
  | r :: R => by
    show frzAll b L (PI r :: R.map PI) = _
    unfold frzAll
    rw [frz_PI, frz_rows b L R]; rfl
theorem frz_PT (b : Nat) (L : LH) (R : List (List Int)) : frzD b L (PT R) = some (PT R) := by
  show (frzAll b L (R.map PI)).map D.tup = _
  rw [frz_rows]; rfl
theorem frz_dic (L : LH) (B : List (Nat × List Int)) : frzD L.length (L ++ [.dic (KD B)]) (.ref L.length) = some (.dic (KD B)) := by
  unfold frzD
  rw [if_neg (Nat.lt_irrefl _)]
  have : (L ++ [LO.dic (KD B)])[L.length]? = some (.dic (KD B)) := by simp
  rw [this]
  show (if lowKV L.length (KD B) = true then some (D.dic (KD B)) else none) = _
  rw [if_pos (low_KD _ B)]
theorem dict_at (L : LH) (B : List (Nat × List Int)) : dictD (L ++ [.dic (KD B)]) (.ref L.length) = some (KD B) := by
  have : (L ++ [LO.dic (KD B)])[L.length]? = some (.dic (KD B)) := by simp
  show (match (L ++ [LO.dic (KD B)])[L.length]? with | some (.dic ks) => some ks | _ => none) = _
  rw [this]
theorem dput_ok {f g h : DE} {env : DEnv} {L0 : LH} {B : List (Nat × List Int)} {k : Nat} {r : List Int} (h1 : h env (L0 ++ [.dic (KD B)]) = .ok (PI r) (L0 ++ [.dic (KD B)])) (h2 : f env (L0 ++ [.dic (KD B)]) = .ok (.ref L0.length) (L0 ++ [.dic (KD B)])) (h3 : g env (L0 ++ [.dic (KD B)]) = .ok (.int (k : Int)) (L0 ++ [.dic (KD B)]))
    (hk : k ∉ B.map (·.1)) (hl : B.length < 100000) : sDSet f g h env (L0 ++ [.dic (KD B)]) = .nx env (L0 ++ [.dic (KD (B ++ [(k, r)]))]) := by
  have e : (L0 ++ [LO.dic (KD B)])[L0.length]? = some (.dic (KD B)) := by simp
  have h4 : kDPut (.ref L0.length) (.int (k : Int)) (PI r) (L0 ++ [.dic (KD B)]) = .ok () (L0 ++ [.dic (KD (B ++ [(k, r)]))]) := by
    unfold kDPut
    show (match (L0 ++ [LO.dic (KD B)])[L0.length]? with
      | some (.dic ks) => if decide (ks.length < 16777216) = true then R.ok () ((L0 ++ [LO.dic (KD B)]).set L0.length (.dic (putD ks (.inl (k : Int)) (PI r)))) else .no
      | _ => .no) = _
    rw [e]
    show (if decide ((KD B).length < 16777216) = true then R.ok () ((L0 ++ [LO.dic (KD B)]).set L0.length (.dic (putD (KD B) (.inl (k : Int)) (PI r)))) else .no) = _
    rw [if_pos (decide_eq_true (by simp [KD]; omega)), put_new hk]
    simp
  unfold sDSet
  simp only [h1, h2, h3, h4, R.toS]
theorem inv_unit {p : Int} (hp : pr p) {a : Int} (h0 : 0 < a) (h1 : a < p) : inv p a * a % p = 1 := by
  have := (inv_ok hp h0 h1).2.2
  rw [Int.mul_comm] at this
  unfold cg at this
  rw [this]
  rcases hp with rfl | rfl | rfl | rfl <;> rfl
section
variable {p : Int} (hp : pr p) {w : Nat} (hw : w ≤ 1000)
include hp hw
theorem step_loop (L0 : LH) (R0 : Option D) : ∀ (rs done : List (List Int)) (B : List (Nat × List Int)) (x3 x4 x5 : Option D), (∀ r ∈ rs, Row p w r) → Ech p w B → Same p (rowsB B) done → B.length + rs.length < 10000 → ∃ B' y3 y4 y5, Ech p w B' ∧ Same p (rowsB B') (done ++ rs) ∧ B'.length ≤ B.length + rs.length ∧
    forD (gSet 3) (sSeq (sSet 4 (dCall 3 m_row_beyond (daCons (dVar 0) (daCons (dVar 2) (daCons (dVar 3) daNil))))) (sSeq (sSet 5 (dCall 2 m_lead_from (daCons (dVar 4) (daCons (dC (.int 0)) daNil)))) (sIf (dB (d2 kLt (dVar 5) (dL kLen (daCons (dVar 4) daNil)))) (sDSet (dVar 2) (dVar 5) (dCall 3 m_row_times (daCons (dVar 0) (daCons (dCall 2 m_undone_number (daCons (dVar 0) (daCons (d2 kIx (dVar 4) (dVar 5)) daNil))) (daCons (dVar 4) daNil))))) sNext))) (rs.map PI) [some (.int p), R0, some (.ref L0.length), x3, x4, x5] (L0 ++ [.dic (KD B)]) = .nx [some (.int p), R0, some (.ref L0.length), y3, y4, y5] (L0 ++ [.dic (KD B')])
  | [], done, B, x3, x4, x5, _, hB, hs, _ => ⟨B, x3, x4, x5, hB, by rw [List.append_nil]; exact hs, by simp, rfl⟩
  | v :: rs, done, B, x3, x4, x5, hr, hB, hs, hl => by
    have hv := hr v (by simp)
    simp only [List.length_cons] at hl
    obtain ⟨u, hu, u0, us, hcall⟩ := beyond_ok hp hw hB (dict_at L0 B) hv
    have hk := lead_ok (r := u) (s := 0) (Nat.zero_le _)
    rw [hu.n] at hk
    have hlead := lead_from_ok (r := u) (s := 0) (Nat.zero_le _) (by rw [hu.n]; omega) (L0 ++ [.dic (KD B)])
    generalize hkk : lead u 0 = k at hk hlead
    have ht : dB (d2 kLt (dVar 5) (dL kLen (daCons (dVar 4) daNil))) [some (.int p), R0, some (.ref L0.length), some (PI v), some (PI u), some (.int (k : Int))] (L0 ++ [.dic (KD B)]) = .ok (decide ((k : Int) < (w : Int))) (L0 ++ [.dic (KD B)]) := dB_b ((d2_ok (a := .int (k : Int)) (b := .int ((LI u).length : Int)) rfl (len_ok rfl)).trans (by rw [k_lt, List.length_map, hu.n]))
    have usd : Sp p done (fun i => co u i - co v i) := hs.to us
    by_cases hkw : k < w
    · rw [decide_eq_true (by omega)] at ht
      have hne := hk.2.2.2 hkw
      have hsm := Row.sm hp hu k
      have hi := inv_ok hp (show 0 < co u k by omega) hsm.2.1
      have hone := inv_unit hp (show 0 < co u k by omega) hsm.2.1
      have hout : k ∉ B.map (·.1) := fun h => by
        obtain ⟨b, hb, e⟩ := List.mem_map.mp h
        exact hne (by rw [← e]; exact u0 b hb)
      have hB1 : Ech p w (B ++ [(k, mulR p (inv p (co u k)) u)]) := by
        refine ⟨fun b hb => ?_, fun b hb => ?_, fun b hb => ?_, fun b hb i hi' => ?_, ?_⟩
        · rcases List.mem_append.mp hb with q | q
          · exact hB.row b q
          · rw [List.mem_singleton.mp q]; exact row_mulR hp hu
        · rcases List.mem_append.mp hb with q | q
          · exact hB.lt b q
          · rw [List.mem_singleton.mp q]; exact hkw
        · rcases List.mem_append.mp hb with q | q
          · exact hB.one b q
          · rw [List.mem_singleton.mp q, co_mulR]; exact hone
        · rcases List.mem_append.mp hb with q | q
          · exact hB.low b q i hi'
          · rw [List.mem_singleton.mp q] at hi' ⊢
            rw [co_mulR, hk.2.2.1 i (Nat.zero_le _) hi']; simp
        · rw [List.map_append, List.nodup_append]
          exact ⟨hB.nd, by simp, fun a ha b hb => by
            rw [List.mem_singleton.mp hb]
            exact fun e => hout (by have e' : a = k := e; rw [← e']; exact ha)⟩
      have hs1 : Same p (rowsB (B ++ [(k, mulR p (inv p (co u k)) u)])) (done ++ [v]) := by
        have hv1 : Sp p (done ++ [v]) (co v) := .mem (by simp)
        have hus : Sp p (done ++ [v]) (co u) := (hv1.lin 1 (usd.mono fun r h => by simp [h])).cgr fun i => cg_of (by omega)
        have hmem : Sp p (rowsB (B ++ [(k, mulR p (inv p (co u k)) u)])) (co (mulR p (inv p (co u k)) u)) := .mem (by simp)
        have hu2 : Sp p (rowsB (B ++ [(k, mulR p (inv p (co u k)) u)])) (co u) := (hmem.smul (co u k)).cgr fun i => by
          rw [co_mulR]
          refine cg_trans (cg_mul cg_rfl cg_mod) ?_
          rw [← Int.mul_assoc]
          have := cg_mul hi.2.2 (cg_rfl (a := co u i))
          rwa [Int.one_mul] at this
        refine ⟨fun r hr => ?_, fun r hr => ?_⟩
        · rw [rowsB, List.map_append, List.mem_append] at hr
          rcases hr with q | q
          · exact (hs.l r q).mono fun r h => by simp [h]
          · rw [List.mem_singleton.mp q]; exact sp_mulR hus
        · rcases List.mem_append.mp hr with q | q
          · exact (hs.r r q).mono fun r h => by simp only [rowsB, List.map_append, List.mem_append]; exact .inl h
          · rw [List.mem_singleton.mp q]
            exact (hu2.sub (us.mono fun r h => by simp only [rowsB, List.map_append, List.mem_append]; exact .inl h)).cgr fun i => cg_of (by omega)
      obtain ⟨B', y3, y4, y5, r1, r2, r3, r4⟩ := step_loop L0 R0 rs (done ++ [v]) _ (some (PI v)) (some (PI u)) (some (.int (k : Int))) (fun r h => hr r (by simp [h])) hB1 hs1 (by simp; omega)
      refine ⟨B', y3, y4, y5, r1, by rw [List.append_assoc] at r2; exact r2, by simp at r3 ⊢; omega, ?_⟩
      refine (for_go (env1 := [some (.int p), R0, some (.ref L0.length), some (PI v), x4, x5]) rfl ?_).trans r4
      refine (seq_nx _ _ (env1 := [some (.int p), R0, some (.ref L0.length), some (PI v), some (PI u), x5]) (set_ok (call3 rfl rfl rfl hcall))).trans ?_
      refine (seq_nx _ _ (env1 := [some (.int p), R0, some (.ref L0.length), some (PI v), some (PI u), some (.int (k : Int))]) (set_ok ((call_ok (a := [PI u, .int ((0 : Nat) : Int)]) rfl rfl).trans hlead))).trans ?_
      refine (if_t ht).trans (dput_ok ?_ rfl rfl hout (by omega))
      refine call3 (a := .int p) (b := .int (inv p (co u k))) (c := PI u) rfl ((call_ok (a := [.int p, .int (co u k)]) (ca_ok rfl (ca_ok ((d2_ok (a := PI u) (b := .int (k : Int)) rfl rfl).trans (seqD_ix (seqT _ u) k (by rw [hu.n]; omega))) cn_ok)) rfl).trans (undone_ok hp (by omega) hsm.2.1 _)) rfl (row_times_ok (pr_pos hp) (by omega) (by omega) (by rw [hu.n]; omega) _)
    · rw [decide_eq_false (by omega)] at ht
      have hz : ∀ i, co u i = 0 := fun i => by
        rcases Nat.lt_or_ge i k with z | z
        · exact hk.2.2.1 i (Nat.zero_le _) z
        · exact co_ge (by rw [hu.n]; omega)
      have hs1 : Same p (rowsB B) (done ++ [v]) := by
        refine ⟨fun r hr => (hs.l r hr).mono fun r h => by simp [h], fun r hr => ?_⟩
        rcases List.mem_append.mp hr with q | q
        · exact hs.r r q
        · rw [List.mem_singleton.mp q]
          exact (us.smul (-1)).cgr fun i => cg_of (by rw [hz]; omega)
      obtain ⟨B', y3, y4, y5, r1, r2, r3, r4⟩ := step_loop L0 R0 rs (done ++ [v]) B (some (PI v)) (some (PI u)) (some (.int (k : Int))) (fun r h => hr r (by simp [h])) hB hs1 (by omega)
      refine ⟨B', y3, y4, y5, r1, by rw [List.append_assoc] at r2; exact r2, by simp; omega, ?_⟩
      refine (for_go (env1 := [some (.int p), R0, some (.ref L0.length), some (PI v), x4, x5]) rfl ?_).trans r4
      refine (seq_nx _ _ (env1 := [some (.int p), R0, some (.ref L0.length), some (PI v), some (PI u), x5]) (set_ok (call3 rfl rfl rfl hcall))).trans ?_
      refine (seq_nx _ _ (env1 := [some (.int p), R0, some (.ref L0.length), some (PI v), some (PI u), some (.int (k : Int))]) (set_ok ((call_ok (a := [PI u, .int ((0 : Nat) : Int)]) rfl rfl).trans hlead))).trans ?_
      exact (if_f ht).trans rfl
theorem stepped_ok {rs : List (List Int)} (hr : ∀ r ∈ rs, Row p w r) (hl : rs.length < 10000) {d : D} (hd : itemsV d = some (rs.map PI)) {L : LH} (hL : Low L) : ∃ B, Ech p w B ∧ Same p (rowsB B) rs ∧ B.length ≤ rs.length ∧ m_stepped [.int p, d] L = .ok (.dic (KD B)) L := by
  obtain ⟨B, y3, y4, y5, r1, r2, r3, r4⟩ := step_loop hp hw L (some d) rs [] [] none none none hr ⟨(fun _ h => nomatch h), (fun _ h => nomatch h), (fun _ h => nomatch h), (fun _ h => nomatch h), List.nodup_nil⟩ Same.refl (by simpa using hl)
  refine ⟨B, r1, r2, by simpa using r3, fnD_low (ex := [.dic (KD B)]) (d := .ref L.length) ?_ (by simp) (frz_dic L B) hL⟩
  refine (seq_nx _ _ (env1 := [some (.int p), some d, some (.ref L.length), none, none, none]) (L1 := L ++ [.dic (KD [])]) rfl).trans ((seq_nx _ _ ?_).trans (ret_ok (f := dVar 2) (env := [some (.int p), some d, some (.ref L.length), y3, y4, y5]) (L := L ++ [.dic (KD B)]) (d := .ref L.length) (L1 := L ++ [.dic (KD B)]) rfl))
  have hi : iVal (dVar 1) [some (.int p), some d, some (.ref L.length), none, none, none] (L ++ [LO.dic (KD [])]) = .ok (rs.map PI) (L ++ [LO.dic (KD [])]) := by
    show (match itemsV d with | some xs => R.ok xs (L ++ [LO.dic (KD [])]) | none => .no) = _
    rw [hd]
  rw [ev_for, hi, toS_ok]
  exact r4
end
end Law

set_option Elab.async false
set_option linter.all false
set_option maxRecDepth 100000
set_option maxHeartbeats 1000000
namespace Law
open PySem PySem.Spec L2 DL PM
/-! sorted keys -/
theorem revI_perm (b : Bool) (l : List Int) : (revI b l).Perm l := by
  cases b with
  | false => exact srtI_perm l
  | true => exact (List.reverse_perm _).trans (srtI_perm l)
theorem nat_keys (b : Bool) (l : List Nat) (nd : l.Nodup) : ∃ ks : List Nat, revI b (l.map fun k : Nat => (k : Int)) = ks.map (fun k : Nat => (k : Int)) ∧ ks.Perm l ∧ (if b = true then ks.Pairwise (· > ·) else ks.Pairwise (· < ·)) := by
  have hp := revI_perm b (l.map fun k : Nat => (k : Int))
  have h0 : ∀ x ∈ revI b (l.map fun k : Nat => (k : Int)), 0 ≤ x := fun x hx => by
    obtain ⟨k, _, rfl⟩ := List.mem_map.mp (hp.mem_iff.mp hx)
    omega
  have e1 : ∀ m : List Int, (∀ x ∈ m, 0 ≤ x) → (m.map Int.toNat).map (fun k : Nat => (k : Int)) = m := fun m hm => by
    rw [List.map_map]
    conv => rhs; rw [← List.map_id m]
    refine List.map_congr_left fun x hx => ?_
    have := hm x hx
    show ((x.toNat : Nat) : Int) = x
    omega
  have e2 : (revI b (l.map fun k : Nat => (k : Int))).map Int.toNat = (revI b (l.map fun k : Nat => (k : Int))).map Int.toNat := rfl
  have hperm : ((revI b (l.map fun k : Nat => (k : Int))).map Int.toNat).Perm l := by
    have := hp.map Int.toNat
    rw [List.map_map] at this
    have e3 : l.map (Int.toNat ∘ fun k : Nat => (k : Int)) = l := by
      conv => rhs; rw [← List.map_id l]
      exact List.map_congr_left fun x _ => by simp
    rwa [e3] at this
  have hnd := hperm.nodup_iff.mpr nd
  refine ⟨_, (e1 _ h0).symm, hperm, ?_⟩
  cases b with
  | true =>
    rw [if_pos rfl]
    have hs : (revI true (l.map fun k : Nat => (k : Int))).Pairwise (· ≥ ·) := by
      show ((srtI _).reverse).Pairwise (· ≥ ·)
      rw [List.pairwise_reverse]
      exact srtI_srt _
    rw [List.pairwise_map]
    have hn2 : (revI true (l.map fun k : Nat => (k : Int))).Pairwise (fun a b => a.toNat ≠ b.toNat) := by
      have := hnd
      unfold List.Nodup at this
      rwa [List.pairwise_map] at this
    exact (hs.and hn2).imp (fun {a b} h => by have h1 : a ≥ b := h.1; have h2 := h.2; omega)
  | false =>
    rw [if_neg Bool.false_ne_true]
    have hs : (revI false (l.map fun k : Nat => (k : Int))).Pairwise (· ≤ ·) := srtI_srt _
    rw [List.pairwise_map]
    have hn2 : (revI false (l.map fun k : Nat => (k : Int))).Pairwise (fun a b => a.toNat ≠ b.toNat) := by
      have := hnd
      unfold List.Nodup at this
      rwa [List.pairwise_map] at this
    refine (hs.and hn2).imp_of_mem (fun {a b} ha hb h => ?_)
    have h1 : a ≤ b := h.1
    have h2 := h.2
    have := h0 a ha
    have := h0 b hb
    omega
def rowAt (B : List (Nat × List Int)) (k : Nat) : List Int := ((B.find? fun b => decide (b.1 = k)).map (·.2)).getD []
theorem rowAt_in : ∀ {B : List (Nat × List Int)} {k : Nat} {r : List Int}, (B.map (·.1)).Nodup → (k, r) ∈ B → rowAt B k = r
  | b :: B, k, r, nd, h => by
    rw [List.map_cons, List.nodup_cons] at nd
    unfold rowAt
    rcases List.mem_cons.mp h with e | h
    · rw [← e]; simp
    · have hk : b.1 ≠ k := fun e => nd.1 (List.mem_map.mpr ⟨(k, r), h, e.symm⟩)
      rw [List.find?_cons, decide_eq_false hk]
      exact rowAt_in nd.2 h
theorem sortD_ok {b : Bool} {L : LH} {d : D} {B : List (Nat × List Int)} {ks : List Nat} (hd : dictD L d = some (KD B)) (hl : B.length < 64) (hk : revI b ((B.map (·.1)).map fun k : Nat => (k : Int)) = ks.map (fun k : Nat => (k : Int))) : kSortD b [d] L = .ok (D.lst (ks.map fun k : Nat => D.int (k : Int))) L := by
  show (match dictD L d with
    | some ks => (match keysI ks with
      | some is => if decide (is.length < 64) = true then R.ok (D.lst ((revI b is).map D.int)) L else .no
      | none => .no)
    | none => .no) = _
  rw [hd]
  show (match keysI (KD B) with
      | some is => if decide (is.length < 64) = true then R.ok (D.lst ((revI b is).map D.int)) L else .no
      | none => .no) = _
  rw [keys_KD]
  show (if decide ((B.map fun b => (b.1 : Int)).length < 64) = true then R.ok (D.lst ((revI b (B.map fun b => (b.1 : Int))).map D.int)) L else .no) = _
  rw [if_pos (decide_eq_true (by simpa using hl))]
  have e : (B.map fun b => (b.1 : Int)) = (B.map (·.1)).map fun k : Nat => (k : Int) := by rw [List.map_map]; rfl
  rw [e, hk, List.map_map]
  rfl
section
variable {p : Int} (hp : pr p) {w : Nat} (hw : w ≤ 1000)
include hp hw
theorem red_loop (L0 : LH) (R0 : Option D) {B : List (Nat × List Int)} (hB : Ech p w B) : ∀ (ks : List Nat) (D' : List (Nat × List Int)) (x4 : Option D), Bas p w D' → (∀ k ∈ ks, ∀ d ∈ D', k < d.1) → ks.Pairwise (· > ·) → (∀ b ∈ B, b.1 ∈ ks ∨ Sp p (rowsB D') (co b.2)) → (∀ d ∈ D', Sp p (rowsB B) (co d.2)) → (∀ k ∈ ks, ∃ r, (k, r) ∈ B) → D'.length + ks.length < 10000 →
    ∃ D2 y4, Bas p w D2 ∧ Same p (rowsB D2) (rowsB B) ∧ D2.length = D'.length + ks.length ∧ forD (gSet 4) (sDSet (dVar 3) (dVar 4) (dCall 3 m_row_beyond (daCons (dVar 0) (daCons (dVar 3) (daCons (d2 kDx (dVar 2) (dVar 4)) daNil))))) (ks.map fun k : Nat => D.int (k : Int)) [some (.int p), R0, some (.dic (KD B)), some (.ref L0.length), x4] (L0 ++ [.dic (KD D')]) = .nx [some (.int p), R0, some (.dic (KD B)), some (.ref L0.length), y4] (L0 ++ [.dic (KD D2)])
  | [], D', x4, h1, _, _, h4, h5, _, _ => ⟨D', x4, h1, ⟨fun r hr => by
      obtain ⟨d, hd, rfl⟩ := List.mem_map.mp hr
      exact h5 d hd, fun r hr => by
      obtain ⟨b, hb, rfl⟩ := List.mem_map.mp hr
      exact (h4 b hb).resolve_left (fun z => nomatch z)⟩, by simp, rfl⟩
  | k :: ks, D', x4, h1, h2, h3, h4, h5, h6, hl => by
    rw [List.pairwise_cons] at h3
    simp only [List.length_cons] at hl
    obtain ⟨r, hr⟩ := h6 k (by simp)
    have hrow := hB.row _ hr
    obtain ⟨u, hu, u0, us, hcall⟩ := beyond_ok hp hw h1.toEch (dict_at L0 D') hrow
    have hlow : ∀ i, i ≤ k → co u i = co r i := fun i hi => by
      have h0 : cg p (co u i - co r i) 0 := us.low (k := i) fun q hq => by
        obtain ⟨d, hd, rfl⟩ := List.mem_map.mp hq
        exact h1.low d hd i (Nat.lt_of_le_of_lt hi (h2 k (by simp) d hd))
      have := cg_add h0 (cg_rfl (a := co r i))
      rw [Int.sub_add_cancel, Int.zero_add] at this
      exact cg_eq this (hu.r i).1 (hu.r i).2 (hrow.r i).1 (hrow.r i).2
    have hout : k ∉ D'.map (·.1) := fun h => by
      obtain ⟨d, hd, e⟩ := List.mem_map.mp h
      have := h2 k (by simp) d hd
      omega
    have hbase : Bas p w (D' ++ [(k, u)]) := by
      refine ⟨⟨fun b hb => ?_, fun b hb => ?_, fun b hb => ?_, fun b hb i hi' => ?_, ?_⟩, fun b hb c hc hne => ?_⟩
      · rcases List.mem_append.mp hb with q | q
        · exact h1.row b q
        · rw [List.mem_singleton.mp q]; exact hu
      · rcases List.mem_append.mp hb with q | q
        · exact h1.lt b q
        · rw [List.mem_singleton.mp q]; exact hB.lt (k, r) hr
      · rcases List.mem_append.mp hb with q | q
        · exact h1.one b q
        · rw [List.mem_singleton.mp q]; exact (hlow k (Nat.le_refl _)).trans (hB.one _ hr)
      · rcases List.mem_append.mp hb with q | q
        · exact h1.low b q i hi'
        · rw [List.mem_singleton.mp q] at hi' ⊢
          exact (hlow i (Nat.le_of_lt hi')).trans (hB.low _ hr i hi')
      · rw [List.map_append, List.nodup_append]
        exact ⟨h1.nd, by simp, fun a ha b hb => by
          rw [List.mem_singleton.mp hb]
          exact fun e => hout (by have e' : a = k := e; rw [← e']; exact ha)⟩
      · rcases List.mem_append.mp hb with q | q <;> rcases List.mem_append.mp hc with q2 | q2
        · exact h1.off b q c q2 hne
        · rw [List.mem_singleton.mp q2]; exact h1.low b q k (h2 k (by simp) b q)
        · rw [List.mem_singleton.mp q]; exact u0 c q2
        · rw [List.mem_singleton.mp q, List.mem_singleton.mp q2] at hne; exact absurd rfl hne
    have hsub : ∀ q ∈ rowsB D', q ∈ rowsB (D' ++ [(k, u)]) := fun q hq => by simp only [rowsB, List.map_append, List.mem_append]; exact .inl hq
    have hDB : ∀ q ∈ rowsB D', Sp p (rowsB B) (co q) := fun q hq => by
      obtain ⟨d, hd, rfl⟩ := List.mem_map.mp hq
      exact h5 d hd
    have hru : Sp p (rowsB (D' ++ [(k, u)])) (co r) := ((Sp.mem (r := u) (by simp)).sub (us.mono hsub)).cgr fun i => cg_of (by show co u i - (co u i - co r i) = co r i; omega)
    have huB : Sp p (rowsB B) (co u) := ((Sp.mem (List.mem_map.mpr ⟨(k, r), hr, rfl⟩)).lin 1 (us.trans hDB)).cgr fun i => cg_of (by show co r i + 1 * (co u i - co r i) = co u i; omega)
    obtain ⟨D2, y4, r1, r2, r3, r4⟩ := red_loop L0 R0 hB ks (D' ++ [(k, u)]) (some (.int (k : Int))) hbase (fun j hj d hd => by
      rcases List.mem_append.mp hd with q | q
      · exact h2 j (by simp [hj]) d q
      · rw [List.mem_singleton.mp q]; exact h3.1 j hj) h3.2 (fun b hb => by
      rcases h4 b hb with q | q
      · rcases List.mem_cons.mp q with q | q
        · have e : b.2 = r := by
            have h7 := rowAt_in hB.nd (k := b.1) (r := b.2) hb
            have h8 := rowAt_in hB.nd hr
            rw [q] at h7
            rw [← h7, h8]
          rw [e]
          exact .inr hru
        · exact .inl q
      · exact .inr (q.mono hsub)) (fun d hd => by
      rcases List.mem_append.mp hd with q | q
      · exact h5 d q
      · rw [List.mem_singleton.mp q]; exact huB) (fun j hj => h6 j (by simp [hj])) (by simp; omega)
    refine ⟨D2, y4, r1, r2, by simp at r3 ⊢; omega, ?_⟩
    refine (for_go (env1 := [some (.int p), R0, some (.dic (KD B)), some (.ref L0.length), some (.int (k : Int))]) rfl (dput_ok (call3 (a := .int p) (b := .ref L0.length) (c := PI r) rfl rfl ((d2_ok (a := .dic (KD B)) (b := .int (k : Int)) rfl rfl).trans ?_) hcall) rfl rfl hout (by omega))).trans r4
    unfold kDx
    show orNo (valD (KD B) (.inl (k : Int))) _ = _
    rw [val_in hB.nd hr]; rfl
theorem reduced_ok {rs : List (List Int)} (hr : ∀ r ∈ rs, Row p w r) (hl : rs.length < 64) {d : D} (hd : itemsV d = some (rs.map PI)) {L : LH} (hL : Low L) : ∃ R, IsB p w R ∧ Same p R rs ∧ R.length ≤ rs.length ∧ m_reduced [.int p, d] L = .ok (PT R) L := by
  obtain ⟨B, hB, hs, hbl, hst⟩ := stepped_ok hp hw hr (by omega) hd hL
  obtain ⟨ks, k1, k2, k3⟩ := nat_keys true (B.map (·.1)) hB.nd
  rw [if_pos rfl] at k3
  obtain ⟨D2, y4, r1, r2, r3, r4⟩ := red_loop hp hw L (some d) hB ks [] none ⟨⟨(fun _ h => nomatch h), (fun _ h => nomatch h), (fun _ h => nomatch h), (fun _ h => nomatch h), List.nodup_nil⟩, fun _ h => nomatch h⟩ (fun _ _ _ h => nomatch h) k3 (fun b hb => .inl (k2.mem_iff.mpr (List.mem_map.mpr ⟨b, hb, rfl⟩))) (fun _ h => nomatch h) (fun k hk => mem_key (k2.mem_iff.mp hk)) (by have := k2.length_eq; rw [List.length_map] at this; simp; omega)
  have hlk : ks.length = B.length := by have := k2.length_eq; rwa [List.length_map] at this
  have hD2l : D2.length ≤ rs.length := by simp at r3; omega
  obtain ⟨js, j1, j2, j3⟩ := nat_keys false (D2.map (·.1)) r1.nd
  rw [if_neg Bool.false_ne_true] at j3
  have hmem : ∀ b : Nat × List Int, b ∈ js.map (fun k => (k, rowAt D2 k)) ↔ b ∈ D2 := fun b => by
    constructor
    · intro h
      obtain ⟨k, hk, rfl⟩ := List.mem_map.mp h
      obtain ⟨r, hr'⟩ := mem_key (j2.mem_iff.mp hk)
      rw [rowAt_in r1.nd hr']; exact hr'
    · intro h
      refine List.mem_map.mpr ⟨b.1, j2.mem_iff.mpr (List.mem_map.mpr ⟨b, h, rfl⟩), ?_⟩
      rw [rowAt_in r1.nd (k := b.1) (r := b.2) h]
  have hfst : (js.map (fun k => (k, rowAt D2 k))).map (·.1) = js := by rw [List.map_map]; exact (List.map_congr_left (fun _ _ => rfl)).trans (List.map_id js)
  have hbas : Bas p w (js.map (fun k => (k, rowAt D2 k))) := ⟨⟨fun b hb => r1.row b ((hmem b).mp hb), fun b hb => r1.lt b ((hmem b).mp hb), fun b hb => r1.one b ((hmem b).mp hb), fun b hb => r1.low b ((hmem b).mp hb), by rw [hfst]; exact j2.nodup_iff.mpr r1.nd⟩, fun b hb c hc => r1.off b ((hmem b).mp hb) c ((hmem c).mp hc)⟩
  have hsame : Same p (rowsB (js.map (fun k => (k, rowAt D2 k)))) (rowsB D2) := by
    refine ⟨fun r hr' => ?_, fun r hr' => ?_⟩
    · obtain ⟨b, hb, rfl⟩ := List.mem_map.mp hr'
      exact .mem (List.mem_map.mpr ⟨b, (hmem b).mp hb, rfl⟩)
    · obtain ⟨b, hb, rfl⟩ := List.mem_map.mp hr'
      exact .mem (List.mem_map.mpr ⟨b, (hmem b).mpr hb, rfl⟩)
  refine ⟨rowsB (js.map (fun k => (k, rowAt D2 k))), ⟨_, hbas, ?_, rfl⟩, (hsame.trans r2).trans hs, ?_, ?_⟩
  · unfold Asc
    rw [List.pairwise_map]
    exact j3
  · rw [List.length_map, List.length_map, j2.length_eq, List.length_map]; exact hD2l
  refine fnD_low (ex := [.dic (KD D2)]) (d := PT (rowsB (js.map (fun k => (k, rowAt D2 k))))) ?_ (by simp) (frz_PT _ _ _) hL
  refine (seq_nx _ _ (env1 := [some (.int p), some d, some (.dic (KD B)), none, none]) (L1 := L) (set_ok ((call_ok (a := [.int p, d]) (L1 := L) rfl rfl).trans hst))).trans ?_
  refine (seq_nx _ _ (env1 := [some (.int p), some d, some (.dic (KD B)), some (.ref L.length), none]) (L1 := L ++ [.dic (KD [])]) rfl).trans ?_
  have hi : iVal (dL (kSortD true) (daCons (dVar 2) daNil)) [some (.int p), some d, some (.dic (KD B)), some (.ref L.length), none] (L ++ [LO.dic (KD [])]) = .ok (ks.map fun k : Nat => D.int (k : Int)) (L ++ [LO.dic (KD [])]) := by
    unfold iVal
    rw [(dL_ok (ca_ok (a := .dic (KD B)) (L1 := L ++ [.dic (KD [])]) rfl cn_ok)).trans (sortD_ok rfl (by omega) k1)]
    rfl
  refine (seq_nx _ _ (by rw [ev_for, hi, toS_ok]; exact r4)).trans ?_
  refine ret_ok ((dL_ok (ca_ok (a := .lst (js.map fun k => PI (rowAt D2 k))) (L1 := L ++ [.dic (KD D2)]) ?_ cn_ok)).trans ?_)
  · have hi2 : iVal (dL (kSortD false) (daCons (dVar 3) daNil)) [some (.int p), some d, some (.dic (KD B)), some (.ref L.length), y4] (L ++ [LO.dic (KD D2)]) = .ok (js.map fun k : Nat => D.int (k : Int)) (L ++ [LO.dic (KD D2)]) := by
      unfold iVal
      rw [(dL_ok (ca_ok (a := .ref L.length) (L1 := L ++ [.dic (KD D2)]) rfl cn_ok)).trans (sortD_ok (dict_at L D2) (by omega) j1)]
      rfl
    refine dLc_ok (items := js.map fun k : Nat => D.int (k : Int)) hi2 (by have := j2.length_eq; rw [List.length_map] at this; simp; omega) ?_
    have := lc_map (k := gSet 4) (vs := [4]) (e := d2 kDx (dVar 3) (dVar 4)) (env := [some (.int p), some d, some (.dic (KD B)), some (.ref L.length), y4]) (L := L ++ [.dic (KD D2)]) (g := fun d => match d with | .int i => PI (rowAt D2 i.toNat) | d => d) (js.map fun k : Nat => D.int (k : Int)) (fun e he => by
      obtain ⟨k, hk, rfl⟩ := List.mem_map.mp he
      obtain ⟨r, hr'⟩ := mem_key (j2.mem_iff.mp hk)
      refine ⟨[some (.int p), some d, some (.dic (KD B)), some (.ref L.length), some (.int (k : Int))], rfl, (d2_ok (a := .ref L.length) (b := .int (k : Int)) rfl rfl).trans ?_⟩
      unfold kDx
      rw [dict_at]
      show orNo (valD (KD D2) (.inl (k : Int))) _ = R.ok (PI (rowAt D2 ((k : Nat) : Int).toNat)) _
      rw [val_in r1.nd hr', Int.toNat_natCast, rowAt_in r1.nd hr']; rfl)
    rw [this, List.map_map]
    congr 1
  · show R.ok (D.tup (js.map fun k => PI (rowAt D2 k))) _ = R.ok (D.tup ((rowsB (js.map (fun k => (k, rowAt D2 k)))).map PI)) _
    rw [rowsB, List.map_map, List.map_map]
    rfl
end
end Law

set_option Elab.async false
set_option linter.all false
set_option maxRecDepth 100000
set_option maxHeartbeats 1000000
namespace Law
open PySem PySem.Spec L2 DL PM
theorem rangeD_succ (s n : Nat) : rangeD (s : Int) (n + 1) = .int (s : Int) :: rangeD ((s + 1 : Nat) : Int) n := by
  unfold rangeD
  rw [List.range_succ_eq_map, List.map_cons, List.map_map]
  have h0 : D.int ((s : Int) + ((0 : Nat) : Int)) = D.int (s : Int) := by simp
  rw [h0]
  congr 1
  refine List.map_congr_left fun i _ => ?_
  show D.int ((s : Int) + ((i + 1 : Nat) : Int)) = D.int (((s + 1 : Nat) : Int) + (i : Int))
  congr 1
  omega
theorem lc_sel {i : Nat} {t : DT} {env : DEnv} {L : LH} {q : List Int → Bool} : ∀ rs : List (List Int), (∀ r ∈ rs, t ((wipeD env [i]).set i (some (PI r))) L = .ok (q r) L ∧ dVar i ((wipeD env [i]).set i (some (PI r))) L = .ok (PI r) L) → lcD (gSet i) [i] t (dVar i) env (rs.map PI) L = .ok ((rs.filter q).map PI) L
  | [], _ => rfl
  | r :: rs, h => by
    have ih := lc_sel rs (fun x hx => h x (by simp [hx]))
    obtain ⟨h1, h2⟩ := h r (by simp)
    cases hb : q r with
    | true => rw [hb] at h1; rw [List.filter_cons_of_pos hb]; exact lc_cons (d := PI r) (ds := rs.map PI) rfl h1 h2 ih
    | false => rw [hb] at h1; rw [List.filter_cons_of_neg (by simp [hb])]; exact lc_skip (d := PI r) (ds := rs.map PI) rfl h1 ih
theorem lc_rows {i : Nat} {e : DE} {env : DEnv} {L : LH} {f : List Int → List Int} (rs : List (List Int)) (h : ∀ r ∈ rs, e ((wipeD env [i]).set i (some (PI r))) L = .ok (PI (f r)) L) : lcD (gSet i) [i] dYes e env (rs.map PI) L = .ok ((rs.map f).map PI) L := by
  induction rs with
  | nil => rfl
  | cons r rs ih => exact lc_cons (d := PI r) (ds := rs.map PI) rfl rfl (h r (by simp)) (ih fun x hx => h x (by simp [hx]))
theorem intsD_LI : ∀ l : List Int, intsD (LI l) = some l
  | [] => rfl
  | a :: l => by
    show (intsD (LI l)).map (a :: ·) = _
    rw [intsD_LI l]; rfl
theorem max_ok {r : List Int} (hr : r ≠ []) {f : DE} {env : DEnv} {L : LH} (h : f env L = .ok (PI r) L) : dL kMax (daCons f daNil) env L = .ok (.int (maxI r)) L := by
  refine (dL_ok (ca_ok h cn_ok)).trans ?_
  show (match intsD (LI r) with
      | some (i :: is) => R.ok (D.int (maxI (i :: is))) L
      | _ => .no) = _
  rw [intsD_LI]
  cases r with
  | nil => exact absurd rfl hr
  | cons a l => rfl
theorem max_zero {p : Int} {w : Nat} {r : List Int} (hr : Row p w r) (hw : 0 < w) : (maxI r = 0 ↔ ∀ i, co r i = 0) ∧ 0 ≤ maxI r := by
  have hne : r ≠ [] := fun e => by have := hr.n; rw [e] at this; simp at this; omega
  obtain ⟨h1, h2⟩ := maxI_ok hne
  obtain ⟨j, hj, e⟩ := mem_co h1
  refine ⟨⟨fun h i => ?_, fun h => by rw [← e, h j]⟩, by rw [← e]; exact (hr.r j).1⟩
  rcases Nat.lt_or_ge i r.length with z | z
  · have := h2 _ (co_mem z)
    have := (hr.r i).1
    omega
  · exact co_ge z
/-- rows that are not 0 -/
def nzR (r : List Int) : Bool := decide (0 < maxI r)
def mapF (p : Int) (k : Nat) (head : List Int) (r : List Int) : List Int := addR p (0 - co r k) r head
section
variable {p : Int} (hp : pr p) {w : Nat}
include hp
theorem sp_map {R : List (List Int)} {k : Nat} {head r : List Int} (hh : Row p w head) (hr : Row p w r) (h1 : Sp p R (co head)) (h2 : Sp p R (co r)) : Sp p R (co (mapF p k head r)) := sp_addR hr hh h2 h1
theorem sp_unmap {R : List (List Int)} {k : Nat} {head r : List Int} (hh : Row p w head) (hr : Row p w r) (h1 : Sp p R (co head)) (h2 : Sp p R (co (mapF p k head r))) : Sp p R (co r) :=
  (h2.lin (co r k) h1).cgr fun i => by
    unfold mapF
    rw [co_addR (by rw [hr.n, hh.n])]
    refine cg_trans (cg_add cg_mod cg_rfl) (cg_of ?_)
    rw [Int.sub_mul, Int.zero_mul]; omega
theorem base_step {F : List (Nat × List Int)} {left rs : List (List Int)} {k : Nat} {s : List Int} (hk : k < w) (hF : Bas p w F) (hA : Asc F) (hlt : ∀ b ∈ F, b.1 < k) (hl : ∀ r ∈ left, Row p w r) (hz : ∀ r ∈ left, ∀ i, i < k → co r i = 0) (hs : Same p (rowsB F ++ left) rs) (hm : s ∈ left) (hpos : 0 < co s k) :
    Bas p w (F.map (fun b => (b.1, mapF p k (mulR p (inv p (co s k)) s) b.2)) ++ [(k, mulR p (inv p (co s k)) s)]) ∧ Asc (F.map (fun b => (b.1, mapF p k (mulR p (inv p (co s k)) s) b.2)) ++ [(k, mulR p (inv p (co s k)) s)]) ∧ (∀ b ∈ (F.map (fun b => (b.1, mapF p k (mulR p (inv p (co s k)) s) b.2)) ++ [(k, mulR p (inv p (co s k)) s)]), b.1 < k + 1) ∧
    (∀ r ∈ (left.map (mapF p k (mulR p (inv p (co s k)) s))).filter nzR, Row p w r) ∧ (∀ r ∈ (left.map (mapF p k (mulR p (inv p (co s k)) s))).filter nzR, ∀ i, i < k + 1 → co r i = 0) ∧
    Same p (rowsB (F.map (fun b => (b.1, mapF p k (mulR p (inv p (co s k)) s) b.2)) ++ [(k, mulR p (inv p (co s k)) s)]) ++ (left.map (mapF p k (mulR p (inv p (co s k)) s))).filter nzR) rs := by
  have hsr := hl s hm
  have hsm := Row.sm hp hsr k
  have hi := inv_ok hp hpos hsm.2.1
  have hh : Row p w (mulR p (inv p (co s k)) s) := row_mulR hp hsr
  have h1 : co (mulR p (inv p (co s k)) s) k = 1 := by rw [co_mulR]; exact inv_unit hp hpos hsm.2.1
  have h0 : ∀ i, i < k → co (mulR p (inv p (co s k)) s) i = 0 := fun i hi' => by rw [co_mulR, hz s hm i hi']; simp
  have hsp : ∀ {R : List (List Int)}, Sp p R (co (mulR p (inv p (co s k)) s)) → Sp p R (co s) := fun {R} h => (h.smul (co s k)).cgr fun i => by
    rw [co_mulR]
    refine cg_trans (cg_mul cg_rfl cg_mod) ?_
    rw [← Int.mul_assoc]
    have := cg_mul hi.2.2 (cg_rfl (a := co s i))
    rwa [Int.one_mul] at this
  have hhs : ∀ {R : List (List Int)}, Sp p R (co s) → Sp p R (co (mulR p (inv p (co s k)) s)) := fun h => sp_mulR h
  generalize mulR p (inv p (co s k)) s = head at hh h1 h0 hsp hhs ⊢
  have hco : ∀ {r : List Int}, Row p w r → ∀ i, co (mapF p k head r) i = (co r i + (0 - co r k) * co head i) % p := fun hr i => co_addR (by rw [hr.n, hh.n]) i
  have hmk : ∀ {r : List Int}, Row p w r → co (mapF p k head r) k = 0 := fun {r} hr => by
    rw [hco hr, h1, Int.mul_one]
    have : co r k + (0 - co r k) = (0 : Int) := by omega
    rw [this]; rfl
  have hml : ∀ {r : List Int}, Row p w r → ∀ i, i < k → co (mapF p k head r) i = co r i := fun {r} hr i hlt' => by
    rw [hco hr, h0 i hlt', Int.mul_zero, Int.add_zero]
    exact Int.emod_eq_of_lt (hr.r i).1 (hr.r i).2
  have hmr : ∀ {r : List Int}, Row p w r → Row p w (mapF p k head r) := fun hr => row_addR hp hr hh
  have hleft2 : ∀ r ∈ (left.map (mapF p k head)).filter nzR, ∃ r0 ∈ left, mapF p k head r0 = r := fun r hr => List.mem_map.mp (List.mem_filter.mp hr).1
  refine ⟨⟨⟨fun b hb => ?_, fun b hb => ?_, fun b hb => ?_, fun b hb i hi' => ?_, ?_⟩, fun b hb c hc hne => ?_⟩, ?_, fun b hb => ?_, fun r hr => ?_, fun r hr i hi' => ?_, ?_⟩
  · rcases List.mem_append.mp hb with q | q
    · obtain ⟨b0, hb0, rfl⟩ := List.mem_map.mp q
      exact hmr (hF.row b0 hb0)
    · rw [List.mem_singleton.mp q]; exact hh
  · rcases List.mem_append.mp hb with q | q
    · obtain ⟨b0, hb0, rfl⟩ := List.mem_map.mp q
      exact hF.lt b0 hb0
    · rw [List.mem_singleton.mp q]; exact hk
  · rcases List.mem_append.mp hb with q | q
    · obtain ⟨b0, hb0, rfl⟩ := List.mem_map.mp q
      exact (hml (hF.row b0 hb0) b0.1 (hlt b0 hb0)).trans (hF.one b0 hb0)
    · rw [List.mem_singleton.mp q]; exact h1
  · rcases List.mem_append.mp hb with q | q
    · obtain ⟨b0, hb0, rfl⟩ := List.mem_map.mp q
      have hlt0 := hlt b0 hb0
      have hi2 : i < b0.1 := hi'
      exact (hml (hF.row b0 hb0) i (by omega)).trans (hF.low b0 hb0 i hi2)
    · rw [List.mem_singleton.mp q] at hi' ⊢; exact h0 i hi'
  · rw [List.map_append, List.map_map, List.nodup_append]
    refine ⟨?_, by simp, fun a ha b hb => ?_⟩
    · have : F.map ((fun x : Nat × List Int => x.1) ∘ fun b : Nat × List Int => (b.1, mapF p k head b.2)) = F.map (·.1) := List.map_congr_left fun _ _ => rfl
      rw [this]; exact hF.nd
    · rw [List.mem_singleton.mp hb]
      obtain ⟨b0, hb0, rfl⟩ := List.mem_map.mp ha
      have := hlt b0 hb0
      show b0.1 ≠ k
      omega
  · rcases List.mem_append.mp hb with q | q <;> rcases List.mem_append.mp hc with q2 | q2
    · obtain ⟨b0, hb0, rfl⟩ := List.mem_map.mp q
      obtain ⟨c0, hc0, rfl⟩ := List.mem_map.mp q2
      exact (hml (hF.row b0 hb0) c0.1 (hlt c0 hc0)).trans (hF.off b0 hb0 c0 hc0 hne)
    · obtain ⟨b0, hb0, rfl⟩ := List.mem_map.mp q
      rw [List.mem_singleton.mp q2]
      exact hmk (hF.row b0 hb0)
    · obtain ⟨c0, hc0, rfl⟩ := List.mem_map.mp q2
      rw [List.mem_singleton.mp q]
      exact h0 c0.1 (hlt c0 hc0)
    · rw [List.mem_singleton.mp q, List.mem_singleton.mp q2] at hne; exact absurd rfl hne
  · unfold Asc
    rw [List.pairwise_append, List.pairwise_map]
    refine ⟨hA, by simp, fun a ha b hb => ?_⟩
    rw [List.mem_singleton.mp hb]
    obtain ⟨b0, hb0, rfl⟩ := List.mem_map.mp ha
    exact hlt b0 hb0
  · rcases List.mem_append.mp hb with q | q
    · obtain ⟨b0, hb0, rfl⟩ := List.mem_map.mp q
      have := hlt b0 hb0
      show b0.1 < k + 1
      omega
    · rw [List.mem_singleton.mp q]; exact Nat.lt_succ_self k
  · obtain ⟨r0, hr0, rfl⟩ := hleft2 r hr
    exact hmr (hl r0 hr0)
  · obtain ⟨r0, hr0, rfl⟩ := hleft2 r hr
    by_cases e : i = k
    · rw [e]; exact hmk (hl r0 hr0)
    · rw [hml (hl r0 hr0) i (by omega)]; exact hz r0 hr0 i (by omega)
  · refine Same.trans ⟨fun r hr => ?_, fun r hr => ?_⟩ hs
    · have hS : Sp p (rowsB F ++ left) (co head) := hhs (.mem (List.mem_append_right _ hm))
      rcases List.mem_append.mp hr with q | q
      · rw [rowsB, List.map_append, List.map_map, List.mem_append] at q
        rcases q with q | q
        · obtain ⟨b0, hb0, rfl⟩ := List.mem_map.mp q
          exact sp_map hp hh (hF.row b0 hb0) hS (.mem (List.mem_append_left _ (List.mem_map.mpr ⟨b0, hb0, rfl⟩)))
        · rw [List.mem_singleton.mp q]; exact hS
      · obtain ⟨r0, hr0, rfl⟩ := hleft2 r q
        exact sp_map hp hh (hl r0 hr0) hS (.mem (List.mem_append_right _ hr0))
    · have hH : Sp p (rowsB (F.map (fun b => (b.1, mapF p k head b.2)) ++ [(k, head)]) ++ (left.map (mapF p k head)).filter nzR) (co head) := .mem (by simp)
      rcases List.mem_append.mp hr with q | q
      · obtain ⟨b0, hb0, rfl⟩ := List.mem_map.mp q
        refine sp_unmap (k := k) hp hh (hF.row b0 hb0) hH (.mem (List.mem_append_left _ ?_))
        rw [rowsB, List.map_append, List.map_map]
        exact List.mem_append_left _ (List.mem_map.mpr ⟨b0, hb0, rfl⟩)
      · refine sp_unmap (k := k) hp hh (hl r q) hH ?_
        cases hb : nzR (mapF p k head r) with
        | true => exact .mem (List.mem_append_right _ (List.mem_filter.mpr ⟨List.mem_map.mpr ⟨r, q, rfl⟩, hb⟩))
        | false =>
          have hm0 := max_zero (hmr (hl r q)) (show 0 < w by omega)
          have : ¬ 0 < maxI (mapF p k head r) := of_decide_eq_false hb
          have hz0 := hm0.1.mp (by have := hm0.2; omega)
          exact Sp.zero.cgr fun i => cg_of (hz0 i).symm
end
end Law

set_option Elab.async false
set_option linter.all false
set_option maxRecDepth 100000
set_option maxHeartbeats 1000000
namespace Law
open PySem PySem.Spec L2 DL PM
/-! the law's bases -/
theorem deep_rows : ∀ R : List (List Int), deepAll (R.map PI) = some (R.map fun r => PyData.tuple (r.map PyData.int))
  | [] => rfl
  | r :: R => by
    show deepAll (PI r :: R.map PI) = _
    unfold deepAll
    rw [deep_PI, deep_rows R]; rfl
theorem lay_rows : ∀ R : List (List Int), PyData.canLayAll0 (R.map fun r => PyData.tuple (r.map PyData.int)) = true
  | [] => rfl
  | r :: R => by
    show PyData.canLayAll0 (PyData.tuple (r.map PyData.int) :: R.map fun r => PyData.tuple (r.map PyData.int)) = true
    unfold PyData.canLayAll0
    rw [lay_PI, lay_rows R]; rfl
theorem dep_rows : ∀ R : List (List Int), PyData.depthAll (R.map fun r => PyData.tuple (r.map PyData.int)) ≤ 1
  | [] => Nat.zero_le _
  | r :: R => by
    show PyData.depthAll (PyData.tuple (r.map PyData.int) :: R.map fun r => PyData.tuple (r.map PyData.int)) ≤ 1
    unfold PyData.depthAll
    rw [dep_PI]
    have := dep_rows R
    omega
theorem shpd_L (R : List (List Int)) : SeqAt.shaped (.list (R.map fun r => PyData.tuple (r.map PyData.int))) = true := by
  refine shaped_of (by unfold PyData.canLay0; exact lay_rows R) ?_
  unfold PyData.depth
  have := dep_rows R
  omega
theorem shpd_T (R : List (List Int)) : SeqAt.shaped (.tuple (R.map fun r => PyData.tuple (r.map PyData.int))) = true := by
  refine shaped_of (by unfold PyData.canLay0; exact lay_rows R) ?_
  unfold PyData.depth
  have := dep_rows R
  omega
theorem deep_PL (R : List (List Int)) : deep (PL R) = some (.list (R.map fun r => PyData.tuple (r.map PyData.int))) := by
  show (deepAll (R.map PI)).map PyData.list = _
  rw [deep_rows]; rfl
theorem deep_PT (R : List (List Int)) : deep (PT R) = some (.tuple (R.map fun r => PyData.tuple (r.map PyData.int))) := by
  show (deepAll (R.map PI)).map PyData.tuple = _
  rw [deep_rows]; rfl
theorem shp_PT (R : List (List Int)) : Shp (PT R) := ⟨_, deep_PT R, by unfold PyData.canLay0; exact lay_rows R, by unfold PyData.depth; have := dep_rows R; omega⟩
theorem shp_PL (R : List (List Int)) : Shp (PL R) := ⟨_, deep_PL R, by unfold PyData.canLay0; exact lay_rows R, by unfold PyData.depth; have := dep_rows R; omega⟩
theorem eqPL_nil (R : List (List Int)) (L : LH) : eqD L (PL R) (.lst []) = some R.isEmpty := by
  show eqD L (PL R) (PL []) = _
  unfold eqD
  rw [deepL_of (deep_PL R), deepL_of (deep_PL [])]
  show (if SeqAt.shaped (.list (R.map fun r => PyData.tuple (r.map PyData.int))) && SeqAt.shaped (.list (([] : List (List Int)).map fun r => PyData.tuple (r.map PyData.int))) then some (PyData.eqv (.list (R.map fun r => PyData.tuple (r.map PyData.int))) (.list (([] : List (List Int)).map fun r => PyData.tuple (r.map PyData.int)))) else none) = _
  rw [shpd_L R, shpd_L []]
  cases R <;> rfl
theorem nePL_nil (R : List (List Int)) (L : LH) : kNe (PL R) (.lst []) L = .ok (.bl (!R.isEmpty)) L := by unfold kNe; rw [eqPL_nil]
theorem eqPLk_nil (R : List (List Int)) (L : LH) : kEq (PL R) (.lst []) L = .ok (.bl R.isEmpty) L := by unfold kEq; rw [eqPL_nil]
theorem ix_first (x : D) (xs : List D) (L : LH) : kIx (.lst (x :: xs)) (.int 0) L = .ok x L := by
  show orNo (atI (x :: xs) 0) L = _
  have : atI (x :: xs) (0 : Int) = some x := by unfold atI ixN; simp
  rw [this]; rfl
theorem Row.ne {p : Int} {w : Nat} {r : List Int} (h : Row p w r) (hw : 0 < w) : r ≠ [] := fun e => by have := h.n; rw [e] at this; simp at this; omega
def itemsL (L : LH) : D → Option (List D)
  | .ref n => (match L[n]? with
    | some (.lst xs) => some xs
    | _ => none)
  | d => itemsV d
theorem lcV_ok {i : Nat} {k : DG} {vs : List Nat} {t : DT} {e : DE} {env : DEnv} {L L2 : LH} {d : D} {items ys : List D} (hi : env[i]? = some (some d)) (hd : itemsL L d = some items) (hl : items.length ≤ 16777216) (h3 : lcD k vs t e env items L = .ok ys L2) : dLcV i k vs t e env L = .ok (.lst ys) L2 := by
  have hval : itemsV d = some items → dLc (iVal (dVar i)) k vs t e env L = .ok (.lst ys) L2 := fun hv => by
    refine dLc_ok (items := items) (L1 := L) ?_ hl h3
    unfold iVal dVar
    rw [hi]
    show (match itemsV d with | some xs => R.ok xs L | none => .no) = _
    rw [hv]
  unfold dLcV
  rw [hi]
  cases d with
  | ref n =>
    simp only [itemsL] at hd
    split at hd
    · rename_i xs hx
      cases hd
      simp only [hx]
      rw [if_pos (fits_le (m := 16777216) (by omega) hl), h3]; rfl
    · cases hd
  | _ => exact hval hd
section
variable {p : Int} (hp : pr p) {w : Nat} (hw0 : 0 < w) (hw : w ≤ 1000)
include hp hw0 hw
theorem lbase_loop (R0 W0 : Option D) (L : LH) {rs : List (List Int)} : ∀ (n k : Nat) (F : List (Nat × List Int)) (left : List (List Int)) (x3 x6 x7 x8 : Option D), k + n = w → Bas p w F → Asc F → (∀ b ∈ F, b.1 < k) → (∀ r ∈ left, Row p w r) → (∀ r ∈ left, ∀ i, i < k → co r i = 0) → Same p (rowsB F ++ left) rs → left.length ≤ 10000 → F.length + n ≤ 10000 →
    ∃ F' left' y3 y6 y7 y8, Bas p w F' ∧ Asc F' ∧ (∀ r ∈ left', ∀ i, co r i = 0) ∧ Same p (rowsB F' ++ left') rs ∧
    forD (gSet 3) (sSeq (sSet 6 (dLc (iVal (dVar 4)) (gSet 9) [9] (dB (d2 kGt (d2 kIx (dVar 9) (dVar 3)) (dC (.int 0)))) (dVar 9))) (sIf (dB (d2 kNe (dVar 6) (dL kLst daNil))) (sSeq (sSet 7 (dCall 2 m_law_undone (daCons (dVar 0) (daCons (d2 kIx (d2 kIx (dVar 6) (dC (.int 0))) (dVar 3)) daNil)))) (sSeq (sSet 8 (dL kTupleOf (daCons (dLc (iVal (d2 kIx (dVar 6) (dC (.int 0)))) (gSet 10) [10] dYes (d2 kMod (d2 DL.kTimes (dVar 7) (dVar 10)) (dVar 0))) daNil))) (sSeq (sSet 4 (dLc (iVal (dVar 4)) (gSet 9) [9] dYes (dCall 4 m_law_plus (daCons (dVar 0) (daCons (dVar 9) (daCons (dVar 8) (daCons (d2 kSub (dC (.int 0)) (d2 kIx (dVar 9) (dVar 3))) daNil))))))) (sSeq (sSet 4 (dLc (iVal (dVar 4)) (gSet 9) [9] (dB (d2 kGt (dL kMax (daCons (dVar 9) daNil)) (dC (.int 0)))) (dVar 9))) (sSet 5 (d2 kPlus (dLc (iVal (dVar 5)) (gSet 9) [9] dYes (dCall 4 m_law_plus (daCons (dVar 0) (daCons (dVar 9) (daCons (dVar 8) (daCons (d2 kSub (dC (.int 0)) (d2 kIx (dVar 9) (dVar 3))) daNil)))))) (dL DL.kLst (daCons (dVar 8) daNil)))))))) sNext)) (rangeD (k : Int) n) [some (.int p), R0, W0, x3, some (PL left), some (PL (rowsB F)), x6, x7, x8, none, none] L = .nx [some (.int p), R0, W0, y3, some (PL left'), some (PL (rowsB F')), y6, y7, y8, none, none] L
  | 0, k, F, left, x3, x6, x7, x8, hk, hF, hA, _, hl, hz, hs, _, _ => ⟨F, left, x3, x6, x7, x8, hF, hA, fun r hr i => by
      rcases Nat.lt_or_ge i k with z | z
      · exact hz r hr i z
      · exact co_ge (by rw [(hl r hr).n]; omega), hs, rfl⟩
  | n + 1, k, F, left, x3, x6, x7, x8, hk, hF, hA, hlt, hl, hz, hs, hn1, hn2 => by
    rw [rangeD_succ]
    have hsome : dLc (iVal (dVar 4)) (gSet 9) [9] (dB (d2 kGt (d2 kIx (dVar 9) (dVar 3)) (dC (.int 0)))) (dVar 9) [some (.int p), R0, W0, some (.int (k : Int)), some (PL left), some (PL (rowsB F)), x6, x7, x8, none, none] L = .ok (PL (left.filter fun r => decide (0 < co r k))) L := by
      refine dLc_ok (items := left.map PI) (L1 := L) rfl (by simp; omega) (lc_sel left fun r hr => ⟨?_, rfl⟩)
      refine dB_b ((d2_ok (a := .int (co r k)) (b := .int 0) (L1 := L) (L2 := L) ((d2_ok (a := PI r) (b := .int (k : Int)) (L1 := L) (L2 := L) rfl rfl).trans (seqD_ix (seqT L r) k (by rw [(hl r hr).n]; omega))) rfl).trans (k_gt _ _))
    have hstep : sSet 6 (dLc (iVal (dVar 4)) (gSet 9) [9] (dB (d2 kGt (d2 kIx (dVar 9) (dVar 3)) (dC (.int 0)))) (dVar 9)) [some (.int p), R0, W0, some (.int (k : Int)), some (PL left), some (PL (rowsB F)), x6, x7, x8, none, none] L = .nx [some (.int p), R0, W0, some (.int (k : Int)), some (PL left), some (PL (rowsB F)), some (PL (left.filter fun r => decide (0 < co r k))), x7, x8, none, none] L := set_ok hsome
    have ht : dB (d2 kNe (dVar 6) (dL DL.kLst daNil)) [some (.int p), R0, W0, some (.int (k : Int)), some (PL left), some (PL (rowsB F)), some (PL (left.filter fun r => decide (0 < co r k))), x7, x8, none, none] L = .ok (!(left.filter fun r => decide (0 < co r k)).isEmpty) L := dB_b ((d2_ok (a := PL (left.filter fun r => decide (0 < co r k))) (b := .lst []) (L1 := L) (L2 := L) rfl rfl).trans (nePL_nil _ L))
    cases hsl : left.filter fun r => decide (0 < co r k) with
    | nil =>
      rw [hsl] at ht hstep
      have hz' : ∀ r ∈ left, ∀ i, i < k + 1 → co r i = 0 := fun r hr i hi => by
        by_cases e : i = k
        · subst e
          have h1 : ¬ 0 < co r i := fun h => by
            have : r ∈ left.filter fun r => decide (0 < co r i) := List.mem_filter.mpr ⟨hr, decide_eq_true h⟩
            rw [hsl] at this; cases this
          have := ((hl r hr).r i).1
          omega
        · exact hz r hr i (by omega)
      obtain ⟨F', left', y3, y6, y7, y8, r1, r2, r3, r4, r5⟩ := lbase_loop R0 W0 L n (k + 1) F left (some (.int (k : Int))) (some (PL [])) x7 x8 (by omega) hF hA (fun b hb => Nat.lt_succ_of_lt (hlt b hb)) hl hz' hs hn1 (by omega)
      exact ⟨F', left', y3, y6, y7, y8, r1, r2, r3, r4, (for_go (env1 := [some (.int p), R0, W0, some (.int (k : Int)), some (PL left), some (PL (rowsB F)), x6, x7, x8, none, none]) rfl ((seq_nx _ _ hstep).trans ((if_f ht).trans rfl))).trans r5⟩
    | cons s more =>
      rw [hsl] at ht hstep
      have hms : s ∈ left.filter fun r => decide (0 < co r k) := by rw [hsl]; simp
      have hm := (List.mem_filter.mp hms).1
      have hpos : 0 < co s k := of_decide_eq_true (List.mem_filter.mp hms).2
      have hsr := hl s hm
      have hsm := Row.sm hp hsr k
      have hi := inv_ok hp hpos hsm.2.1
      have hh : Row p w (mulR p (inv p (co s k)) s) := row_mulR hp hsr
      obtain ⟨b1, b2, b3, b4, b5, b6⟩ := base_step hp (by omega) hF hA hlt hl hz hs hm hpos
      have hrow2 : ∀ r ∈ left.map (mapF p k (mulR p (inv p (co s k)) s)), Row p w r := fun r hr => by
        obtain ⟨r0, hr0, rfl⟩ := List.mem_map.mp hr
        exact row_addR hp (hl r0 hr0) hh
      obtain ⟨F', left', y3, y6, y7, y8, r1, r2, r3, r4, r5⟩ := lbase_loop R0 W0 L n (k + 1) _ _ (some (.int (k : Int))) (some (PL (s :: more))) (some (.int (inv p (co s k)))) (some (PI (mulR p (inv p (co s k)) s))) (by omega) b1 b2 b3 b4 b5 b6 (by have := List.length_filter_le nzR (left.map (mapF p k (mulR p (inv p (co s k)) s))); rw [List.length_map] at this; omega) (by simp; omega)
      refine ⟨F', left', y3, y6, y7, y8, r1, r2, r3, r4, (for_go (env1 := [some (.int p), R0, W0, some (.int (k : Int)), some (PL left), some (PL (rowsB F)), x6, x7, x8, none, none]) rfl ((seq_nx _ _ hstep).trans ((if_t ht).trans ?_))).trans r5⟩
      have hix : ∀ (z7 z8 : Option D) (z4 z5 : Option D), d2 kIx (dVar 6) (dC (.int 0)) [some (.int p), R0, W0, some (.int (k : Int)), z4, z5, some (PL (s :: more)), z7, z8, none, none] L = .ok (PI s) L := fun _ _ _ _ => (d2_ok (a := PL (s :: more)) (b := .int 0) (L1 := L) (L2 := L) rfl rfl).trans (ix_first _ _ L)
      refine (seq_nx _ _ (env1 := [some (.int p), R0, W0, some (.int (k : Int)), some (PL left), some (PL (rowsB F)), some (PL (s :: more)), some (.int (inv p (co s k))), x8, none, none]) (L1 := L) (set_ok ((call_ok (a := [.int p, .int (co s k)]) (L1 := L) (ca_ok (L1 := L) rfl (ca_ok ((d2_ok (a := PI s) (b := .int (k : Int)) (L1 := L) (L2 := L) (hix _ _ _ _) rfl).trans (seqD_ix (seqT L s) k (by rw [hsr.n]; omega))) cn_ok)) rfl).trans (lundone_ok hp hpos hsm.2.1 L)))).trans ?_
      refine (seq_nx _ _ (env1 := [some (.int p), R0, W0, some (.int (k : Int)), some (PL left), some (PL (rowsB F)), some (PL (s :: more)), some (.int (inv p (co s k))), some (PI (mulR p (inv p (co s k)) s)), none, none]) (L1 := L) (set_ok ((dL_ok (ca_ok (a := .lst (LI (mulR p (inv p (co s k)) s))) (L1 := L) (dLc_ok (items := LI s) (L1 := L) (by unfold iVal; rw [hix]; rfl) (by rw [List.length_map, hsr.n]; omega) (lc_int s fun a _ => ?_)) cn_ok)).trans rfl))).trans ?_
      · exact (d2_ok (a := .int (inv p (co s k) * a)) (b := .int p) (L1 := L) (L2 := L) ((d2_ok (a := .int (inv p (co s k))) (b := .int a) (L1 := L) (L2 := L) rfl rfl).trans (k_times _ _ (small_mul (by omega) (by omega)))) rfl).trans (k_mod _ _ (pr_pos hp))
      have hplus : ∀ (z4 z5 : Option D) (r : List Int), Row p w r → dCall 4 m_law_plus (daCons (dVar 0) (daCons (dVar 9) (daCons (dVar 8) (daCons (d2 kSub (dC (.int 0)) (d2 kIx (dVar 9) (dVar 3))) daNil)))) [some (.int p), R0, W0, some (.int (k : Int)), z4, z5, some (PL (s :: more)), some (.int (inv p (co s k))), some (PI (mulR p (inv p (co s k)) s)), some (PI r), none] L = .ok (PI (mapF p k (mulR p (inv p (co s k)) s) r)) L := fun z4 z5 r hr => by
        have hr2 := Row.sm hp hr k
        exact call4 (a := .int p) (b := PI r) (c := PI (mulR p (inv p (co s k)) s)) (x := .int (0 - co r k)) rfl rfl rfl ((d2_ok (a := .int 0) (b := .int (co r k)) (L1 := L) (L2 := L) rfl ((d2_ok (a := PI r) (b := .int (k : Int)) (L1 := L) (L2 := L) rfl rfl).trans (seqD_ix (seqT L r) k (by rw [hr.n]; omega)))).trans (k_sub _ _)) (lplus_ok (pr_pos hp) (by omega) (by omega) (by rw [hr.n]; omega) L)
      refine (seq_nx _ _ (env1 := [some (.int p), R0, W0, some (.int (k : Int)), some (PL (left.map (mapF p k (mulR p (inv p (co s k)) s)))), some (PL (rowsB F)), some (PL (s :: more)), some (.int (inv p (co s k))), some (PI (mulR p (inv p (co s k)) s)), none, none]) (L1 := L) (set_ok (dLc_ok (items := left.map PI) (L1 := L) rfl (by simp; omega) (lc_rows left fun r hr => hplus _ _ r (hl r hr))))).trans ?_
      refine (seq_nx _ _ (env1 := [some (.int p), R0, W0, some (.int (k : Int)), some (PL ((left.map (mapF p k (mulR p (inv p (co s k)) s))).filter nzR)), some (PL (rowsB F)), some (PL (s :: more)), some (.int (inv p (co s k))), some (PI (mulR p (inv p (co s k)) s)), none, none]) (L1 := L) (set_ok (dLc_ok (items := (left.map (mapF p k (mulR p (inv p (co s k)) s))).map PI) (L1 := L) rfl (by simp; omega) (lc_sel _ fun r hr => ⟨?_, rfl⟩)))).trans ?_
      · exact dB_b ((d2_ok (a := .int (maxI r)) (b := .int 0) (L1 := L) (L2 := L) (max_ok (Row.ne (hrow2 r hr) hw0) rfl) rfl).trans (k_gt _ _))
      refine set_ok ((d2_ok (a := PL ((rowsB F).map (mapF p k (mulR p (inv p (co s k)) s)))) (b := PL [mulR p (inv p (co s k)) s]) (L1 := L) (L2 := L) (dLc_ok (items := (rowsB F).map PI) (L1 := L) rfl (by simp; omega) (lc_rows (rowsB F) fun r hr => hplus _ _ r ?_)) rfl).trans ?_)
      · obtain ⟨b, hb, rfl⟩ := List.mem_map.mp hr
        exact hF.row b hb
      · show plusSeq L (PL _) (PL _) = _
        unfold plusSeq
        simp only [tupD, lstD, List.length_map]
        rw [if_pos (fits_le (m := 20000) (by omega) (by simp; omega))]
        show R.ok (D.lst (((rowsB F).map (mapF p k (mulR p (inv p (co s k)) s))).map PI ++ [PI (mulR p (inv p (co s k)) s)])) L = R.ok (D.lst ((rowsB (F.map (fun b => (b.1, mapF p k (mulR p (inv p (co s k)) s) b.2)) ++ [(k, mulR p (inv p (co s k)) s)])).map PI)) L
        congr 2
        simp [rowsB, List.map_map, Function.comp_def]
theorem lbase_ok {rs : List (List Int)} (hr : ∀ r ∈ rs, Row p w r) (hl : rs.length ≤ 5000) {d : D} (L : LH) (hd : itemsL L d = some (rs.map PI)) : ∃ R, IsB p w R ∧ Same p R rs ∧ m_law_base [.int p, d, .int (w : Int)] L = .ok (PT R) L := by
  have h0 : Same p (rowsB [] ++ rs.filter nzR) rs := by
    refine ⟨fun r h => .mem (List.mem_filter.mp h).1, fun r h => ?_⟩
    cases hb : nzR r with
    | true => exact .mem (List.mem_filter.mpr ⟨h, hb⟩)
    | false =>
      have hm0 := max_zero (hr r h) hw0
      have : ¬ 0 < maxI r := of_decide_eq_false hb
      have hz0 := hm0.1.mp (by have := hm0.2; omega)
      exact Sp.zero.cgr fun i => cg_of (hz0 i).symm
  have hfl := List.length_filter_le nzR rs
  obtain ⟨F, left, y3, y6, y7, y8, r1, r2, r3, r4, r5⟩ := lbase_loop hp hw0 hw (some d) (some (.int (w : Int))) L (rs := rs) w 0 [] (rs.filter nzR) none none none none (by omega) ⟨⟨(fun _ h => nomatch h), (fun _ h => nomatch h), (fun _ h => nomatch h), (fun _ h => nomatch h), List.nodup_nil⟩, fun _ h => nomatch h⟩ List.Pairwise.nil (fun _ h => nomatch h) (fun r h => hr r (List.mem_filter.mp h).1) (fun _ _ i h => absurd h (Nat.not_lt_zero i)) h0 (by omega) (by simp; omega)
  refine ⟨rowsB F, ⟨F, r1, r2, rfl⟩, ⟨fun r h => r4.l r (List.mem_append_left _ h), fun r h => (r4.r r h).trans fun q hq => ?_⟩, fnD_rt ?_⟩
  · rcases List.mem_append.mp hq with z | z
    · exact .mem z
    · exact Sp.zero.cgr fun i => cg_of (r3 q z i).symm
  refine (seq_nx _ _ (env1 := [some (.int p), some d, some (.int (w : Int)), none, some (PL (rs.filter nzR)), some (PL (rowsB [])), none, none, none, none, none]) (L1 := L) (par_ok (ca_ok (a := PL (rs.filter nzR)) (L1 := L) (lcV_ok (d := d) rfl hd (by simp; omega) (lc_sel rs fun r h => ⟨?_, rfl⟩)) (ca_ok (a := .lst []) (L1 := L) rfl cn_ok)))).trans ?_
  · exact dB_b ((d2_ok (a := .int (maxI r)) (b := .int 0) (L1 := L) (L2 := L) (max_ok (Row.ne (hr r h) hw0) rfl) rfl).trans (k_gt _ _))
  refine (seq_nx _ _ (by rw [ev_for, range1_ok (n := w) rfl (by omega), toS_ok]; exact r5)).trans ?_
  exact ret_ok ((dL_ok (ca_ok (a := PL (rowsB F)) (L1 := L) rfl cn_ok)).trans rfl)
end
end Law

set_option Elab.async false
set_option linter.all false
set_option maxRecDepth 100000
set_option maxHeartbeats 1000000
namespace Law
open PySem PySem.Spec L2 DL PM
theorem is_integer_int (i : Int) (L : LH) : m_is_integer [.int i] L = .ok (.bl true) L := fnD_rt (by rfl)
theorem check_prime_ok {p : Int} (hp : pr p) (L : LH) : m_check_prime [.int p] L = .ok .non L := by
  refine fnD_nx (e := [some (.int p)]) ((if_f ((or_f (not_b (b := true) (truth_b (d := .bl true) ((call_ok (a := [.int p]) (L1 := L) rfl rfl).trans (is_integer_int p L)) rfl))).trans (dB_b ((d2_ok (a := .int p) (b := .tup [.int 2, .int 3, .int 5, .int 7]) (L1 := L) (L2 := L) rfl rfl).trans ?_)))).trans rfl)
  rcases hp with rfl | rfl | rfl | rfl <;> rfl
theorem all_cells {p : Int} (ds : List D) (bs : List Bool) (h : ds.map (cell p) = bs.map D.bl) (L : LH) {e : DE} (he : e = dLc (iVal (dVar 2)) (gSet 3) [3] dYes (deAnd (dCall 1 m_is_integer (daCons (dVar 3) daNil)) (dChain kLe kLt (dC (.int 0)) (dVar 3) (dVar 0)))) (hd : ∀ d ∈ ds, ∀ L, ∃ b, m_is_integer [d] L = .ok (.bl b) L ∧ (b = true → ∃ a, d = .int a) ∧ (b = false → cell p d = .bl false)) (hl : ds.length ≤ 1000) (w : Option D) :
    dL (kList fAll) (daCons e daNil) [some (.int p), w, some (.tup ds), none] L = .ok (.bl (bs.all id)) L := by
  subst he
  refine (dL_ok (a := [.lst (bs.map D.bl)]) (L1 := L) (ca_ok (dLc_ok (items := ds) (L1 := L) rfl (by omega) (L2 := L) ?_) cn_ok)).trans ?_
  · rw [← h]
    refine lc_map ds (fun d hx => ⟨[some (.int p), w, some (.tup ds), some d], rfl, ?_⟩)
    obtain ⟨b, h1, h2, h3⟩ := hd d hx L
    have hc : dCall 1 m_is_integer (daCons (dVar 3) daNil) [some (.int p), w, some (.tup ds), some d] L = .ok (.bl b) L := (call_ok (a := [d]) (L1 := L) rfl rfl).trans h1
    cases b with
    | true =>
      obtain ⟨a, rfl⟩ := h2 rfl
      exact (de_and_t hc).trans (chain_ok rfl rfl rfl)
    | false => rw [h3 rfl]; exact de_and_f hc
  · show orNo (fAll (bs.map D.bl)) L = _
    unfold fAll; rw [blsD_map]; rfl
theorem is_row_ok {p : Int} {ds : List D} {bs : List Bool} (h : ds.map (cell p) = bs.map D.bl) (hd : ∀ d ∈ ds, ∀ L, ∃ b, m_is_integer [d] L = .ok (.bl b) L ∧ (b = true → ∃ a, d = .int a) ∧ (b = false → cell p d = .bl false)) (hl : ds.length ≤ 1000) (L : LH) : m_is_row [.int p, .int (ds.length : Int), .tup ds] L = .ok (.bl (bs.all id)) L := by
  refine fnD_rt ((seq_nx _ _ (env1 := [some (.int p), some (.int (ds.length : Int)), some (.tup ds), none]) (L1 := L) (if_f ((or_f (isi_tup rfl)).trans (dB_b ((d2_ok (a := .int (ds.length : Int)) (b := .int (ds.length : Int)) (L1 := L) (L2 := L) (len_ok rfl) rfl).trans ((kne_int _ _ _).trans (by simp))))))).trans (ret_ok (all_cells ds bs h L rfl hd hl _)))
theorem is_int_ix (l : List Int) (p : Int) : ∀ d ∈ LI l, ∀ L, ∃ b, m_is_integer [d] L = .ok (.bl b) L ∧ (b = true → ∃ a, d = .int a) ∧ (b = false → cell p d = .bl false) := fun d hd L => by
  obtain ⟨a, _, rfl⟩ := List.mem_map.mp hd
  exact ⟨true, is_integer_int a L, fun _ => ⟨a, rfl⟩, fun z => nomatch z⟩

/-! rows that are judged -/
def RowD (p : Int) (w : Nat) (d : D) (b : Bool) : Prop := ∀ L, m_is_row [.int p, .int (w : Int), d] L = .ok (.bl b) L
theorem rowD_len {p : Int} {w : Nat} {ds : List D} (h : ds.length ≠ w) : RowD p w (.tup ds) false := fun L => by
  refine fnD_rt (seq_rt _ _ ((if_t ((or_f (isi_tup rfl)).trans (dB_b ((d2_ok (a := .int (ds.length : Int)) (b := .int (w : Int)) (L1 := L) (L2 := L) (len_ok rfl) rfl).trans ((kne_int _ _ _).trans ?_))))).trans rfl))
  have : ((ds.length : Int) == (w : Int)) = false := by simp; omega
  rw [this]; rfl
theorem rowD_not {p : Int} {w : Nat} {d : D} (h : ∀ L, kIsi [d, .obj (.ty "tuple")] L = .ok (.bl false) L) : RowD p w d false := fun L =>
  fnD_rt (seq_rt _ _ ((if_t (or_t (not_b (b := false) (truth_b (d := .bl false) ((dL_ok (ca_ok (a := d) (L1 := L) rfl (ca_ok (a := .obj (.ty "tuple")) (L1 := L) rfl cn_ok))).trans (h L)) rfl)))).trans rfl))
theorem rowD_ints {p : Int} {w : Nat} {l : List Int} (hn : l.length = w) (hw : w ≤ 1000) : RowD p w (PI l) (l.all (inr p)) := fun L => by
  have h := is_row_ok (row_cells p l) (is_int_ix l p) (by simp; omega) L
  rw [List.length_map, hn] at h
  rw [h, List.all_map]; rfl
theorem rowD_row {p : Int} {w : Nat} {l : List Int} (h : Row p w l) (hw : w ≤ 1000) : RowD p w (PI l) true := by
  have e : l.all (inr p) = true := List.all_eq_true.mpr fun x hx => by
    have := mem_of_red h.r x hx
    unfold inr
    rw [decide_eq_true this.1, decide_eq_true this.2]; rfl
  have := rowD_ints (p := p) h.n hw
  rwa [e] at this
theorem lc_bool {i : Nat} {e : DE} {env : DEnv} {L : LH} {β : D → Bool} (ds : List D) (h : ∀ d ∈ ds, e ((wipeD env [i]).set i (some d)) L = .ok (.bl (β d)) L) : lcD (gSet i) [i] dYes e env ds L = .ok ((ds.map β).map D.bl) L := by
  rw [List.map_map]
  exact lc_map ds fun d hd => ⟨_, rfl, h d hd⟩
theorem all_ok {f : DE} {env : DEnv} {L : LH} {bs : List Bool} (h : f env L = .ok (.lst (bs.map D.bl)) L) : dL (kList fAll) (daCons f daNil) env L = .ok (.bl (bs.all id)) L := by
  refine (dL_ok (ca_ok h cn_ok)).trans ?_
  show orNo (fAll (bs.map D.bl)) L = _
  unfold fAll; rw [blsD_map]; rfl
theorem any_ok {f : DE} {env : DEnv} {L : LH} {bs : List Bool} (h : f env L = .ok (.lst (bs.map D.bl)) L) : dL (kList fAny) (daCons f daNil) env L = .ok (.bl (bs.any id)) L := by
  refine (dL_ok (ca_ok h cn_ok)).trans ?_
  show orNo (fAny (bs.map D.bl)) L = _
  unfold fAny; rw [blsD_map]; rfl
theorem are_rows_ok {p : Int} {w : Nat} {ds : List D} {β : D → Bool} (h : ∀ d ∈ ds, RowD p w d (β d)) {most : Int} (hl : (ds.length : Int) ≤ most) (hl2 : ds.length ≤ 100000) (L : LH) : m_are_rows [.int p, .int (w : Int), .tup ds, .int most] L = .ok (.bl ((ds.map β).all id)) L := by
  refine fnD_rt ((seq_nx _ _ (env1 := [some (.int p), some (.int (w : Int)), some (.tup ds), some (.int most), none]) (L1 := L) (if_f ((or_f (isi_tup rfl)).trans (dB_b ((d2_ok (a := .int (ds.length : Int)) (b := .int most) (L1 := L) (L2 := L) (len_ok rfl) rfl).trans ?_))))).trans (ret_ok (all_ok (dLc_ok (items := ds) (L1 := L) rfl (by omega) (lc_bool ds fun d hd => ?_)))))
  · rw [gt_ok, decide_eq_false (by omega)]
  · exact (call_ok (a := [.int p, .int (w : Int), d]) (L1 := L) rfl rfl).trans (h d hd L)
theorem are_rows_long {p : Int} {w : Nat} {ds : List D} {most : Int} (hl : most < (ds.length : Int)) (L : LH) : m_are_rows [.int p, .int (w : Int), .tup ds, .int most] L = .ok (.bl false) L := by
  refine fnD_rt (seq_rt _ _ ((if_t ((or_f (isi_tup rfl)).trans (dB_b ((d2_ok (a := .int (ds.length : Int)) (b := .int most) (L1 := L) (L2 := L) (len_ok rfl) rfl).trans ?_)))).trans rfl))
  rw [gt_ok, decide_eq_true hl]
theorem are_rows_not {p : Int} {w : Nat} {d : D} {most : Int} (h : ∀ L, kIsi [d, .obj (.ty "tuple")] L = .ok (.bl false) L) (L : LH) : m_are_rows [.int p, .int (w : Int), d, .int most] L = .ok (.bl false) L :=
  fnD_rt (seq_rt _ _ ((if_t (or_t (not_b (b := false) (truth_b (d := .bl false) ((dL_ok (ca_ok (a := d) (L1 := L) rfl (ca_ok (a := .obj (.ty "tuple")) (L1 := L) rfl cn_ok))).trans (h L)) rfl)))).trans rfl))
theorem are_rows_all {p : Int} {w : Nat} (hw : w ≤ 1000) {R : List (List Int)} (h : ∀ r ∈ R, Row p w r) {most : Int} (hl : (R.length : Int) ≤ most) (hl2 : R.length ≤ 100000) (L : LH) : m_are_rows [.int p, .int (w : Int), PT R, .int most] L = .ok (.bl true) L := by
  have := are_rows_ok (p := p) (w := w) (ds := R.map PI) (β := fun _ => true) (fun d hd => by
    obtain ⟨r, hr, rfl⟩ := List.mem_map.mp hd
    exact rowD_row (h r hr) hw) (most := most) (by simpa using hl) (by simpa using hl2) L
  rw [this]
  congr 2
  rw [List.all_map]
  exact List.all_eq_true.mpr fun _ _ => rfl
theorem chainLL_ok {f g h : DE} {env : DEnv} {L : LH} {a b c : Int} (h1 : f env L = .ok (.int a) L) (h2 : g env L = .ok (.int b) L) (h3 : h env L = .ok (.int c) L) : dChain kLe kLe f g h env L = .ok (.bl (decide (a ≤ b) && decide (b ≤ c))) L := by
  unfold dChain
  rw [h1, bind_ok, h2, bind_ok, k_le, bind_ok]
  by_cases e : a ≤ b
  · rw [decide_eq_true e]
    show R.bind (h env L) _ = _
    rw [h3]; rfl
  · rw [decide_eq_false e]; rfl
theorem check_width_ok {w : Nat} (h0 : 0 < w) (h1 : w ≤ 150) (L : LH) : m_check_width [.int (w : Int)] L = .ok .non L := by
  refine fnD_nx (e := [some (.int (w : Int))]) (expr_ok (d := .non) ((call_ok (a := [.int (w : Int), .int 1, .int 150]) (L1 := L) rfl rfl).trans (fnD_nx (e := [some (.int (w : Int)), some (.int 1), some (.int 150)]) ((if_f (not_b (b := true) (truth_b (d := .bl true) ((call_ok (a := [.int (w : Int), .int 1, .int 150]) (L1 := L) rfl rfl).trans (fnD_rt (ret_ok ((de_and_t ((call_ok (a := [.int (w : Int)]) (L1 := L) rfl rfl).trans (is_integer_int _ L))).trans ((chainLL_ok rfl rfl rfl).trans ?_))))) rfl))).trans rfl))))
  rw [decide_eq_true (show (1 : Int) ≤ (w : Int) by omega), decide_eq_true (show (w : Int) ≤ 150 by omega)]; rfl
end Law

set_option Elab.async false
set_option linter.all false
set_option maxRecDepth 100000
set_option maxHeartbeats 1000000
namespace Law
open PySem PySem.Spec L2 DL PM
theorem eqv_ints : ∀ a b : List Int, PyData.eqvAll (a.map PyData.int) (b.map PyData.int) = decide (a = b)
  | [], [] => by rfl
  | [], y :: b => by rfl
  | x :: a, [] => by rfl
  | x :: a, y :: b => by
    have ih := eqv_ints a b
    show (PyData.eqv (.int x) (.int y) && PyData.eqvAll (a.map PyData.int) (b.map PyData.int)) = _
    rw [ih]
    show ((x == y) && decide (a = b)) = _
    by_cases h : x = y
    · subst h; simp
    · simp [h]
theorem eqv_tups : ∀ A B : List (List Int), PyData.eqvAll (A.map fun r => PyData.tuple (r.map PyData.int)) (B.map fun r => PyData.tuple (r.map PyData.int)) = decide (A = B)
  | [], [] => by rfl
  | [], y :: b => by rfl
  | x :: a, [] => by rfl
  | x :: a, y :: b => by
    have ih := eqv_tups a b
    show (PyData.eqvAll (x.map PyData.int) (y.map PyData.int) && PyData.eqvAll (a.map fun r => PyData.tuple (r.map PyData.int)) (b.map fun r => PyData.tuple (r.map PyData.int))) = _
    rw [ih, eqv_ints]
    by_cases h : x = y
    · subst h; simp
    · simp [h]
theorem eqD_PT (A B : List (List Int)) (L : LH) : eqD L (PT A) (PT B) = some (decide (A = B)) := by
  unfold eqD
  rw [deepL_of (deep_PT A), deepL_of (deep_PT B)]
  show (if SeqAt.shaped (.tuple (A.map fun r => PyData.tuple (r.map PyData.int))) && SeqAt.shaped (.tuple (B.map fun r => PyData.tuple (r.map PyData.int))) then some (PyData.eqvAll (A.map fun r => PyData.tuple (r.map PyData.int)) (B.map fun r => PyData.tuple (r.map PyData.int))) else none) = _
  rw [shpd_T A, shpd_T B, eqv_tups]; rfl
theorem eqD_PI (a b : List Int) (L : LH) : eqD L (PI a) (PI b) = some (decide (a = b)) := by
  unfold eqD
  rw [deepL_of (deep_PI a), deepL_of (deep_PI b)]
  show (if SeqAt.shaped (.tuple (a.map PyData.int)) && SeqAt.shaped (.tuple (b.map PyData.int)) then some (PyData.eqvAll (a.map PyData.int) (b.map PyData.int)) else none) = _
  rw [shaped_of (lay_PI a) (by rw [dep_PI]; omega), shaped_of (lay_PI b) (by rw [dep_PI]; omega), eqv_ints]; rfl

theorem eqPT (A B : List (List Int)) (L : LH) : kEq (PT A) (PT B) L = .ok (.bl (decide (A = B))) L := by unfold kEq; rw [eqD_PT]
theorem nePT (A B : List (List Int)) (L : LH) : kNe (PT A) (PT B) L = .ok (.bl (!decide (A = B))) L := by unfold kNe; rw [eqD_PT]
theorem eqPI (A B : List Int) (L : LH) : kEq (PI A) (PI B) L = .ok (.bl (decide (A = B))) L := by unfold kEq; rw [eqD_PI]
/-! units -/
def unit (n i : Nat) : List Int := List.replicate i 0 ++ [1] ++ List.replicate (n - i - 1) 0
theorem unit_len {n i : Nat} (h : i < n) : (unit n i).length = n := by simp [unit]; omega
theorem unit_co {n i : Nat} (j : Nat) : co (unit n i) j = if j = i then 1 else 0 := by
  unfold unit
  rw [co_app, co_app, co_rep0, co_rep0]
  simp only [List.length_append, List.length_replicate, List.length_singleton]
  by_cases h : j < i
  · rw [if_pos (by omega), if_pos h, if_neg (by omega)]
  · by_cases e : j = i
    · subst e
      rw [if_pos (by omega), if_neg (by omega), if_pos rfl, Nat.sub_self]; rfl
    · rw [if_neg (by omega), if_neg e]
theorem unit_row_ok {n i : Nat} (h : i < n) (hn : n ≤ 1000) (L : LH) : m_unit_row [.int (n : Int), .int (i : Int)] L = .ok (PI (unit n i)) L := by
  refine fnD_rt (ret_ok ((d2_ok (a := PI (List.replicate i 0 ++ [1])) (b := PI (List.replicate (n - i - 1) 0)) (L1 := L) (L2 := L) ?_ ?_).trans ((k_plusT (by simp; omega) L).trans rfl)))
  · refine (d2_ok (a := PI (List.replicate i 0)) (b := PI [1]) (L1 := L) (L2 := L) ((call_ok (a := [.int (i : Int)]) (L1 := L) rfl rfl).trans ?_) rfl).trans (k_plusT (by simp; omega) L)
    rw [zero_ok (by omega) (by omega)]; simp
  · refine (call_ok (a := [.int ((n : Int) - (i : Int) - 1)]) (L1 := L) rfl rfl).trans ?_
    rw [zero_ok (by omega) (by omega)]
    have : ((n : Int) - (i : Int) - 1).toNat = n - i - 1 := by omega
    rw [this]
theorem unit_rows_ok {n : Nat} (hn : n ≤ 1000) (L : LH) : m_unit_rows [.int (n : Int)] L = .ok (PT ((List.range n).map (unit n))) L := by
  refine fnD_rt (ret_ok ((dL_ok (ca_ok (a := PL ((List.range n).map (unit n))) (L1 := L) (dLc_ok (items := rangeD 0 n) (L1 := L) (range1_ok rfl (by omega)) (by simp [rangeD]; omega) ?_) cn_ok)).trans rfl))
  have := lc_map (k := gSet 1) (vs := [1]) (e := dCall 2 m_unit_row (daCons (dVar 0) (daCons (dVar 1) daNil))) (env := startD 2 [.int (n : Int)]) (L := L) (g := fun d => match d with | .int i => PI (unit n i.toNat) | d => d) (rangeD 0 n) (fun d hd => by
    unfold rangeD at hd
    obtain ⟨i, hi, rfl⟩ := List.mem_map.mp hd
    have hi' : i < n := by simpa using hi
    refine ⟨[some (.int (n : Int)), some (.int (0 + (i : Int)))], rfl, ?_⟩
    have e0 : (0 + (i : Int)) = (i : Int) := by omega
    rw [e0]
    refine (call_ok (a := [.int (n : Int), .int (i : Int)]) (L1 := L) rfl rfl).trans ?_
    rw [unit_row_ok hi' hn]
    simp)
  rw [this]
  unfold rangeD
  rw [List.map_map, List.map_map]
  congr 1
  refine List.map_congr_left fun i _ => ?_
  show PI (unit n (0 + (i : Int)).toNat) = PI (unit n i)
  have : (0 + (i : Int)).toNat = i := by omega
  rw [this]
theorem at_places_ok {r : List Int} {ls : List Nat} (h : ∀ l ∈ ls, l < r.length) (hn : ls.length ≤ 100000) (L : LH) : m_at_places [PI r, .lst (LI (ls.map fun l : Nat => (l : Int)))] L = .ok (PI (ls.map fun l => co r l)) L := by
  refine fnD_rt (ret_ok ((dL_ok (ca_ok (a := .lst (LI (ls.map fun l => co r l))) (L1 := L) (dLc_ok (items := LI (ls.map fun l : Nat => (l : Int))) (L1 := L) rfl (by simp; omega) ?_) cn_ok)).trans rfl))
  have := lc_int (i := 2) (e := d2 kIx (dVar 0) (dVar 2)) (env := startD 3 [PI r, .lst (LI (ls.map fun l : Nat => (l : Int)))]) (L := L) (f := fun a => co r a.toNat) (ls.map fun l : Nat => (l : Int)) (fun a ha => by
    obtain ⟨l, hl, rfl⟩ := List.mem_map.mp ha
    refine (d2_ok (a := PI r) (b := .int (l : Int)) (L1 := L) (L2 := L) rfl rfl).trans ((seqD_ix (seqT L r) l (h l hl)).trans ?_)
    simp)
  rw [this, List.map_map]
  congr 2
theorem cut_1 (l : List Int) : cutD (LI l) (some 1) none = LI (l.drop 1) := by
  have h1 : HT.sIx (LI l).length 0 (some 1) = min 1 l.length := by
    have hl : (LI l).length = l.length := by simp
    rw [hl]; unfold HT.sIx; simp only []; split <;> omega
  have h2 : HT.sIx (LI l).length (LI l).length none = l.length := by
    have hl : (LI l).length = l.length := by simp
    rw [hl]; rfl
  unfold cutD
  rw [h1, h2]
  cases l with
  | nil => rfl
  | cons a l =>
    have : min 1 (a :: l).length = 1 := by simp
    rw [this]
    simp [LI]
    try exact List.take_of_length_le (by simp)
theorem lc_zipB {i j : Nat} {e : DE} {env : DEnv} {L : LH} {f : Int → Int → Bool} : ∀ (l r : List Int), (∀ a b, e (((wipeD env [i, j]).set i (some (.int a))).set j (some (.int b))) L = .ok (.bl (f a b)) L) → lcD (gSet2 i j) [i, j] dYes e env (zipD (LI l) (LI r)) L = .ok ((List.zipWith f l r).map D.bl) L
  | [], r, _ => by simp [zipD, lcD]
  | a :: l, [], _ => by simp [zipD, lcD]
  | a :: l, b :: r, h => lc_cons (ds := zipD (LI l) (LI r)) (d := .tup [.int a, .int b]) rfl rfl (h a b) (lc_zipB l r h)
theorem adj_pair : ∀ l : List Int, (List.zipWith (fun a b => decide (a < b)) l (l.drop 1)).all id = true ↔ l.Pairwise (· < ·)
  | [] => by simp
  | [a] => by simp
  | a :: b :: l => by
    have ih := adj_pair (b :: l)
    rw [List.drop_one, List.tail_cons, List.zipWith_cons_cons, List.all_cons, Bool.and_eq_true, List.pairwise_cons]
    rw [List.drop_one, List.tail_cons] at ih
    rw [ih]
    constructor
    · rintro ⟨h1, h2⟩
      have hab : a < b := of_decide_eq_true h1
      refine ⟨fun c hc => ?_, h2⟩
      rcases List.mem_cons.mp hc with rfl | hc
      · exact hab
      · exact Int.lt_trans hab ((List.pairwise_cons.mp h2).1 c hc)
    · rintro ⟨h1, h2⟩
      exact ⟨decide_eq_true (h1 b (by simp)), h2⟩
theorem lead_eq {p : Int} {w : Nat} {r : List Int} (hr : Row p w r) {k : Nat} (hk : k < w) (h1 : co r k ≠ 0) (h0 : ∀ i, i < k → co r i = 0) : lead r 0 = k := by
  obtain ⟨_, h2, h3, h4⟩ := lead_ok (r := r) (s := 0) (Nat.zero_le _)
  rw [hr.n] at h2 h4
  rcases Nat.lt_trichotomy (lead r 0) k with z | z | z
  · exact absurd (h0 _ z) (h4 (by omega))
  · exact z
  · exact absurd (h3 k (Nat.zero_le _) z) h1
/-- what the program's test of bases reckons -/
def isBaseB (w : Nat) (R : List (List Int)) : Bool :=
  !((R.map fun r => (lead r 0 : Nat)).any fun l => decide (l = w)) && ((List.zipWith (fun a b => decide (a < b)) (R.map fun r => ((lead r 0 : Nat) : Int)) ((R.map fun r => ((lead r 0 : Nat) : Int)).drop 1)).all id && decide ((R.map fun r => (R.map fun s => lead s 0).map fun l => co r l) = (List.range R.length).map (unit R.length)))
theorem isBaseB_iff {p : Int} {w : Nat} {R : List (List Int)} (hr : ∀ r ∈ R, Row p w r) : isBaseB w R = true ↔ IsB p w R := by
  unfold isBaseB
  rw [Bool.and_eq_true, Bool.and_eq_true, adj_pair, Bool.not_eq_true', decide_eq_true_iff]
  have hld : ∀ r ∈ R, lead r 0 ≤ w := fun r h => by
    have := (lead_ok (r := r) (s := 0) (Nat.zero_le _)).2.1
    rwa [(hr r h).n] at this
  constructor
  · rintro ⟨h1, h2, h3⟩
    have hlt : ∀ r ∈ R, lead r 0 < w := fun r h => by
      rw [List.any_map, List.any_eq_false] at h1
      have := h1 r h
      have h4 : ¬ lead r 0 = w := fun e => this (by show decide (lead r 0 = w) = true; exact decide_eq_true e)
      have := hld r h
      omega
    have hlo : ∀ r ∈ R, ∀ i, i < lead r 0 → co r i = 0 := fun r h i hi => (lead_ok (r := r) (s := 0) (Nat.zero_le _)).2.2.1 i (Nat.zero_le _) hi
    have hasc : Asc (R.map fun r => (lead r 0, r)) := by
      unfold Asc
      rw [List.pairwise_map]
      rw [List.pairwise_map] at h2
      exact h2.imp fun h => by omega
    have hmat : ∀ (i j : Nat) (hi : i < R.length) (hj : j < R.length), co R[i] (lead R[j] 0) = if j = i then 1 else 0 := fun i j hi hj => by
      have e1 : ((R.map fun r => (R.map fun s => lead s 0).map fun l => co r l))[i]'(by simpa using hi) = ((List.range R.length).map (unit R.length))[i]'(by simpa using hi) := by
        congr 1
      rw [List.getElem_map, List.getElem_map, List.getElem_range] at e1
      have e2 := congrArg (fun l => co l j) e1
      simp only [unit_co] at e2
      rw [← e2]
      unfold co
      rw [List.getD_eq_getElem?_getD (l := List.map _ _), List.getElem?_eq_getElem (by simpa using hj)]
      simp
    refine ⟨R.map fun r => (lead r 0, r), ⟨⟨fun b hb => ?_, fun b hb => ?_, fun b hb => ?_, fun b hb i hi => ?_, ?_⟩, fun b hb c hc hne => ?_⟩, hasc, by rw [rowsB, List.map_map]; exact ((List.map_congr_left fun _ _ => rfl).trans (List.map_id R)).symm⟩
    · obtain ⟨r, h, rfl⟩ := List.mem_map.mp hb
      exact hr r h
    · obtain ⟨r, h, rfl⟩ := List.mem_map.mp hb
      exact hlt r h
    · obtain ⟨r, h, rfl⟩ := List.mem_map.mp hb
      obtain ⟨i, hi, rfl⟩ := List.getElem_of_mem h
      have := hmat i i hi hi
      rwa [if_pos rfl] at this
    · obtain ⟨r, h, rfl⟩ := List.mem_map.mp hb
      exact hlo r h i hi
    · unfold List.Nodup
      rw [List.pairwise_map]
      exact hasc.imp fun h => by omega
    · obtain ⟨r, h, rfl⟩ := List.mem_map.mp hb
      obtain ⟨s, h', rfl⟩ := List.mem_map.mp hc
      obtain ⟨i, hi, rfl⟩ := List.getElem_of_mem h
      obtain ⟨j, hj, rfl⟩ := List.getElem_of_mem h'
      have := hmat i j hi hj
      rwa [if_neg (fun e => hne (by subst e; rfl))] at this
  · rintro ⟨B, hB, hA, rfl⟩
    have hl : ∀ b ∈ B, lead b.2 0 = b.1 := fun b hb => lead_eq (hB.row b hb) (hB.lt b hb) (by rw [hB.one b hb]; decide) (hB.low b hb)
    have e1 : (rowsB B).map (fun r => lead r 0) = B.map (·.1) := by
      rw [rowsB, List.map_map]
      exact List.map_congr_left fun b hb => hl b hb
    have e2 : (rowsB B).map (fun r => ((lead r 0 : Nat) : Int)) = B.map fun b => (b.1 : Int) := by
      rw [rowsB, List.map_map]
      exact List.map_congr_left fun b hb => by show ((lead b.2 0 : Nat) : Int) = _; rw [hl b hb]
    refine ⟨?_, ?_, ?_⟩
    · rw [e1, List.any_map, List.any_eq_false]
      intro b hb h
      have := hB.lt b hb
      have : b.1 = w := of_decide_eq_true h
      omega
    · rw [e2, List.pairwise_map]
      exact hA.imp fun h => by omega
    · rw [e1]
      refine List.ext_getElem (by simp) fun i h1 h2 => ?_
      have hi : i < B.length := by simpa using h1
      simp only [List.getElem_map, List.getElem_range]
      refine row_ext (by rw [List.length_map, List.length_map, List.length_map, unit_len hi]) fun j => ?_
      have e3 : (rowsB B)[i]'(by simpa using hi) = B[i].2 := by simp [rowsB]
      try rw [e3]
      rw [unit_co]
      rcases Nat.lt_or_ge j B.length with hj | hj
      · have e4 : co ((B.map (·.1)).map fun l => co B[i].2 l) j = co B[i].2 B[j].1 := by
          conv => lhs; unfold co
          rw [List.getD_eq_getElem?_getD, List.getElem?_eq_getElem (by simpa using hj)]
          simp [co]
        rw [e4]
        by_cases e : j = i
        · subst e
          rw [if_pos rfl]; exact hB.one _ (List.getElem_mem hj)
        · rw [if_neg e]
          refine hB.off _ (List.getElem_mem hi) _ (List.getElem_mem hj) fun z => ?_
          unfold Asc at hA
          rw [List.pairwise_iff_getElem] at hA
          rcases Nat.lt_or_ge i j with q | q
          · have := hA i j hi hj q; omega
          · have := hA j i hj hi (by omega); omega
      · rw [co_ge (by simpa using hj), if_neg (by omega)]
theorem is_base_rows {p : Int} {w : Nat} (hw0 : 0 < w) (hw : w ≤ 150) {R : List (List Int)} (hr : ∀ r ∈ R, Row p w r) (hl : R.length ≤ w) (L : LH) : m_is_base [.int p, .int (w : Int), PT R] L = .ok (.bl (isBaseB w R)) L := by
  have hld : ∀ r ∈ R, lead r 0 ≤ w := fun r h => by
    have := (lead_ok (r := r) (s := 0) (Nat.zero_le _)).2.1
    rwa [(hr r h).n] at this
  have hleads : sSet 3 (dLc (iVal (dVar 2)) (gSet 4) [4] dYes (dCall 2 m_lead_from (daCons (dVar 4) (daCons (dC (.int 0)) daNil)))) [some (.int p), some (.int (w : Int)), some (PT R), none, none, none, none, none] L = .nx [some (.int p), some (.int (w : Int)), some (PT R), some (.lst (LI (R.map fun r => ((lead r 0 : Nat) : Int)))), none, none, none, none] L := by
    refine set_ok (dLc_ok (items := R.map PI) (L1 := L) rfl (by simp; omega) ?_)
    have := lc_map (k := gSet 4) (vs := [4]) (e := dCall 2 m_lead_from (daCons (dVar 4) (daCons (dC (.int 0)) daNil))) (env := [some (.int p), some (.int (w : Int)), some (PT R), none, none, none, none, none]) (L := L) (g := fun d => match intsD (match d with | .tup xs => xs | _ => []) with | some l => .int (lead l 0 : Nat) | none => d) (R.map PI) (fun d hd => by
      obtain ⟨r, h, rfl⟩ := List.mem_map.mp hd
      refine ⟨[some (.int p), some (.int (w : Int)), some (PT R), none, some (PI r), none, none, none], rfl, ?_⟩
      show _ = DL.R.ok (match intsD (LI r) with | some l => D.int (lead l 0 : Nat) | none => PI r) L
      rw [intsD_LI]
      exact (call_ok (a := [PI r, .int ((0 : Nat) : Int)]) (L1 := L) rfl rfl).trans (lead_from_ok (s := 0) (Nat.zero_le _) (by rw [(hr r h).n]; omega) L))
    rw [this, List.map_map, LI, List.map_map]
    congr 1
    refine List.map_congr_left fun r _ => ?_
    show (match intsD (LI r) with | some l => D.int (lead l 0 : Nat) | none => PI r) = D.int ((lead r 0 : Nat) : Int)
    rw [intsD_LI]
  have hany : dTruth (dL (kList fAny) (daCons (dLc (iVal (dVar 3)) (gSet 5) [5] dYes (d2 kEq (dVar 5) (dVar 1))) daNil)) [some (.int p), some (.int (w : Int)), some (PT R), some (.lst (LI (R.map fun r => ((lead r 0 : Nat) : Int)))), none, none, none, none] L = .ok ((R.map fun r => (lead r 0 : Nat)).any fun l => decide (l = w)) L := by
    refine truth_b (d := .bl _) ((any_ok (bs := (R.map fun r => (lead r 0 : Nat)).map fun l => decide (l = w)) (dLc_ok (items := LI (R.map fun r => ((lead r 0 : Nat) : Int))) (L1 := L) rfl (by simp; omega) ?_)).trans (by rw [List.any_map]; rfl)) rfl
    have := lc_bool (i := 5) (e := d2 kEq (dVar 5) (dVar 1)) (env := [some (.int p), some (.int (w : Int)), some (PT R), some (.lst (LI (R.map fun r => ((lead r 0 : Nat) : Int)))), none, none, none, none]) (L := L) (β := fun d => match d with | .int a => a == (w : Int) | _ => false) (LI (R.map fun r => ((lead r 0 : Nat) : Int))) (fun d hd => by
      obtain ⟨a, _, rfl⟩ := List.mem_map.mp hd
      exact (d2_ok (a := .int a) (b := .int (w : Int)) (L1 := L) (L2 := L) rfl rfl).trans (eq_int _ _))
    rw [this, LI, List.map_map, List.map_map, List.map_map, List.map_map, List.map_map]
    congr 1
    refine List.map_congr_left fun r _ => ?_
    show D.bl (((lead r 0 : Nat) : Int) == (w : Int)) = D.bl (decide (lead r 0 = w))
    congr 1
    by_cases e : lead r 0 = w
    · rw [e]; simp
    · rw [decide_eq_false e]; simp; omega
  have hall : dNot (dTruth (dL (kList fAll) (daCons (dLc (iZip2 (daCons (dVar 3) (daCons (dSlice (dVar 3) (doSome (dC (.int 1))) doNone) daNil))) (gSet2 6 7) [6, 7] dYes (d2 kLt (dVar 6) (dVar 7))) daNil))) [some (.int p), some (.int (w : Int)), some (PT R), some (.lst (LI (R.map fun r => ((lead r 0 : Nat) : Int)))), none, none, none, none] L = .ok (!(List.zipWith (fun a b => decide (a < b)) (R.map fun r => ((lead r 0 : Nat) : Int)) ((R.map fun r => ((lead r 0 : Nat) : Int)).drop 1)).all id) L := by
    refine not_b (truth_b (d := .bl _) (all_ok (dLc_ok (items := zipD (LI (R.map fun r => ((lead r 0 : Nat) : Int))) (LI ((R.map fun r => ((lead r 0 : Nat) : Int)).drop 1))) (L1 := L) ?_ (by have := zipD_len (LI (R.map fun r => ((lead r 0 : Nat) : Int))) (LI ((R.map fun r => ((lead r 0 : Nat) : Int)).drop 1)); simp at this ⊢; omega) (lc_zipB _ _ fun a b => (d2_ok (a := .int a) (b := .int b) (L1 := L) (L2 := L) rfl rfl).trans (k_lt _ _)))) rfl)
    have hs : dSlice (dVar 3) (doSome (dC (.int 1))) doNone [some (.int p), some (.int (w : Int)), some (PT R), some (.lst (LI (R.map fun r => ((lead r 0 : Nat) : Int)))), none, none, none, none] L = .ok (.lst (LI ((R.map fun r => ((lead r 0 : Nat) : Int)).drop 1))) L := by
      refine (slice_ok (a := .lst (LI (R.map fun r => ((lead r 0 : Nat) : Int)))) (lo := some 1) (hi := none) rfl rfl rfl).trans ?_
      show DL.R.ok (D.lst (cutD (LI (R.map fun r => ((lead r 0 : Nat) : Int))) (some 1) none)) L = _
      rw [cut_1]
    unfold iZip2
    rw [ca_ok (a := .lst (LI (R.map fun r => ((lead r 0 : Nat) : Int)))) (L1 := L) rfl (ca_ok hs cn_ok)]
    rfl
  refine fnD_rt ((seq_nx _ _ (env1 := [some (.int p), some (.int (w : Int)), some (PT R), none, none, none, none, none]) (L1 := L) ((if_f (not_b (b := true) (truth_b (d := .bl true) ((call_ok (a := [.int p, .int (w : Int), PT R, .int (w : Int)]) (L1 := L) rfl rfl).trans (are_rows_all (by omega) hr (by omega) (by omega) L)) rfl))).trans rfl)).trans ((seq_nx _ _ hleads).trans ?_))
  unfold isBaseB
  cases h1 : (R.map fun r => (lead r 0 : Nat)).any fun l => decide (l = w) with
  | true => rw [h1] at hany; exact (seq_rt _ _ ((if_t hany).trans rfl)).trans rfl
  | false =>
    rw [h1] at hany
    refine (seq_nx _ _ ((if_f hany).trans rfl)).trans ?_
    cases h2 : (List.zipWith (fun a b => decide (a < b)) (R.map fun r => ((lead r 0 : Nat) : Int)) ((R.map fun r => ((lead r 0 : Nat) : Int)).drop 1)).all id with
    | false => rw [h2] at hall; exact (seq_rt _ _ ((if_t hall).trans rfl)).trans rfl
    | true =>
      rw [h2] at hall
      refine (seq_nx _ _ ((if_f hall).trans rfl)).trans (ret_ok ((d2_ok (a := PT (R.map fun r => (R.map fun s => lead s 0).map fun l => co r l)) (b := PT ((List.range R.length).map (unit R.length))) (L1 := L) (L2 := L) ((dL_ok (ca_ok (a := PL (R.map fun r => (R.map fun s => lead s 0).map fun l => co r l)) (L1 := L) (dLc_ok (items := R.map PI) (L1 := L) rfl (by simp; omega) (lc_rows R fun r h => ?_)) cn_ok)).trans rfl) ?_).trans ((eqPT _ _ L).trans rfl)))
      · have hlt : ∀ l ∈ R.map (fun s => lead s 0), l < r.length := fun l hl' => by
          obtain ⟨s, hs, rfl⟩ := List.mem_map.mp hl'
          rw [(hr r h).n]
          rw [List.any_map, List.any_eq_false] at h1
          have h3 : ¬ lead s 0 = w := fun e => h1 s hs (by show decide (lead s 0 = w) = true; exact decide_eq_true e)
          have := hld s hs
          omega
        have := at_places_ok (r := r) (ls := R.map fun s => lead s 0) hlt (by simp; omega) L
        rw [List.map_map] at this
        exact (call_ok (a := [PI r, .lst (LI (R.map fun r => ((lead r 0 : Nat) : Int)))]) (L1 := L) rfl rfl).trans this
      · exact (call_ok (a := [.int (R.length : Int)]) (L1 := L) (ca_ok ((dL_ok (ca_ok (a := .lst (LI (R.map fun r => ((lead r 0 : Nat) : Int)))) (L1 := L) rfl cn_ok)).trans (by show DL.R.ok (D.int ((LI (R.map fun r => ((lead r 0 : Nat) : Int))).length : Int)) L = _; simp)) cn_ok) rfl).trans (unit_rows_ok (by omega) L)
end Law

set_option Elab.async false
set_option linter.all false
set_option maxRecDepth 100000
set_option maxHeartbeats 1000000
namespace Law
open PySem PySem.Spec L2 DL PM
theorem lc_pick1 {k : DG} {vs : List Nat} {t : DT} {e : DE} {env : DEnv} {L : LH} {y : D} {post : List D} {x : D} (h1 : ∃ env1, k x (wipeD env vs) = some env1 ∧ t env1 L = .ok true L ∧ e env1 L = .ok y L) (h2 : ∀ d ∈ post, ∃ env1, k d (wipeD env vs) = some env1 ∧ t env1 L = .ok false L) : ∀ (pre : List D), (∀ d ∈ pre, ∃ env1, k d (wipeD env vs) = some env1 ∧ t env1 L = .ok false L) → lcD k vs t e env (pre ++ x :: post) L = .ok [y] L
  | [], _ => by
    obtain ⟨env1, a, b, c⟩ := h1
    exact lc_cons a b c (lc_none post h2)
  | d :: ds, h => by
    obtain ⟨env1, a, b⟩ := h d (by simp)
    exact lc_skip a b (lc_pick1 h1 h2 ds fun x hx => h x (by simp [hx]))
theorem neL_nil (l : List Int) (L : LH) : kNe (.lst (LI l)) (.lst []) L = .ok (.bl (!l.isEmpty)) L := by
  have h := eqL_nil l L
  unfold kEq at h
  unfold kNe
  split at h
  · cases h; rfl
  · cases h
section
variable {p : Int} {w : Nat}
theorem isbase_not {d : D} {L : LH} (h : m_are_rows [.int p, .int (w : Int), d, .int (w : Int)] L = .ok (.bl false) L) : m_is_base [.int p, .int (w : Int), d] L = .ok (.bl false) L :=
  fnD_rt (seq_rt _ _ ((if_t (not_b (b := false) (truth_b (d := .bl false) ((call_ok (a := [.int p, .int (w : Int), d, .int (w : Int)]) (L1 := L) rfl rfl).trans h) rfl))).trans rfl))
theorem rows_is (hw0 : 0 < w) (hw : w ≤ 150) {R : List (List Int)} (hr : ∀ r ∈ R, Row p w r) (L : LH) : m_is_base [.int p, .int (w : Int), PT R] L = .ok (.bl (decide (R.length ≤ w) && isBaseB w R)) L := by
  by_cases h : R.length ≤ w
  · rw [is_base_rows hw0 hw hr h, decide_eq_true h, Bool.true_and]
  · rw [decide_eq_false h, Bool.false_and]
    exact isbase_not (are_rows_long (by simp; omega) L)
theorem bases_iff {R : List (List Int)} (hr : ∀ r ∈ R, Row p w r) : (decide (R.length ≤ w) && isBaseB w R) = true ↔ IsB p w R := by
  rw [Bool.and_eq_true, isBaseB_iff hr]
  exact ⟨fun h => h.2, fun h => ⟨decide_eq_true h.len, h⟩⟩
end
section
variable {p : Int} {w : Nat}
theorem cut_mem {xs : List D} {lo hi : Option Int} : ∀ d ∈ cutD xs lo hi, d ∈ xs := fun d hd => List.mem_of_mem_drop (List.mem_of_mem_take hd)
theorem cut_short (xs : List D) (lo hi : Option Int) : (cutD xs lo hi).length ≤ xs.length := by
  unfold cutD; rw [List.length_take, List.length_drop]; omega
theorem low_all {b : Nat} : ∀ {ds : List D}, (∀ d ∈ ds, low b d = true) → lowAll b ds = true
  | [], _ => rfl
  | d :: ds, h => by
    show (low b d && lowAll b ds) = true
    rw [h d (by simp), low_all fun x hx => h x (by simp [hx])]; rfl
theorem low_tup {b : Nat} {ds : List D} (h : ∀ d ∈ ds, low b d = true) : low b (.tup ds) = true := by unfold low; exact low_all h
theorem low_lst {b : Nat} {ds : List D} (h : ∀ d ∈ ds, low b d = true) : low b (.lst ds) = true := by unfold low; exact low_all h
end
abbrev zs (w : Nat) : List Int := List.replicate w 0
theorem nat_times {c : Int} {w : Nat} (hw : w ≤ 1000) {f : DE} {env : DEnv} {L : LH} (h : f env L = .ok (.int (w : Int)) L) : d2 DL.kTimes (dL DL.kTup (daCons (dC (.int c)) daNil)) f env L = .ok (PI (List.replicate w c)) L := by
  refine (d2_ok (a := .tup [.int c]) (b := .int (w : Int)) (L1 := L) (L2 := L) rfl h).trans ((k_timesT c (by omega) (by omega) L).trans ?_)
  rw [Int.toNat_natCast]
section
variable {p : Int} (hp : pr p) {w : Nat} (hw0 : 0 < w) (hw : w ≤ 150)
include hp hw0 hw
theorem row_zero : Row p w (zs w) := ⟨by simp, red_of_mem (pr_pos hp) fun x hx => by
  have := List.eq_of_mem_replicate hx
  have := pr_pos hp
  omega⟩
end
def enumG : Nat → List D → List D
  | _, [] => []
  | o, b :: bs => .tup [.int (o : Int), b] :: enumG (o + 1) bs
theorem enumD_G (l : List D) : enumD l = enumG 0 l := by
  have key : ∀ (l : List D) (s : Nat), ((List.range' s l.length).zip l).map (fun p => D.tup [.int (p.1 : Nat), p.2]) = enumG s l := by
    intro l
    induction l with
    | nil => intro s; rfl
    | cons a l ih => intro s; simp only [List.length_cons, List.range'_succ, List.zip_cons_cons, List.map_cons, enumG]; rw [← ih (s + 1)]
  unfold enumD
  rw [List.range_eq_range']
  exact key l 0
theorem cut_toD (l : List D) (n : Nat) (h : n ≤ l.length) : cutD l none (some (n : Int)) = l.take n := by
  unfold cutD
  have h1 : HT.sIx l.length 0 none = 0 := rfl
  have h2 : HT.sIx l.length l.length (some (n : Int)) = n := by
    unfold HT.sIx; simp only []; split <;> omega
  rw [h1, h2]; simp
theorem cut_rows (R : List (List Int)) (lo hi : Option Int) : ∃ R' : List (List Int), cutD (R.map PI) lo hi = R'.map PI ∧ (∀ r ∈ R', r ∈ R) ∧ R'.length ≤ R.length := by
  unfold cutD
  refine ⟨(R.drop (HT.sIx (R.map PI).length 0 lo)).take (HT.sIx (R.map PI).length (R.map PI).length hi - HT.sIx (R.map PI).length 0 lo), ?_, fun x hx => List.mem_of_mem_drop (List.mem_of_mem_take hx), by rw [List.length_take, List.length_drop]; omega⟩
  simp only [List.map_take, List.map_drop]
theorem asg_ok {f : DE} {k : DG} {env env1 : DEnv} {L L1 : LH} {d : D} (h : f env L = .ok d L1) (h2 : k d env = some env1) : sAsg f k env L = .nx env1 L1 := by
  unfold sAsg; rw [h]
  show (match k d env with | some e => SR.nx e L1 | none => .no) = _
  rw [h2]
theorem for_keep {i : Nat} {body : DS} {env : DEnv} {L : LH} : ∀ (items : List D) (x : Option D), (∀ d ∈ items, body (env.set i (some d)) L = .nx (env.set i (some d)) L) → ∃ y, forD (gSet i) body items (env.set i x) L = .nx (env.set i y) L
  | [], x, _ => ⟨x, rfl⟩
  | d :: ds, x, h => by
    obtain ⟨y, e⟩ := for_keep ds (some d) fun z hz => h z (by simp [hz])
    refine ⟨y, (for_go (env1 := env.set i (some d)) ?_ (h d (by simp))).trans e⟩
    show some ((env.set i x).set i (some d)) = _
    rw [List.set_set]
theorem shp_bl (c : Bool) : Shp (.bl c) := ⟨.bool c, rfl, by rfl, by cases c <;> decide⟩
theorem iVal_ok {f : DE} {env : DEnv} {L L1 : LH} {d : D} {xs : List D} (h : f env L = .ok d L1) (k : itemsV d = some xs) : iVal f env L = .ok xs L1 := by
  unfold iVal; rw [h]
  show (match itemsV d with | some xs => R.ok xs L1 | none => .no) = _
  rw [k]
theorem prime_of : ∀ i : Nat, (hi : i < ([.int 2, .int 3, .int 5, .int 7] : List D).length) → ∃ p, ([.int 2, .int 3, .int 5, .int 7] : List D)[i] = .int p ∧ pr p
  | 0, _ => ⟨2, rfl, .inl rfl⟩
  | 1, _ => ⟨3, rfl, .inr (.inl rfl)⟩
  | 2, _ => ⟨5, rfl, .inr (.inr (.inl rfl))⟩
  | 3, _ => ⟨7, rfl, .inr (.inr (.inr rfl))⟩
  | n + 4, h => absurd h (by simp)
theorem fnD_any {N : Nat} {body : DS} {ds : List D} {L ex : LH} {d : D} (h : body (startD N ds) L = .rt d (L ++ ex)) (hd : frzD L.length (L ++ ex) d = some d) (hL : Low L) : fnD N body ds L = .ok d L := by
  by_cases he : ex = []
  · subst he
    rw [List.append_nil] at h
    exact fnD_rt h
  · exact fnD_low h he hd hL
theorem frz_lst {b : Nat} {L : LH} {ds : List D} (h : lowAll b ds = true) : frzD b L (.lst ds) = some (.lst ds) := by
  have : low b (.lst ds) = true := by unfold low; exact h
  unfold frzD
  rw [if_pos this]
end Law

set_option Elab.async false
set_option linter.all false
set_option maxRecDepth 100000
set_option maxHeartbeats 1000000
namespace Law
open PySem PySem.Spec L2 DL PM
/-! what is drawn -/
theorem big_mul2 {i j : Int} (h : 0 ≤ i) (k : i < 9223372036854775808) : mulOk i j = true := by
  unfold mulOk DL.small64
  have : decide (-(2 ^ 64) < i ∧ i < 2 ^ 64) = true := by simp; omega
  rw [this]; rfl
theorem ladle_raw {n : Nat} {L : LH} {a b c : Int} (hp : L[n]? = some (.lst (LI [a, b, c]))) {t : Int} (t0 : 0 < t) (t1 : t ≤ 1000) : ∃ r a1 b1 c1, m_law_ladle [.ref n, .int t] L = .ok (.int r) (L.set n (.lst (LI [a1, b1, c1]))) ∧ (0 ≤ r ∧ r < t) := by
  have i0 : ∀ {x1 x2 x3 x4 : Option D} {L1 : LH} {a b c : Int}, L1[n]? = some (.lst (LI [a, b, c])) → d2 kIx (dVar 0) (dC (.int 0)) [some (.ref n), x1, x2, x3, x4] L1 = .ok (.int a) L1 := fun h => pot_ix h 0 (by simp) rfl rfl
  have i1 : ∀ {x1 x2 x3 x4 : Option D} {L1 : LH} {a b c : Int}, L1[n]? = some (.lst (LI [a, b, c])) → d2 kIx (dVar 0) (dC (.int 1)) [some (.ref n), x1, x2, x3, x4] L1 = .ok (.int b) L1 := fun h => pot_ix h 1 (by simp) rfl rfl
  have i2 : ∀ {x1 x2 x3 x4 : Option D} {L1 : LH} {a b c : Int}, L1[n]? = some (.lst (LI [a, b, c])) → d2 kIx (dVar 0) (dC (.int 2)) [some (.ref n), x1, x2, x3, x4] L1 = .ok (.int c) L1 := fun h => pot_ix h 2 (by simp) rfl rfl
  have ht : dB (d2 kGt (d2 kIx (dVar 0) (dC (.int 0))) (dC (.int 0))) (startD 5 [.ref n, .int t]) L = .ok (decide (0 < a)) L := dB_b ((d2_ok (a := .int a) (b := .int 0) (L1 := L) (L2 := L) (i0 hp) rfl).trans (k_gt _ _))
  by_cases ha : 0 < a
  · rw [decide_eq_true ha] at ht
    refine ⟨a % t, a / t, b, c, ?_, ⟨Int.emod_nonneg _ (by omega), Int.emod_lt_of_pos _ t0⟩⟩
    refine fnD_rtL (seq_rt _ _ ((if_t ht).trans ?_)) (by simp)
    refine (seq_nx _ _ (env1 := [some (.ref n), some (.int t), none, none, some (.int (a % t))]) (L1 := L) (set_ok ((d2_ok (a := .int a) (b := .int t) (L1 := L) (L2 := L) (int_of (i0 hp)) rfl).trans (k_mod _ _ t0)))).trans ?_
    refine (seq_nx _ _ (env1 := [some (.ref n), some (.int t), none, none, some (.int (a % t))]) (L1 := L.set n (.lst (LI [a / t, b, c]))) (setIx_ok (a := .ref n) (i := .int ((0 : Nat) : Int)) (d := .int (a / t)) ?_ rfl rfl (set_ref hp (by simp)))).trans rfl
    exact (d2_ok (a := .int a) (b := .int t) (L1 := L) (L2 := L) (i0 hp) rfl).trans (k_divW _ _ t0 (by omega) _)
  · rw [decide_eq_false ha] at ht
    have hp' : (L.set n (.lst (LI [a, b, c + 1])))[n]? = some (.lst (LI [a, b, c + 1])) := set_get hp
    refine ⟨_, a, b, c + 1, ?_, ⟨Int.emod_nonneg (((b + 1000423 * (c + 1)) % 2305843009213693973 * ((b + 1000423 * (c + 1)) % 2305843009213693973) % 2305843009213693951 * ((b + 1000423 * (c + 1)) % 2305843009213693973) + 6947 * (c + 1)) % 2305843009213693867 / 16384) (by omega), Int.emod_lt_of_pos _ t0⟩⟩
    refine fnD_rtL ((seq_nx _ _ (if_f ht)).trans ?_) (by simp)
    refine (seq_nx _ _ (env1 := [some (.ref n), some (.int t), none, none, none]) (L1 := L.set n (.lst (LI [a, b, c + 1]))) (setIx_ok (a := .ref n) (i := .int ((2 : Nat) : Int)) (d := .int (c + 1)) ((d2_ok (a := .int c) (b := .int 1) (L1 := L) (L2 := L) (i2 hp) rfl).trans rfl) rfl rfl (set_ref hp (by simp)))).trans ?_
    generalize hL2 : L.set n (.lst (LI [a, b, c + 1])) = L2 at hp' ⊢
    have hone : d2 kMod (dL kIntOf (daCons (d2 kPlus (d2 kIx (dVar 0) (dC (.int 1))) (d2 DL.kTimes (dC (.int 1000423)) (d2 kIx (dVar 0) (dC (.int 2))))) daNil)) (dC (.int 2305843009213693973)) [some (.ref n), some (.int t), none, none, none] L2 = .ok (.int ((b + 1000423 * (c + 1)) % 2305843009213693973)) L2 := by
      refine (d2_ok (int_of ((d2_ok (i1 hp') ((d2_ok rfl (i2 hp')).trans (k_times _ _ (big_mul (by decide) (by decide))))).trans (k_plusI _ _))) rfl).trans (k_mod _ _ (by decide))
    refine (seq_nx _ _ (set_ok hone)).trans ?_
    have o0 : 0 ≤ (b + 1000423 * (c + 1)) % 2305843009213693973 := Int.emod_nonneg _ (by decide)
    have o1 : (b + 1000423 * (c + 1)) % 2305843009213693973 < 2305843009213693973 := Int.emod_lt_of_pos _ (by decide)
    generalize (b + 1000423 * (c + 1)) % 2305843009213693973 = one at o0 o1
    have w0 : 0 ≤ (one * one) % 2305843009213693951 := Int.emod_nonneg _ (by decide)
    have w1 : (one * one) % 2305843009213693951 < 2305843009213693951 := Int.emod_lt_of_pos _ (by decide)
    have htwo : d2 kPlus (d2 DL.kTimes (d2 kMod (dL kIntOf (daCons (d2 DL.kTimes (dVar 2) (dVar 2)) daNil)) (dC (.int 2305843009213693951))) (dVar 2)) (d2 DL.kTimes (dC (.int 6947)) (d2 kIx (dVar 0) (dC (.int 2)))) [some (.ref n), some (.int t), some (.int one), none, none] L2 = .ok (.int ((one * one) % 2305843009213693951 * one + 6947 * (c + 1))) L2 := by
      refine (d2_ok ((d2_ok ((d2_ok (int_of ((d2_ok (L1 := L2) (L2 := L2) rfl rfl).trans (k_times one one (big_mul2 o0 (by omega))))) rfl).trans (k_mod _ _ (by decide))) rfl).trans (k_times _ _ (big_mul w0 w1))) ((d2_ok rfl (i2 hp')).trans (k_times _ _ (big_mul (by decide) (by decide))))).trans (k_plusI _ _)
    refine (seq_nx _ _ (set_ok htwo)).trans ?_
    refine ret_ok ((d2_ok (int_of ((d2_ok ((d2_ok (int_of (L1 := L2) rfl) rfl).trans (k_mod _ _ (by decide))) rfl).trans (k_divW _ _ (by decide) (by decide) _))) rfl).trans (k_mod _ _ t0))
theorem ladle_ex {n : Nat} {L : LH} (h : Tri n L) (ex : LH) {t : Int} (t0 : 0 < t) (t1 : t ≤ 1000) : ∃ r L', m_law_ladle [.ref n, .int t] (L ++ ex) = .ok (.int r) (L' ++ ex) ∧ (0 ≤ r ∧ r < t) ∧ Ev n L L' := by
  have h0 := h
  obtain ⟨hL, a, b, c, hp⟩ := h
  have hn : n < L.length := (List.getElem?_eq_some_iff.mp hp).1
  obtain ⟨r, a1, b1, c1, e, h1⟩ := ladle_raw (L := L ++ ex) (by rw [List.getElem?_append_left hn]; exact hp) t0 t1
  rw [List.set_append_left _ _ hn] at e
  exact ⟨r, _, e, h1, ev_set h0 a1 b1 c1⟩
theorem ladle_exn {n : Nat} {L : LH} (h : Tri n L) (ex : LH) {t : Nat} (t0 : 0 < t) (t1 : t ≤ 1000) {f g : DE} {env : DEnv} (hf : f env (L ++ ex) = .ok (.ref n) (L ++ ex)) (hg : g env (L ++ ex) = .ok (.int (t : Int)) (L ++ ex)) : ∃ (r : Nat) (L' : LH), dCall 2 m_law_ladle (daCons f (daCons g daNil)) env (L ++ ex) = .ok (.int (r : Int)) (L' ++ ex) ∧ r < t ∧ Ev n L L' := by
  obtain ⟨r, L', e, h1, h2⟩ := ladle_ex h ex (t := (t : Int)) (by omega) (by omega)
  obtain ⟨i, rfl⟩ : ∃ i : Nat, r = (i : Int) := ⟨r.toNat, by omega⟩
  exact ⟨i, L', (call_ok (a := [.ref n, .int (t : Int)]) (ca_ok hf (ca_ok hg cn_ok)) rfl).trans e, by omega, h2⟩
theorem ladle_nat {n : Nat} {L : LH} (h : Tri n L) {t : Nat} (t0 : 0 < t) (t1 : t ≤ 1000) {f g : DE} {env : DEnv} (hf : f env L = .ok (.ref n) L) (hg : g env L = .ok (.int (t : Int)) L) : ∃ (r : Nat) (L' : LH), dCall 2 m_law_ladle (daCons f (daCons g daNil)) env L = .ok (.int (r : Int)) L' ∧ r < t ∧ Ev n L L' := by
  have := ladle_exn h [] t0 t1 (f := f) (g := g) (env := env) (by rw [List.append_nil]; exact hf) (by rw [List.append_nil]; exact hg)
  simpa only [List.append_nil] using this
theorem ix_D {d : D} {b : Bool} {ds : List D} {L : LH} (h : seqD L d = some (b, ds)) {i : Nat} (hi : i < ds.length) : kIx d (.int (i : Int)) L = .ok ds[i] L := by
  unfold kIx; rw [h]; show orNo (atI ds (i : Int)) L = _
  have : atI ds (i : Int) = some ds[i] := by
    unfold atI ixN
    simp [hi]
  rw [this]; rfl
theorem pick_ex {n : Nat} {L : LH} (h : Tri n L) (ex : LH) {ds : List D} (l0 : ds ≠ []) (l1 : ds.length ≤ 1000) : ∃ (i : Nat) (hi : i < ds.length) (L' : LH), m_law_pick [.ref n, .lst ds] (L ++ ex) = .ok ds[i] (L' ++ ex) ∧ Ev n L L' := by
  have hl : ds.length ≠ 0 := fun e => l0 (List.length_eq_zero_iff.mp e)
  obtain ⟨r, L', e, h1, h2⟩ := ladle_exn h ex (t := ds.length) (by omega) (by omega) (f := dVar 0) (g := dL kLen (daCons (dVar 1) daNil)) (env := [some (.ref n), some (.lst ds)]) rfl rfl
  exact ⟨r, h1, L', fnD_rtL (ret_ok ((d2_ok (a := .lst ds) (L1 := L ++ ex) rfl e).trans (ix_D rfl h1))) (by rw [List.length_append, List.length_append, h2.2]), h2⟩
theorem pick_ok {n : Nat} {L : LH} (h : Tri n L) {ds : List D} (l0 : ds ≠ []) (l1 : ds.length ≤ 1000) : ∃ (i : Nat) (hi : i < ds.length) (L' : LH), m_law_pick [.ref n, .lst ds] L = .ok ds[i] L' ∧ Ev n L L' := by
  have := pick_ex h [] l0 l1
  simpa only [List.append_nil] using this
theorem kettle_ok (ns : List Int) (k : Nat) (L : LH) : ∃ A B : Int, m_law_kettle [.frl (LI ns), .int (k : Int)] L = .ok (LI [A, B, 0]) L := by
  have hc : ∃ c, dIf (dB (d2 kLt (dVar 1) (dL kLen (daCons (dVar 0) daNil)))) (dL kIntOf (daCons (d2 kIx (dVar 0) (dVar 1)) daNil)) (d2 kPlus (d2 DL.kTimes (dC (.int 97)) (dVar 1)) (dC (.int 41))) [some (.frl (LI ns)), some (.int (k : Int)), none, none, none] L = .ok (.int c) L := by
    have ht : dB (d2 kLt (dVar 1) (dL kLen (daCons (dVar 0) daNil))) [some (.frl (LI ns)), some (.int (k : Int)), none, none, none] L = .ok (decide ((k : Int) < ((LI ns).length : Int))) L := dB_b ((d2_ok (a := .int (k : Int)) (b := .int ((LI ns).length : Int)) (L1 := L) (L2 := L) rfl rfl).trans (k_lt _ _))
    by_cases h : (k : Int) < ((LI ns).length : Int)
    · rw [decide_eq_true h] at ht
      rw [List.length_map] at h
      exact ⟨co ns k, (if_dt ht).trans (int_of ((d2_ok (a := .frl (LI ns)) (b := .int (k : Int)) (L1 := L) (L2 := L) rfl rfl).trans (seqD_ix (b := false) rfl k (by omega))))⟩
    · rw [decide_eq_false h] at ht
      exact ⟨97 * (k : Int) + 41, (if_df ht).trans ((d2_ok ((d2_ok (L1 := L) (L2 := L) rfl rfl).trans (k_times _ _ (big_mul (by decide) (by decide)))) rfl).trans (k_plusI _ _))⟩
  obtain ⟨c, hc⟩ := hc
  have hg : d2 kMod (dL kIntOf (daCons (dL (kI1 fun i => if i < 0 then -i else i) (daCons (dVar 2) daNil)) daNil)) (d2 kPow (d2 kPow (dC (.int 10)) (dC (.int 59))) (dC (.int 7))) [some (.frl (LI ns)), some (.int (k : Int)), some (.int c), none, none] L = .ok (.int ((if c < 0 then -c else c) % ((10 ^ 59) ^ 7))) L := by
    refine (d2_ok (int_of ((dL_ok (ca_ok (a := .int c) (L1 := L) rfl cn_ok)).trans rfl)) ((d2_ok (a := .int (10 ^ 59)) (b := .int 7) (L1 := L) (L2 := L) ((d2_ok (a := .int 10) (b := .int 59) (L1 := L) (L2 := L) rfl rfl).trans (by unfold kPow k2I; simp only []; rw [if_pos (by decide)]; rfl)) rfl).trans (by unfold kPow k2I; simp only []; rw [if_pos (by decide +kernel)]; rfl))).trans (k_mod _ _ (by decide +kernel))
  generalize (if c < 0 then -c else c) % ((10 ^ 59) ^ 7) = g at hg
  have m0 : 0 ≤ g % 1152921504606846697 := Int.emod_nonneg _ (by decide)
  have m1 : g % 1152921504606846697 < 1152921504606846697 := Int.emod_lt_of_pos _ (by decide)
  have hm : d2 kPlus (d2 kPlus (d2 kPlus (d2 DL.kTimes (d2 kMod (dL kIntOf (daCons (dVar 3) daNil)) (dC (.int 1152921504606846697))) (dC (.int 60623))) (d2 DL.kTimes (dC (.int 7393)) (dVar 1))) (d2 DL.kTimes (dC (.int 71)) (dL kIntOf (daCons (d2 kLt (dVar 2) (dC (.int 0))) daNil)))) (dC (.int 37)) [some (.frl (LI ns)), some (.int (k : Int)), some (.int c), some (.int g), none] L = .ok (.int (g % 1152921504606846697 * 60623 + 7393 * (k : Int) + 71 * (if decide (c < 0) then 1 else 0) + 37)) L := by
    refine (d2_ok ((d2_ok ((d2_ok ((d2_ok ((d2_ok (int_of (i := g) (L1 := L) rfl) rfl).trans (k_mod _ _ (by decide))) rfl).trans (k_times _ _ (big_mul m0 (by omega)))) ((d2_ok (L1 := L) (L2 := L) rfl rfl).trans (k_times _ _ (big_mul (by decide) (by decide))))).trans (k_plusI _ _)) ((d2_ok (L1 := L) rfl ((dL_ok (ca_ok ((d2_ok (a := .int c) (b := .int 0) (L1 := L) (L2 := L) rfl rfl).trans (k_lt _ _)) cn_ok)).trans rfl)).trans (k_times _ _ (big_mul (by decide) (by decide))))).trans (k_plusI _ _)) rfl).trans (k_plusI _ _)
  generalize g % 1152921504606846697 * 60623 + 7393 * (k : Int) + 71 * (if decide (c < 0) then 1 else 0) + 37 = m at hm
  refine ⟨if g - 10 ^ 16 + 3 > 0 then g - 10 ^ 16 + 3 else 0, m % 2305843009213693973, fnF_rf ((seq_nx _ _ (set_ok hc)).trans ((seq_nx _ _ (set_ok hg)).trans ((seq_nx _ _ (set_ok hm)).trans (retF_ok ?_))))⟩
  have hx : daCons (dL (kI2 fun i j => if j > i then j else i) (daCons (dC (.int 0)) (daCons (d2 kPlus (d2 kSub (dVar 3) (d2 kPow (dC (.int 10)) (dC (.int 16)))) (dC (.int 3))) daNil))) (daCons (d2 kMod (dL kIntOf (daCons (dVar 4) daNil)) (dC (.int 2305843009213693973))) (daCons (dC (.int 0)) daNil)) [some (.frl (LI ns)), some (.int (k : Int)), some (.int c), some (.int g), some (.int m)] L = .ok (LI [if g - 10 ^ 16 + 3 > 0 then g - 10 ^ 16 + 3 else 0, m % 2305843009213693973, 0]) L := by
    refine ca_ok ((dL_ok (ca_ok (a := .int 0) (L1 := L) rfl (ca_ok ((d2_ok ((d2_ok (a := .int g) (b := .int (10 ^ 16)) (L1 := L) (L2 := L) rfl ((d2_ok (a := .int 10) (b := .int 16) (L1 := L) (L2 := L) rfl rfl).trans (by unfold kPow k2I; simp only []; rw [if_pos (by decide)]; rfl))).trans (k_sub _ _)) rfl).trans (k_plusI _ _)) cn_ok))).trans rfl) (ca_ok ((d2_ok (int_of (i := m) (L1 := L) rfl) rfl).trans (k_mod _ _ (by decide))) (ca_ok (L1 := L) rfl cn_ok))
  exact (congrArg (fun r => R.bind r fun ds L1 => if fits ds.length = true then R.ok ds L1 else R.no) hx).trans rfl

end Law

set_option Elab.async false
set_option linter.all false
set_option maxRecDepth 100000
set_option maxHeartbeats 1000000
namespace Law
open PySem PySem.Spec L2 DL PM
theorem fnD_ref {N : Nat} {body : DS} {ds : List D} {L0 L ex : LH} {k : Nat} {xs : List D} (h : body (startD N ds) L0 = .rt (.ref k) (L ++ ex)) (hn : L.length = L0.length) (hk : L.length ≤ k) (he : (L ++ ex)[k]? = some (LO.lst xs)) (hx : lowAll L.length xs = true) (hL : Low L) : fnD N body ds L0 = .ok (.lst xs) L := by
  have hlt : k < (L ++ ex).length := (List.getElem?_eq_some_iff.mp he).1
  unfold fnD; rw [h]
  show leave L0 (L ++ ex) (.ref k) = _
  unfold leave
  rw [if_neg (by omega), ← hn]
  have hf : frzD L.length (L ++ ex) (.ref k) = some (.lst xs) := by
    unfold frzD
    rw [if_neg (by omega), he]
    show (if lowAll L.length xs = true then some (D.lst xs) else none) = _
    rw [if_pos hx]
  rw [hf, List.take_left']
  · show (if L.all (lowO L.length) = true then R.ok (D.lst xs) L else .no) = _
    exact if_pos hL
  · rfl
theorem app_ok {f g : DE} {env : DEnv} {L L2 : LH} {m : Nat} {ds ds2 : List D} {b : D} (hf : f env L = .ok (.ref m) L) (h1 : L[m]? = some (.lst ds)) (hg : g env L = .ok b L2) (h2 : L2[m]? = some (.lst ds2)) (hl : ds2.length ≤ 100000) : sExpr (dAppend f g) env L = .nx env (L2.set m (.lst (ds2 ++ [b]))) := by
  refine expr_ok (d := .non) ?_
  unfold dAppend
  rw [hf]
  show (if isRefL (.ref m) L = true then R.bind (g env L) fun b L2 => kAppend (.ref m) b L2 else .no) = _
  rw [if_pos (by show (match L[m]? with | some (.lst _) => true | _ => false) = true; rw [h1]), hg]
  show kAppend (.ref m) b L2 = _
  unfold kAppend
  simp only [h2]
  rw [if_pos (by simp; omega)]
theorem get_l (L ex : LH) (x : LO) {m : Nat} (hm : m = L.length + ex.length) : (L ++ (ex ++ [x]))[m]? = some x := by subst hm; simp
theorem set_l (L ex : LH) (x y : LO) {m : Nat} (hm : m = L.length + ex.length) : (L ++ (ex ++ [x])).set m y = L ++ (ex ++ [y]) := by subst hm; simp
theorem set_f (L ex : LH) (x y : LO) {m : Nat} (hm : m = L.length) : (L ++ x :: ex).set m y = L ++ y :: ex := by subst hm; simp
theorem get_f (L ex : LH) (x : LO) {m : Nat} (hm : m = L.length) : (L ++ x :: ex)[m]? = some x := by subst hm; simp
theorem tupOf_ref {L : LH} {n : Nat} {F : List D} (h : L[n]? = some (.lst F)) : kTupleOf [.ref n] L = .ok (.tup F) L := by
  have : seqD L (.ref n) = some (false, F) := by
    show (match L[n]? with | some (.lst ds) => some (false, ds) | _ => none) = _
    rw [h]
  unfold kTupleOf; simp only []; rw [this]
theorem listOf_ref {L : LH} {n : Nat} {F : List D} (h : L[n]? = some (.lst F)) : kListOf [.ref n] L = .ok (.lst F) L := by
  have : seqD L (.ref n) = some (false, F) := by
    show (match L[n]? with | some (.lst ds) => some (false, ds) | _ => none) = _
    rw [h]
  unfold kListOf; simp only []; rw [this]
theorem low_PI (b : Nat) (l : List Int) : low b (PI l) = true := by unfold low; exact low_LI b l
theorem low_PIs (b : Nat) : ∀ R : List (List Int), lowAll b (R.map PI) = true
  | [] => rfl
  | a :: l => by
    show (low b (PI a) && lowAll b (l.map PI)) = true
    rw [low_PI, low_PIs b l]; rfl
theorem ladle_exi {n : Nat} {L : LH} (h : Tri n L) (ex : LH) {t : Int} (t0 : 0 < t) (t1 : t ≤ 1000) {f g : DE} {env : DEnv} (hf : f env (L ++ ex) = .ok (.ref n) (L ++ ex)) (hg : g env (L ++ ex) = .ok (.int t) (L ++ ex)) : ∃ (r : Int) (L' : LH), dCall 2 m_law_ladle (daCons f (daCons g daNil)) env (L ++ ex) = .ok (.int r) (L' ++ ex) ∧ (0 ≤ r ∧ r < t) ∧ Ev n L L' := by
  obtain ⟨r, L', e, h1, h2⟩ := ladle_ex h ex t0 t1
  exact ⟨r, L', (call_ok (a := [.ref n, .int t]) (ca_ok hf (ca_ok hg cn_ok)) rfl).trans e, h1, h2⟩
/-! lines that are drawn -/
abbrev newL : DF := fun env L => (daNil env L).bind fun ds L1 => if fits ds.length then .ok ds L1 else .no
abbrev innerB : DS := sSeq (sSet 9 (dCall 2 m_law_ladle (daCons (dVar 0) (daCons (dVar 1) daNil)))) (sExpr (dAppend (dVar 7) (dIf (dOr (dNot (dTruth (dVar 6))) (dB (d2 kEq (dCall 2 m_law_ladle (daCons (dVar 0) (daCons (dC (.int 3)) daNil))) (dC (.int 0))))) (dVar 9) (dC (.int 0)))))
abbrev lineB : DS := sSeq (sNew 7 newL) (sSeq (sFor (iRange1 (daCons (dVar 3) daNil)) (gSet 8) innerB) (sExpr (dAppend (dVar 5) (dL kTupleOf (daCons (dVar 7) daNil)))))
section
variable {p : Int} (p0 : 0 < p) (p1 : p ≤ 1000) {n : Nat}
include p0 p1
abbrev eLi (n : Nat) (p : Int) (x2 x3 x4 : Option D) (f : Nat) (thin : Bool) (x7 x8 x9 : Option D) : DEnv := [some (.ref n), some (.int p), x2, x3, x4, some (.ref f), some (.bl thin), x7, x8, x9]
theorem lines_row (x2 x3 x4 : Option D) (f : Nat) (thin : Bool) (m : Nat) (ex : LH) : ∀ (items : List D) (L : LH) (r : List Int) (x8 x9 : Option D), Tri n L → m = L.length + ex.length → (∀ x ∈ r, 0 ≤ x ∧ x < p) → r.length + items.length ≤ 1000 →
    ∃ L' r' y8 y9, Ev n L L' ∧ (∀ x ∈ r', 0 ≤ x ∧ x < p) ∧ r'.length = r.length + items.length ∧
    forD (gSet 8) innerB items (eLi n p x2 x3 x4 f thin (some (.ref m)) x8 x9) (L ++ (ex ++ [.lst (LI r)])) = .nx (eLi n p x2 x3 x4 f thin (some (.ref m)) y8 y9) (L' ++ (ex ++ [.lst (LI r')]))
  | [], L, r, x8, x9, h, _, hr, _ => ⟨L, r, x8, x9, Ev.refl h, hr, by simp, rfl⟩
  | d :: items, L, r, x8, x9, h, hm, hr, hl => by
    obtain ⟨e, L1, e1, h1, v1⟩ := ladle_exi h (ex ++ [.lst (LI r)]) p0 p1 (f := dVar 0) (g := dVar 1) (env := eLi n p x2 x3 x4 f thin (some (.ref m)) (some d) x9) rfl rfl
    have hin : ∃ b L2, dIf (dOr (dNot (dTruth (dVar 6))) (dB (d2 kEq (dCall 2 m_law_ladle (daCons (dVar 0) (daCons (dC (.int 3)) daNil))) (dC (.int 0))))) (dVar 9) (dC (.int 0)) (eLi n p x2 x3 x4 f thin (some (.ref m)) (some d) (some (.int e))) (L1 ++ (ex ++ [.lst (LI r)])) = .ok (.int b) (L2 ++ (ex ++ [.lst (LI r)])) ∧ (0 ≤ b ∧ b < p) ∧ Ev n L1 L2 := by
      cases thin with
      | false => exact ⟨e, L1, (if_dt (or_t (not_b (b := false) (truth_b (d := .bl false) rfl rfl)))).trans rfl, h1, Ev.refl v1.1⟩
      | true =>
        obtain ⟨q, L2, e2, h2, v2⟩ := ladle_exi v1.1 (ex ++ [.lst (LI r)]) (t := 3) (by decide) (by decide) (f := dVar 0) (g := dC (.int 3)) (env := eLi n p x2 x3 x4 f true (some (.ref m)) (some d) (some (.int e))) rfl rfl
        have ht : dOr (dNot (dTruth (dVar 6))) (dB (d2 kEq (dCall 2 m_law_ladle (daCons (dVar 0) (daCons (dC (.int 3)) daNil))) (dC (.int 0)))) (eLi n p x2 x3 x4 f true (some (.ref m)) (some d) (some (.int e))) (L1 ++ (ex ++ [.lst (LI r)])) = .ok (q == 0) (L2 ++ (ex ++ [.lst (LI r)])) := (or_f (not_b (b := true) (truth_b (d := .bl true) rfl rfl))).trans (dB_b ((d2_ok e2 rfl).trans (eq_int _ _)))
        cases hq : q == 0 with
        | true => rw [hq] at ht; exact ⟨e, L2, (if_dt ht).trans rfl, h1, v2⟩
        | false => rw [hq] at ht; exact ⟨0, L2, (if_df ht).trans rfl, ⟨by omega, p0⟩, v2⟩
    obtain ⟨b, L2, e2, h2, v2⟩ := hin
    have hv := v1.trans v2
    obtain ⟨L3, r3, y8, y9, v3, h3, n3, e3⟩ := lines_row x2 x3 x4 f thin m ex items L2 (r ++ [b]) (some d) (some (.int e)) v2.1 (by rw [hv.2]; exact hm) (fun x hx => by
      rcases List.mem_append.mp hx with z | z
      · exact hr x z
      · have : x = b := by simpa using z
        subst this; exact h2) (by simp at hl ⊢; omega)
    refine ⟨L3, r3, y8, y9, hv.trans v3, h3, by rw [n3]; simp; omega, (for_go (env1 := eLi n p x2 x3 x4 f thin (some (.ref m)) (some d) x9) rfl ((seq_nx _ _ (set_ok e1)).trans (app_ok (ds := LI r) (ds2 := LI r) rfl (get_l _ _ _ (by rw [v1.2]; exact hm)) e2 (get_l _ _ _ (by rw [hv.2]; exact hm)) (by simp at hl ⊢; omega)))).trans ?_⟩
    rw [set_l _ _ _ _ (by rw [hv.2]; exact hm)]
    have : LI r ++ [D.int b] = LI (r ++ [b]) := by simp
    rw [this]
    exact e3
theorem lines_loop {w : Nat} (hw : w ≤ 150) (x2 : Option D) (f : Nat) (thin : Bool) : ∀ (items : List D) (L : LH) (R : List (List Int)) (gs : LH) (x4 x7 x8 x9 : Option D), Tri n L → f = L.length → (∀ r ∈ R, Row p w r) → R.length + items.length ≤ 1000 →
    ∃ (L' : LH) (R' : List (List Int)) (gs' : LH) (y4 y7 y8 y9 : Option D), Ev n L L' ∧ (∀ r ∈ R', Row p w r) ∧ R'.length = R.length + items.length ∧
    forD (gSet 4) lineB items (eLi n p x2 (some (.int (w : Int))) x4 f thin x7 x8 x9) (L ++ (.lst (R.map PI) :: gs)) = .nx (eLi n p x2 (some (.int (w : Int))) y4 f thin y7 y8 y9) (L' ++ (.lst (R'.map PI) :: gs'))
  | [], L, R, gs, x4, x7, x8, x9, h, _, hr, _ => ⟨L, R, gs, x4, x7, x8, x9, Ev.refl h, hr, by simp, rfl⟩
  | d :: items, L, R, gs, x4, x7, x8, x9, h, hf, hr, hl => by
    obtain ⟨L1, r1, y8, y9, v1, h1, n1, e1⟩ := lines_row p0 p1 x2 (some (.int (w : Int))) (some d) f thin (L ++ (.lst (R.map PI) :: gs)).length (.lst (R.map PI) :: gs) (rangeD 0 w) L [] x8 x9 h (by simp) (fun _ z => nomatch z) (by simp [rangeD]; omega)
    obtain ⟨L2, R2, gs2, z4, z7, z8, z9, v2, h2, n2, e2⟩ := lines_loop hw x2 f thin items L1 (R ++ [r1]) (gs ++ [.lst (LI r1)]) (some d) (some (.ref (L ++ (.lst (R.map PI) :: gs)).length)) y8 y9 v1.1 (by rw [v1.2]; exact hf) (fun x hx => by
      rcases List.mem_append.mp hx with z | z
      · exact hr x z
      · have : x = r1 := by simpa using z
        subst this
        exact ⟨by rw [n1]; simp [rangeD], red_of_mem p0 h1⟩) (by simp at hl ⊢; omega)
    refine ⟨L2, R2, gs2, z4, z7, z8, z9, v1.trans v2, h2, by rw [n2]; simp; omega, (for_go (env1 := eLi n p x2 (some (.int (w : Int))) (some d) f thin x7 x8 x9) rfl ((seq_nx _ _ (env1 := eLi n p x2 (some (.int (w : Int))) (some d) f thin (some (.ref (L ++ (.lst (R.map PI) :: gs)).length)) x8 x9) (L1 := L ++ ((.lst (R.map PI) :: gs) ++ [.lst (LI [])])) ?_).trans ((seq_nx _ _ (env1 := eLi n p x2 (some (.int (w : Int))) (some d) f thin (some (.ref (L ++ (.lst (R.map PI) :: gs)).length)) y8 y9) (L1 := L1 ++ ((.lst (R.map PI) :: gs) ++ [.lst (LI r1)])) ?_).trans (app_ok (ds := R.map PI) (ds2 := R.map PI) rfl (get_f _ _ _ (by rw [v1.2]; exact hf)) (b := PI r1) ((dL_ok (ca_ok (a := .ref (L ++ (.lst (R.map PI) :: gs)).length) (L1 := L1 ++ ((.lst (R.map PI) :: gs) ++ [.lst (LI r1)])) rfl cn_ok)).trans (tupOf_ref (get_l _ _ _ (by rw [v1.2]; simp)))) (get_f _ _ _ (by rw [v1.2]; exact hf)) (by simp at hl ⊢; omega))))).trans ?_⟩
    · show SR.nx _ ((L ++ (.lst (R.map PI) :: gs)) ++ [.lst []]) = _
      rw [List.append_assoc]; rfl
    · rw [ev_for, range1_ok (n := w) rfl (by omega), toS_ok]
      exact e1
    · rw [show ((LO.lst (R.map PI) :: gs) ++ [LO.lst (LI r1)]) = LO.lst (R.map PI) :: (gs ++ [LO.lst (LI r1)]) from rfl, set_f _ _ _ _ (by rw [v1.2]; exact hf)]
      have : R.map PI ++ [PI r1] = (R ++ [r1]).map PI := by simp
      rw [this]
      exact e2
theorem lines_ok {w : Nat} (hw : w ≤ 150) {L : LH} (h : Tri n L) {k : Nat} (hk : k ≤ 100) : ∃ (R : List (List Int)) (L' : LH), m_law_lines [.ref n, .int p, .int (k : Int), .int (w : Int)] L = .ok (.lst (R.map PI)) L' ∧ R.length = k ∧ (∀ r ∈ R, Row p w r) ∧ Ev n L L' := by
  obtain ⟨q, L1, e1, h1, v1⟩ := ladle_exi h [.lst []] (t := 3) (by decide) (by decide) (f := dVar 0) (g := dC (.int 3)) (env := [some (.ref n), some (.int p), some (.int (k : Int)), some (.int (w : Int)), none, none, none, none, none, none]) rfl rfl
  obtain ⟨L2, R2, gs2, z4, z7, z8, z9, v2, h2, n2, e2⟩ := lines_loop p0 p1 hw (some (.int (k : Int))) L.length (q == 0) (rangeD 0 k) L1 [] [] none none none none v1.1 v1.2.symm (fun _ z => nomatch z) (by simp [rangeD]; omega)
  have hv := v1.trans v2
  refine ⟨R2, L2, fnD_ref (L := L2) (ex := .lst (R2.map PI) :: gs2) (k := L.length) ?_ hv.2 (by rw [hv.2]; omega) (get_f _ _ _ hv.2.symm) (low_PIs _ _) hv.1.1, by rw [n2]; simp [rangeD], h2, hv⟩
  refine (seq_nx _ _ (env1 := eLi n p (some (.int (k : Int))) (some (.int (w : Int))) none L.length (q == 0) none none none) (L1 := L1 ++ [.lst []]) ?_).trans ?_
  · unfold sParF0
    show R.toS (d2 kEq (dCall 2 m_law_ladle (daCons (dVar 0) (daCons (dC (.int 3)) daNil))) (dC (.int 0)) [some (.ref n), some (.int p), some (.int (k : Int)), some (.int (w : Int)), none, none, none, none, none, none] (L ++ [.lst []])) _ _ = _
    rw [(d2_ok e1 rfl).trans (eq_int _ _)]; rfl
  · refine (seq_nx _ _ (by rw [ev_for, range1_ok (n := k) rfl (by omega), toS_ok]; exact e2)).trans ?_
    rfl
end
end Law

set_option Elab.async false
set_option linter.all false
set_option maxRecDepth 100000
set_option maxHeartbeats 1000000
namespace Law
open PySem PySem.Spec L2 DL PM
/-! rows within a base -/
noncomputable def inSp (p : Int) (R : List (List Int)) (v : List Int) : Bool := @decide (Sp p R (co v)) (Classical.propDecidable _)
theorem inSp_iff {p : Int} {R : List (List Int)} {v : List Int} : inSp p R v = true ↔ Sp p R (co v) := by
  unfold inSp
  exact @decide_eq_true_iff _ (Classical.propDecidable _)
theorem dc_cons {k : DG} {vs : List Nat} {t : DT} {ke e : DE} {env env1 : DEnv} {L : LH} {d y z : D} {ky : Key} {ds : List D} {ks : List (Key × D)} {r : R (List (Key × D))} (h1 : k d (wipeD env vs) = some env1) (h2 : t env1 L = .ok true L) (h3 : ke env1 L = .ok y L) (hk : keyD y = some ky) (h4 : e env1 L = .ok z L) (h5 : dcD k vs t ke e env ds (putD ks ky z) L = r) : dcD k vs t ke e env (d :: ds) ks L = r := by
  simp [dcD, h1, h2, noX, h3, h4, hk, h5]
theorem steps_loop (x : Option D) {L : LH} : ∀ (B done : List (Nat × List Int)), ((done ++ B).map (·.1)).Nodup → (∀ b ∈ B, lead b.2 0 = b.1 ∧ b.2.length ≤ 100000) →
    dcD (gSet 1) [1] dYes (dCall 2 m_lead_from (daCons (dVar 1) (daCons (dC (.int 0)) daNil))) (dVar 1) [x, none] ((rowsB B).map PI) (KD done) L = .ok (KD (done ++ B)) L
  | [], done, _, _ => by rw [List.append_nil]; rfl
  | b :: B, done, nd, h => by
    obtain ⟨h1, h2⟩ := h b (by simp)
    have ih := steps_loop x (L := L) B (done ++ [b]) (by simpa using nd) fun c hc => h c (by simp [hc])
    have hk : dCall 2 m_lead_from (daCons (dVar 1) (daCons (dC (.int 0)) daNil)) [x, some (PI b.2)] L = .ok (.int (b.1 : Int)) L := by
      refine (call_ok (a := [PI b.2, .int ((0 : Nat) : Int)]) (L1 := L) rfl rfl).trans ((lead_from_ok (s := 0) (Nat.zero_le _) h2 L).trans ?_)
      rw [h1]
    have hn : b.1 ∉ done.map (·.1) := by
      rw [List.map_append, List.map_cons, List.nodup_append] at nd
      intro hc
      exact nd.2.2 _ hc _ (by simp) rfl
    have hp := put_new hn b.2
    exact dc_cons (ds := (rowsB B).map PI) (d := PI b.2) (env1 := [x, some (PI b.2)]) rfl rfl hk rfl rfl (by rw [hp, ih, List.append_assoc]; rfl)
theorem idx_lead : ∀ (l : List Int) (k : Nat), k < l.length → co l k = 1 → (∀ i, i < k → co l i = 0) → idxI l 1 = some k
  | [], k, h, _, _ => absurd h (Nat.not_lt_zero k)
  | a :: l, 0, _, h1, _ => by
    have : a = 1 := h1
    unfold idxI; rw [if_pos this]
  | a :: l, k + 1, h, h1, h0 => by
    have : a = 0 := h0 0 (by omega)
    have ih := idx_lead l k (by simpa using h) h1 fun i hi => h0 (i + 1) (by omega)
    unfold idxI; rw [if_neg (by rw [this]; decide), ih]; rfl
section
variable {p : Int} (hp : pr p) {w : Nat} (hw0 : 0 < w) (hw : w ≤ 150)
include hp hw0 hw
theorem steps_ok {B : List (Nat × List Int)} (hB : Bas p w B) (hA : Asc B) (L : LH) : m_steps_of [PT (rowsB B)] L = .ok (.dic (KD B)) L := by
  have hl : B.length ≤ w := by
    have := IsB.len ⟨B, hB, hA, rfl⟩
    rwa [List.length_map] at this
  refine fnD_rt (ret_ok ?_)
  unfold dDc
  show R.bind (R.ok ((rowsB B).map PI) L) _ = _
  show (if fits ((rowsB B).map PI).length = true then _ else _) = _
  rw [if_pos (fits_le (m := 1000) (by omega) (by simp; omega))]
  exact (congrArg (fun r => R.bind r fun ks L2 => R.ok (D.dic ks) L2) (steps_loop (some (PT (rowsB B))) (L := L) B [] (by simpa using hB.nd) fun b hb => ⟨lead_eq (hB.row b hb) (hB.lt b hb) (by rw [hB.one b hb]; decide) (hB.low b hb), by rw [(hB.row b hb).n]; omega⟩)).trans rfl
theorem hold_iff {B : List (Nat × List Int)} (hB : Bas p w B) {u v : List Int} (hu : Row p w u) (h0 : ∀ b ∈ B, co u b.1 = 0) (hs : Sp p (rowsB B) (fun i => co u i - co v i)) : u = zs w ↔ Sp p (rowsB B) (co v) := by
  constructor
  · rintro rfl
    exact (hs.smul (-1)).cgr fun i => cg_of (by rw [co_rep0]; omega)
  · intro hv
    have hz := hB.zero (f := co u) ((hs.lin 1 hv).cgr fun i => cg_of (by omega)) h0
    refine row_ext (by rw [hu.n]; simp) fun i => ?_
    rw [co_rep0]
    have h1 := Row.sm hp hu i
    have h2 := hz i
    unfold cg at h2
    rw [Int.emod_eq_of_lt h1.1 h1.2.1] at h2
    rw [h2]; exact Int.zero_emod _
theorem holds_ok {R : List (List Int)} (hR : IsB p w R) {v : List Int} (hv : Row p w v) (L : LH) : m_does_hold [.int p, .int (w : Int), PT R, PI v] L = .ok (.bl (inSp p R v)) L := by
  have hrow := hR.row
  have hlen := hR.len
  have hb := rows_is hw0 hw hrow L
  rw [(bases_iff hrow).mpr hR] at hb
  obtain ⟨B, hB, hA, rfl⟩ := hR
  obtain ⟨u, u1, u2, u3, u4⟩ := beyond_ok hp (by omega : w ≤ 1000) hB.toEch (d := .dic (KD B)) (L := L) rfl hv
  have hw2 : m_is_within [.int p, PT (rowsB B), .tup [PI v]] L = .ok (.bl (inSp p (rowsB B) v)) L := by
    refine fnD_rt ((seq_nx _ _ (set_ok ((call_ok (a := [PT (rowsB B)]) (L1 := L) rfl rfl).trans (steps_ok hp hw0 hw hB hA L)))).trans (ret_ok ((all_ok (bs := [inSp p (rowsB B) v]) (dLc_ok (items := [PI v]) (L1 := L) rfl (by simp) (lc_cons (L2 := L) (L3 := L) (env1 := [some (.int p), some (PT (rowsB B)), some (.tup [PI v]), some (.dic (KD B)), some (PI v)]) rfl rfl ?_ rfl))).trans (by simp))))
    refine (d2_ok (a := PI u) (b := PI (zs w)) (L1 := L) (L2 := L) ((call_ok (a := [.int p, .dic (KD B), PI v]) (L1 := L) rfl rfl).trans u4) ?_).trans ((eqPI _ _ L).trans ?_)
    · refine (call_ok (a := [.int (w : Int)]) (L1 := L) (ca_ok ((dL_ok (ca_ok (a := PI v) (L1 := L) rfl cn_ok)).trans (by show DL.R.ok (D.int ((LI v).length : Int)) L = _; rw [List.length_map, hv.n])) cn_ok) rfl).trans ?_
      rw [zero_ok (by omega) (by omega)]; simp
    · have e : decide (u = zs w) = inSp p (rowsB B) v := by
        rw [Bool.eq_iff_iff, inSp_iff, decide_eq_true_iff]
        exact hold_iff hp hw0 hw hB u1 u2 u3
      rw [e]
  refine fnD_rt ((seq_nx _ _ (expr_ok ((call_ok (a := [.int p]) (L1 := L) rfl rfl).trans (check_prime_ok hp L)))).trans ((seq_nx _ _ (expr_ok ((call_ok (a := [.int (w : Int)]) (L1 := L) rfl rfl).trans (check_width_ok hw0 hw L)))).trans ((seq_nx _ _ (expr_ok (d := .non) (L1 := L) ((call_ok (a := [.int p, .int (w : Int), PT (rowsB B)]) (L1 := L) rfl rfl).trans (fnD_nx ((if_f (not_b (b := true) (truth_b (d := .bl true) ((call_ok (a := [.int p, .int (w : Int), PT (rowsB B)]) (L1 := L) rfl rfl).trans hb) rfl))).trans rfl))))).trans ((seq_nx _ _ (expr_ok (d := .non) (L1 := L) ((call_ok (a := [.int p, .int (w : Int), PI v]) (L1 := L) rfl rfl).trans (fnD_nx ((if_f (not_b (b := true) (truth_b (d := .bl true) ((call_ok (a := [.int p, .int (w : Int), PI v]) (L1 := L) rfl rfl).trans (rowD_row hv (by omega) L)) rfl))).trans rfl))))).trans (ret_ok ((call_ok (a := [.int p, PT (rowsB B), .tup [PI v]]) (L1 := L) rfl rfl).trans hw2))))))
/-! the law's way -/
abbrev hasB : DS := sSet 2 (dCall 4 m_law_plus (daCons (dVar 0) (daCons (dVar 2) (daCons (dVar 3) (daCons (d2 kSub (dC (.int 0)) (d2 kIx (dVar 2) (dIndexT (dVar 3) (dC (.int 1))))) daNil)))))
theorem has_loop (x1 : Option D) (L : LH) {A : List (Nat × List Int)} (hA : Bas p w A) : ∀ (B done : List (Nat × List Int)) (v : List Int) (x3 : Option D), (∀ b ∈ B, b ∈ A) → (∀ b ∈ done, b ∈ A) → ((done ++ B).map (·.1)).Nodup → Row p w v → (∀ b ∈ done, co v b.1 = 0) →
    ∃ u y3, Row p w u ∧ (∀ b ∈ done ++ B, co u b.1 = 0) ∧ Sp p (rowsB A) (fun i => co u i - co v i) ∧ forD (gSet 3) hasB ((rowsB B).map PI) [some (.int p), x1, some (PI v), x3] L = .nx [some (.int p), x1, some (PI u), y3] L
  | [], done, v, x3, _, _, _, hv, h0 => ⟨v, x3, hv, by rw [List.append_nil]; exact h0, Sp.zero.cgr fun i => cg_of (by omega), rfl⟩
  | b :: B, done, v, x3, hB, hd, nd, hv, h0 => by
    have hb := hB b (by simp)
    have hrow := hA.row b hb
    have hs := Row.sm hp hv b.1
    have hi : dIndexT (dVar 3) (dC (.int 1)) [some (.int p), x1, some (PI v), some (PI b.2)] L = .ok (.int (b.1 : Int)) L := by
      show (match intsD (LI b.2) with | some is => (match idxI is 1 with | some j => DL.R.ok (D.int (j : Nat)) L | none => .no) | none => .no) = _
      rw [intsD_LI]
      simp only []
      rw [idx_lead b.2 b.1 (by rw [hrow.n]; exact hA.lt b hb) (hA.one b hb) (hA.low b hb)]
    have hn : b.1 ∉ done.map (·.1) := by
      rw [List.map_append, List.map_cons, List.nodup_append] at nd
      intro hc
      exact nd.2.2 _ hc _ (by simp) rfl
    have hnew : Row p w (addR p (0 - co v b.1) v b.2) := row_addR hp hv hrow
    obtain ⟨u, y3, u1, u2, u3, u4⟩ := has_loop x1 L hA B (done ++ [b]) (addR p (0 - co v b.1) v b.2) (some (PI b.2)) (fun c hc => hB c (by simp [hc])) (fun c hc => by
      rcases List.mem_append.mp hc with z | z
      · exact hd c z
      · have : c = b := by simpa using z
        rw [this]; exact hb) (by simpa using nd) hnew (fun c hc => by
      rw [co_addR (by rw [hv.n, hrow.n])]
      rcases List.mem_append.mp hc with z | z
      · have hcb : b.1 ≠ c.1 := fun e => hn (e ▸ List.mem_map.mpr ⟨c, z, rfl⟩)
        rw [h0 c z, hA.off b hb c (hd c z) hcb]; simp
      · have : c = b := by simpa using z
        rw [this, hA.one b hb]
        have : co v b.1 + (0 - co v b.1) * 1 = 0 := by omega
        rw [this]; exact Int.zero_emod p)
    refine ⟨u, y3, u1, by simpa using u2, ?_, (for_go (env1 := [some (.int p), x1, some (PI v), some (PI b.2)]) rfl (set_ok ((call_ok (a := [.int p, PI v, PI b.2, .int (0 - co v b.1)]) (L1 := L) (ca_ok rfl (ca_ok rfl (ca_ok rfl (ca_ok ((d2_ok rfl ((d2_ok (a := PI v) (b := .int (b.1 : Int)) (L1 := L) (L2 := L) rfl hi).trans (seqD_ix (seqT L v) b.1 (by rw [hv.n]; exact hA.lt b hb)))).trans (k_sub _ _)) cn_ok)))) rfl).trans (lplus_ok (pr_pos hp) (by omega) (by omega) (by rw [hv.n]; omega) L)))).trans u4⟩
    refine (u3.lin (0 - co v b.1) (Sp.mem (List.mem_map.mpr ⟨b, hb, rfl⟩))).cgr fun i => ?_
    rw [co_addR (by rw [hv.n, hrow.n])]
    have : cg p ((co v i + (0 - co v b.1) * co b.2 i) % p) (co v i + (0 - co v b.1) * co b.2 i) := by unfold cg; exact Int.emod_emod_of_dvd _ (Int.dvd_refl p)
    have h2 := cg_sub (cg_rfl (p := p) (a := co u i)) this
    have h3 := cg_add h2 (cg_rfl (p := p) (a := (0 - co v b.1) * co b.2 i))
    refine cg_trans h3 (cg_of ?_)
    omega
theorem has_ok {R : List (List Int)} (hR : IsB p w R) {v : List Int} (hv : Row p w v) (L : LH) : m_law_has [.int p, PT R, PI v] L = .ok (.bl (inSp p R v)) L := by
  obtain ⟨B, hB, hA, rfl⟩ := hR
  obtain ⟨u, y3, u1, u2, u3, u4⟩ := has_loop hp hw0 hw (some (PT (rowsB B))) L hB B [] v none (fun _ h => h) (fun _ h => nomatch h) (by simpa using hB.nd) hv (fun _ h => nomatch h)
  refine fnD_rt ((seq_nx _ _ (env1 := [some (.int p), some (PT (rowsB B)), some (PI u), y3]) (L1 := L) u4).trans (ret_ok ((d2_ok (a := .int (maxI u)) (b := .int 0) (L1 := L) (L2 := L) (max_ok (Row.ne u1 hw0) rfl) rfl).trans ((eq_int _ _).trans ?_))))
  have e : (maxI u == 0) = inSp p (rowsB B) v := by
    rw [Bool.eq_iff_iff, inSp_iff, beq_iff_eq, (max_zero u1 hw0).1, ← hold_iff hp hw0 hw hB u1 (by simpa using u2) u3]
    constructor
    · intro h
      exact row_ext (by rw [u1.n]; simp) fun i => by rw [h i, co_rep0]
    · rintro rfl i
      exact co_rep0 _ _
  rw [e]
end
end Law

set_option Elab.async false
set_option linter.all false
set_option maxRecDepth 100000
set_option maxHeartbeats 1000000
namespace Law
open PySem PySem.Spec L2 DL PM
/-! how many rows a base has -/
theorem ech_len {p : Int} (hp : pr p) {W : Nat} {D E : List (Nat × List Int)} (hD : Ech p W D) (hE : Ech p W E) (hs : Same p (rowsB D) (rowsB E)) : D.length = E.length := by
  have := nd_same hD.nd hE.nd fun k => by
    rw [hD.leads hp k, hE.leads hp k]
    exact ⟨fun ⟨f, h1, h2⟩ => ⟨f, hs.to h1, h2⟩, fun ⟨f, h1, h2⟩ => ⟨f, hs.symm.to h1, h2⟩⟩
  simpa using this
theorem ech_ext {p : Int} (hp : pr p) {w : Nat} (hw : w ≤ 1000) {B : List (Nat × List Int)} {done : List (List Int)} (hB : Ech p w B) (hs : Same p (rowsB B) done) {v : List Int} (hv : Row p w v) (hn : ¬ Sp p done (co v)) : ∃ B', Ech p w B' ∧ Same p (rowsB B') (done ++ [v]) ∧ B'.length = B.length + 1 := by
  obtain ⟨u, hu, u0, us, _⟩ := beyond_ok hp hw hB (dict_at [] B) hv
  have hk := lead_ok (r := u) (s := 0) (Nat.zero_le _)
  rw [hu.n] at hk
  generalize hkk : lead u 0 = k at hk
  have usd : Sp p done (fun i => co u i - co v i) := hs.to us
  have hkw : k < w := Classical.byContradiction fun hkw => by
    have hz : ∀ i, co u i = 0 := fun i => by
      rcases Nat.lt_or_ge i k with z | z
      · exact hk.2.2.1 i (Nat.zero_le _) z
      · exact co_ge (by rw [hu.n]; omega)
    exact hn ((usd.smul (-1)).cgr fun i => cg_of (by rw [hz]; omega))
  have hne := hk.2.2.2 hkw
  have hsm := Row.sm hp hu k
  have hi := inv_ok hp (show 0 < co u k by omega) hsm.2.1
  have hone := inv_unit hp (show 0 < co u k by omega) hsm.2.1
  have hout : k ∉ B.map (·.1) := fun h => by
    obtain ⟨b, hb, e⟩ := List.mem_map.mp h
    exact hne (by rw [← e]; exact u0 b hb)
  refine ⟨B ++ [(k, mulR p (inv p (co u k)) u)], ?_, ?_, by simp⟩
  · refine ⟨fun b hb => ?_, fun b hb => ?_, fun b hb => ?_, fun b hb i hi' => ?_, ?_⟩
    · rcases List.mem_append.mp hb with q | q
      · exact hB.row b q
      · rw [List.mem_singleton.mp q]; exact row_mulR hp hu
    · rcases List.mem_append.mp hb with q | q
      · exact hB.lt b q
      · rw [List.mem_singleton.mp q]; exact hkw
    · rcases List.mem_append.mp hb with q | q
      · exact hB.one b q
      · rw [List.mem_singleton.mp q, co_mulR]; exact hone
    · rcases List.mem_append.mp hb with q | q
      · exact hB.low b q i hi'
      · rw [List.mem_singleton.mp q] at hi' ⊢
        rw [co_mulR, hk.2.2.1 i (Nat.zero_le _) hi']; simp
    · rw [List.map_append, List.nodup_append]
      exact ⟨hB.nd, by simp, fun a ha b hb => by
        rw [List.mem_singleton.mp hb]
        exact fun e => hout (by have e' : a = k := e; rw [← e']; exact ha)⟩
  · have hv1 : Sp p (done ++ [v]) (co v) := .mem (by simp)
    have hus : Sp p (done ++ [v]) (co u) := (hv1.lin 1 (usd.mono fun r h => by simp [h])).cgr fun i => cg_of (by omega)
    have hmem : Sp p (rowsB (B ++ [(k, mulR p (inv p (co u k)) u)])) (co (mulR p (inv p (co u k)) u)) := .mem (by simp)
    have hu2 : Sp p (rowsB (B ++ [(k, mulR p (inv p (co u k)) u)])) (co u) := (hmem.smul (co u k)).cgr fun i => by
      rw [co_mulR]
      refine cg_trans (cg_mul cg_rfl cg_mod) ?_
      rw [← Int.mul_assoc]
      have := cg_mul hi.2.2 (cg_rfl (a := co u i))
      rwa [Int.one_mul] at this
    refine ⟨fun r hr => ?_, fun r hr => ?_⟩
    · rw [rowsB, List.map_append, List.mem_append] at hr
      rcases hr with q | q
      · exact (hs.l r q).mono fun r h => by simp [h]
      · rw [List.mem_singleton.mp q]; exact sp_mulR hus
    · rcases List.mem_append.mp hr with q | q
      · exact (hs.r r q).mono fun r h => by simp only [rowsB, List.map_append, List.mem_append]; exact .inl h
      · rw [List.mem_singleton.mp q]
        exact (hu2.sub (us.mono fun r h => by simp only [rowsB, List.map_append, List.mem_append]; exact .inl h)).cgr fun i => cg_of (by omega)
theorem ech_build {p : Int} (hp : pr p) {w : Nat} (hw : w ≤ 1000) : ∀ (rs done : List (List Int)) (B : List (Nat × List Int)), (∀ r ∈ rs, Row p w r) → Ech p w B → Same p (rowsB B) done → (∀ r1 r r2, rs = r1 ++ r :: r2 → ¬ Sp p (done ++ r1) (co r)) → ∃ B', Ech p w B' ∧ Same p (rowsB B') (done ++ rs) ∧ B'.length = B.length + rs.length
  | [], done, B, _, hB, hs, _ => ⟨B, hB, by rw [List.append_nil]; exact hs, rfl⟩
  | v :: rs, done, B, hr, hB, hs, hi => by
    obtain ⟨B1, h1, h2, h3⟩ := ech_ext hp hw hB hs (hr v (by simp)) (by simpa using hi [] v rs rfl)
    obtain ⟨B2, k1, k2, k3⟩ := ech_build hp hw rs (done ++ [v]) B1 (fun r h => hr r (by simp [h])) h1 h2 fun r1 r r2 e => by
      have := hi (v :: r1) r r2 (by rw [e]; rfl)
      rwa [List.append_assoc]
    exact ⟨B2, k1, by rw [List.append_assoc] at k2; exact k2, by rw [k3, h3]; simp; omega⟩
theorem dup_sp {p : Int} {w : Nat} {A : List (List Int)} (hA : ∀ a ∈ A, Row p w a) {u : Nat → Int} (h : Sp p (A.map fun a => a ++ a) u) : ∀ i, i < w → cg p (u i) (u (w + i)) := by
  induction h with
  | zero => exact fun _ _ => cg_rfl
  | @add f r c _ hr ih =>
    obtain ⟨a, ha, rfl⟩ := List.mem_map.mp hr
    intro i hi
    show cg p (f i + c * co (a ++ a) i) (f (w + i) + c * co (a ++ a) (w + i))
    rw [co_l (hA a ha).n hi, co_r (hA a ha).n]
    exact cg_add (ih i hi) cg_rfl
  | cgr _ he ih => exact fun i hi => cg_trans (cg_sym (he i)) (cg_trans (ih i hi) (he (w + i)))
theorem row_dup {p : Int} (hp : pr p) {w : Nat} {a : List Int} (h : Row p w a) : Row p (w + w) (a ++ a) := ⟨by simp [h.n], red_of_mem (pr_pos hp) fun x hx => by
  rcases List.mem_append.mp hx with z | z <;> exact mem_of_red h.r x z⟩
theorem row_pad {p : Int} (hp : pr p) {w : Nat} {a : List Int} (h : Row p w a) : Row p (w + w) (a ++ List.replicate w 0) := ⟨by simp [h.n], red_of_mem (pr_pos hp) fun x hx => by
  rcases List.mem_append.mp hx with z | z
  · exact mem_of_red h.r x z
  · have := List.eq_of_mem_replicate z
    have := pr_pos hp
    omega⟩
/-- the stack of two bases has as many steps as both have rows -/
theorem stack_ech {p : Int} (hp : pr p) {w : Nat} (hw : w ≤ 400) {A B : List (Nat × List Int)} (hA : Bas p w A) (hB : Bas p w B) : ∃ D, Ech p (w + w) D ∧ Same p (rowsB D) (stackZ w (rowsB A) (rowsB B)) ∧ D.length = A.length + B.length := by
  have rA : ∀ r ∈ rowsB A, Row p w r := fun r hr => by
    obtain ⟨b, hb, rfl⟩ := List.mem_map.mp hr
    exact hA.row b hb
  obtain ⟨D1, d1, d2, d3⟩ := ech_build hp (by omega : w + w ≤ 1000) ((rowsB A).map fun a => a ++ a) [] [] (fun r hr => by
    obtain ⟨a, ha, rfl⟩ := List.mem_map.mp hr
    exact row_dup hp (rA a ha)) ⟨(fun _ z => nomatch z), (fun _ z => nomatch z), (fun _ z => nomatch z), (fun _ z => nomatch z), List.nodup_nil⟩ Same.refl (fun r1 r r2 e hsp => by
    rw [List.map_map] at e
    obtain ⟨l1, l2, e1, e2, e3⟩ := List.map_eq_append_iff.mp e
    obtain ⟨b, l3, e4, e5, e6⟩ := List.map_eq_cons_iff.mp e3
    subst e2
    subst e5
    have hb : b ∈ A := by rw [e1, e4]; simp
    have hnd := hA.nd
    rw [e1, e4, List.map_append, List.map_cons, List.nodup_append] at hnd
    have := Sp.low (k := b.1) (fun x hx => by
      rw [List.nil_append] at hx
      obtain ⟨c, hc, rfl⟩ := List.mem_map.mp hx
      have hcA : c ∈ A := by rw [e1]; simp [hc]
      show co (c.2 ++ c.2) b.1 = 0
      rw [co_l (hA.row c hcA).n (hA.lt b hb)]
      exact hA.off c hcA b hb (hnd.2.2 _ (List.mem_map.mpr ⟨c, hc, rfl⟩) _ (by simp))) hsp
    have e7 : co (b.2 ++ b.2) b.1 = 1 := by rw [co_l (hA.row b hb).n (hA.lt b hb)]; exact hA.one b hb
    exact one_ne hp (by rw [← e7]; exact this))
  obtain ⟨D, k1, k2, k3⟩ := ech_build hp (by omega : w + w ≤ 1000) ((rowsB B).map fun b => b ++ List.replicate w 0) ([] ++ (rowsB A).map fun a => a ++ a) D1 (fun r hr => by
    obtain ⟨a, ha, rfl⟩ := List.mem_map.mp hr
    obtain ⟨b, hb, rfl⟩ := List.mem_map.mp ha
    exact row_pad hp (hB.row b hb)) d1 d2 (fun r1 r r2 e hsp => by
    rw [List.map_map] at e
    obtain ⟨l1, l2, e1, e2, e3⟩ := List.map_eq_append_iff.mp e
    obtain ⟨b, l3, e4, e5, e6⟩ := List.map_eq_cons_iff.mp e3
    subst e2
    subst e5
    have hb : b ∈ B := by rw [e1, e4]; simp
    have hbw := hB.lt b hb
    have hnd := hB.nd
    rw [e1, e4, List.map_append, List.map_cons, List.nodup_append] at hnd
    rw [List.nil_append] at hsp
    obtain ⟨u, v, h1, h2, h3⟩ := sp_app hsp
    have hcB : ∀ c ∈ l1, c ∈ B := fun c hc => by rw [e1]; simp [hc]
    have v1 : cg p (v b.1) 0 := h2.low fun x hx => by
      obtain ⟨c, hc, rfl⟩ := List.mem_map.mp hx
      show co (c.2 ++ List.replicate w 0) b.1 = 0
      rw [co_l (hB.row c (hcB c hc)).n hbw]
      exact hB.off c (hcB c hc) b hb (hnd.2.2 _ (List.mem_map.mpr ⟨c, hc, rfl⟩) _ (by simp))
    have v2 : cg p (v (w + b.1)) 0 := h2.low fun x hx => by
      obtain ⟨c, hc, rfl⟩ := List.mem_map.mp hx
      show co (c.2 ++ List.replicate w 0) (w + b.1) = 0
      rw [co_r (hB.row c (hcB c hc)).n, co_rep0]
    have e7 : co (b.2 ++ List.replicate w 0) b.1 = 1 := by rw [co_l (hB.row b hb).n hbw]; exact hB.one b hb
    have e8 : co (b.2 ++ List.replicate w 0) (w + b.1) = 0 := by rw [co_r (hB.row b hb).n, co_rep0]
    have q1 := h3 b.1
    have q2 := h3 (w + b.1)
    rw [show ((fun b => b ++ List.replicate w 0) ∘ fun x : Nat × List Int => x.2) b = b.2 ++ List.replicate w 0 from rfl] at q1 q2
    rw [e7] at q1
    rw [e8] at q2
    have q3 := dup_sp rA h1 b.1 hbw
    have q4 : cg p (u (w + b.1)) 0 := by
      have := cg_sub (cg_sym q2) v2
      exact cg_trans (cg_of (show u (w + b.1) = u (w + b.1) + v (w + b.1) - v (w + b.1) by omega)) (cg_trans this (cg_of (by omega)))
    have q5 : cg p 1 0 := cg_trans q1 (cg_trans (cg_add (cg_trans q3 q4) v1) (cg_of (by omega)))
    exact one_ne hp q5)
  refine ⟨D, k1, by rw [List.nil_append] at k2; exact k2, ?_⟩
  rw [k3, d3]; simp
theorem dims {p : Int} (hp : pr p) {w : Nat} (hw : w ≤ 400) {A B S M : List (Nat × List Int)} (hA : Bas p w A) (hB : Bas p w B) (hS : Bas p w S) (hM : Bas p w M) (hs : Same p (rowsB S) (rowsB A ++ rowsB B)) (hm : ∀ h, Sp p (rowsB M) h ↔ Sp p (rowsB A) h ∧ Sp p (rowsB B) h) : S.length + M.length = A.length + B.length := by
  have rA : ∀ r ∈ rowsB A, Row p w r := fun r hr => by
    obtain ⟨b, hb, rfl⟩ := List.mem_map.mp hr
    exact hA.row b hb
  have rB : ∀ r ∈ rowsB B, Row p w r := fun r hr => by
    obtain ⟨b, hb, rfl⟩ := List.mem_map.mp hr
    exact hB.row b hb
  obtain ⟨D, d1, d2, d3⟩ := stack_ech hp hw hA hB
  rw [← d3]
  have := nd_same (l := S.map (·.1) ++ (M.map (·.1)).map (w + ·)) (r := D.map (·.1)) (by
    rw [List.nodup_append]
    refine ⟨hS.nd, ?_, fun a ha b hb e => ?_⟩
    · unfold List.Nodup
      rw [List.pairwise_map]
      exact List.Pairwise.imp (fun h e => h (by omega)) hM.nd
    · obtain ⟨x, hx, rfl⟩ := List.mem_map.mp ha
      obtain ⟨y, hy, rfl⟩ := List.mem_map.mp hb
      have := hS.lt x hx
      omega) d1.nd fun k => ?_
  · simpa using this
  · rw [d1.leads hp k, List.mem_append, hS.toEch.leads hp k]
    constructor
    · rintro (⟨g, g1, g2, g3⟩ | h)
      · have hkw : k < w := by
          have : k ∈ S.map (·.1) := (hS.toEch.leads hp k).mpr ⟨g, g1, g2, g3⟩
          obtain ⟨x, hx, rfl⟩ := List.mem_map.mp this
          exact hS.lt x hx
        obtain ⟨u, v, u1, v1, e⟩ := sp_app (hs.to g1)
        obtain ⟨f, f1, f2, f3⟩ := z_to rA rB u1 v1
        have hfg : ∀ i, i < w → cg p (f i) (g i) := fun i hi => cg_trans (f2 i hi) (cg_sym (e i))
        exact ⟨f, d2.symm.to f1, fun i hi => cg_trans (hfg i (by omega)) (g2 i hi), fun z => g3 (cg_trans (cg_sym (hfg k hkw)) z)⟩
      · obtain ⟨k', hk', rfl⟩ := List.mem_map.mp h
        obtain ⟨g, g1, g2, g3⟩ := (hM.toEch.leads hp k').mp hk'
        obtain ⟨f, f1, f2, f3⟩ := (meet_span rA rB g).mpr ((hm g).mp g1)
        refine ⟨f, d2.symm.to f1, fun i hi => ?_, fun z => g3 (cg_trans (f3 k') z)⟩
        rcases Nat.lt_or_ge i w with q | q
        · exact f2 i q
        · have : i = w + (i - w) := by omega
          rw [this]
          exact cg_trans (cg_sym (f3 (i - w))) (g2 _ (by omega))
    · rintro ⟨f, f1, f2, f3⟩
      have f1' := d2.to f1
      rcases Nat.lt_or_ge k w with q | q
      · left
        obtain ⟨u, v, u1, v1, e1, e2⟩ := z_from rA rB f1'
        exact ⟨fun i => u i + v i, hs.symm.to (app_sp u1 v1), fun i hi => cg_trans (cg_sym (e1 i (by omega))) (f2 i hi), fun z => f3 (cg_trans (e1 k q) z)⟩
      · right
        have hkk : k = w + (k - w) := by omega
        refine List.mem_map.mpr ⟨k - w, ?_, hkk.symm⟩
        refine (hM.toEch.leads hp _).mpr ⟨fun i => f (w + i), (hm _).mpr ((meet_span rA rB _).mp ⟨f, f1', fun i hi => f2 i (by omega), fun _ => cg_rfl⟩), fun i hi => f2 _ (by omega), fun z => f3 ?_⟩
        rw [hkk]; exact z
end Law

set_option Elab.async false
set_option linter.all false
set_option maxRecDepth 100000
set_option maxHeartbeats 1000000
namespace Law
open PySem PySem.Spec L2 DL PM
/-! the program's sums and meets -/
theorem dx_ok {D' : List (Nat × List Int)} (nd : (D'.map (·.1)).Nodup) {k : Nat} {r : List Int} (h : (k, r) ∈ D') (L : LH) : kDx (.dic (KD D')) (.int (k : Int)) L = .ok (PI r) L := by
  show (match some (KD D'), some (Sum.inl (k : Int)) with | some ks, some k => orNo (valD ks k) L | _, _ => .no) = _
  show orNo (valD (KD D') (.inl (k : Int))) L = _
  rw [val_in nd h]; rfl
theorem cut_from (l : List Int) (w : Nat) (h : w ≤ l.length) : cutD (LI l) (some (w : Int)) none = LI (l.drop w) := by
  have hl : (LI l).length = l.length := by simp
  have h1 : HT.sIx (LI l).length 0 (some (w : Int)) = w := by
    rw [hl]; unfold HT.sIx; simp only []; split <;> omega
  have h2 : HT.sIx (LI l).length (LI l).length none = l.length := by rw [hl]; rfl
  unfold cutD
  rw [h1, h2]
  simp only [LI, ← List.map_drop, ← List.map_take]
  congr 1
  exact List.take_of_length_le (by simp)
theorem k_ge (i j : Int) (L : LH) : kGe (.int i) (.int j) L = .ok (.bl (decide (j ≤ i))) L := rfl
theorem tails_lc {p : Int} {w : Nat} {D0 : List (Nat × List Int)} (nd : (D0.map (·.1)).Nodup) (hl : ∀ b ∈ D0, w ≤ b.2.length) (L : LH) : ∀ (D' : List (Nat × List Int)), (∀ b ∈ D', b ∈ D0) →
    lcD (gSet 3) [3] (dB (d2 kGe (dVar 3) (dVar 1))) (dSlice (d2 kDx (dVar 2) (dVar 3)) (doSome (dVar 1)) doNone) [some (.int p), some (.int (w : Int)), some (.dic (KD D0)), none] (keysD (KD D')) L = .ok (((rowsB (D'.filter fun b => decide (w ≤ b.1))).map (List.drop w)).map PI) L
  | [], _ => rfl
  | b :: D', h => by
    have ih := tails_lc (p := p) nd hl L D' fun x hx => h x (by simp [hx])
    have hb := h b (by simp)
    have ht : dB (d2 kGe (dVar 3) (dVar 1)) [some (.int p), some (.int (w : Int)), some (.dic (KD D0)), some (.int (b.1 : Int))] L = .ok (decide ((w : Int) ≤ (b.1 : Int))) L := dB_b ((d2_ok (a := .int (b.1 : Int)) (b := .int (w : Int)) (L1 := L) (L2 := L) rfl rfl).trans (k_ge _ _ L))
    show lcD _ _ _ _ _ (.int (b.1 : Int) :: keysD (KD D')) L = _
    by_cases hk : w ≤ b.1
    · rw [List.filter_cons_of_pos (by simpa using hk)]
      rw [decide_eq_true (by omega)] at ht
      refine lc_cons (env1 := [some (.int p), some (.int (w : Int)), some (.dic (KD D0)), some (.int (b.1 : Int))]) rfl ht ?_ ih
      refine (slice_ok (a := PI b.2) (lo := some (w : Int)) (hi := none) ((d2_ok (a := .dic (KD D0)) (b := .int (b.1 : Int)) (L1 := L) (L2 := L) rfl rfl).trans (dx_ok nd (by exact hb) L)) rfl rfl).trans ?_
      show DL.R.ok (D.tup (cutD (LI b.2) (some (w : Int)) none)) L = _
      rw [cut_from _ _ (hl b hb)]
    · rw [List.filter_cons_of_neg (by simpa using hk)]
      rw [decide_eq_false (by omega)] at ht
      exact lc_skip (env1 := [some (.int p), some (.int (w : Int)), some (.dic (KD D0)), some (.int (b.1 : Int))]) rfl ht ih
section
variable {p : Int} (hp : pr p) {w : Nat} (hw0 : 0 < w) (hw : w ≤ 150)
include hp hw0 hw
theorem checksp_ok {A : List (List Int)} (hA : IsB p w A) (L : LH) : m_check_space [.int p, .int (w : Int), PT A] L = .ok .non L := by
  have hb := rows_is hw0 hw hA.row L
  rw [(bases_iff hA.row).mpr hA] at hb
  exact fnD_nx ((if_f (not_b (b := true) (truth_b (d := .bl true) ((call_ok (a := [.int p, .int (w : Int), PT A]) (L1 := L) rfl rfl).trans hb) rfl))).trans rfl)
theorem checksps_ok {A B : List (List Int)} (hA : IsB p w A) (hB : IsB p w B) (L : LH) : m_check_spaces [.int p, .int (w : Int), PT A, PT B] L = .ok .non L :=
  fnD_nx ((seq_nx _ _ (expr_ok ((call_ok (a := [.int p]) (L1 := L) rfl rfl).trans (check_prime_ok hp L)))).trans ((seq_nx _ _ (expr_ok ((call_ok (a := [.int (w : Int)]) (L1 := L) rfl rfl).trans (check_width_ok hw0 hw L)))).trans ((seq_nx _ _ (expr_ok ((call_ok (a := [.int p, .int (w : Int), PT A]) (L1 := L) rfl rfl).trans (checksp_ok hp hw0 hw hA L)))).trans (expr_ok ((call_ok (a := [.int p, .int (w : Int), PT B]) (L1 := L) rfl rfl).trans (checksp_ok hp hw0 hw hB L))))))
theorem sum_ok {A B : List (List Int)} (hA : IsB p w A) (hB : IsB p w B) (hl : A.length + B.length < 64) {L : LH} (hL : Low L) : ∃ S, IsB p w S ∧ Same p S (A ++ B) ∧ m_space_sum [.int p, .int (w : Int), PT A, PT B] L = .ok (PT S) L := by
  obtain ⟨S, h1, h2, _, h3⟩ := reduced_ok hp (show w ≤ 1000 by omega) (rs := A ++ B) (fun r hr => (List.mem_append.mp hr).elim (hA.row r) (hB.row r)) (by simpa using hl) (d := .tup ((A ++ B).map PI)) rfl hL
  refine ⟨S, h1, h2, fnD_rt ((seq_nx _ _ (expr_ok ((call_ok (a := [.int p, .int (w : Int), PT A, PT B]) (L1 := L) rfl rfl).trans (checksps_ok hp hw0 hw hA hB L)))).trans (ret_ok ((call_ok (a := [.int p, .tup ((A ++ B).map PI)]) (L1 := L) (ca_ok rfl (ca_ok ((d2_ok (a := PT A) (b := PT B) (L1 := L) (L2 := L) rfl rfl).trans ((k_plusTD (by simp; omega) L).trans (by simp))) cn_ok)) rfl).trans h3)))⟩
theorem tails_ok {D0 : List (Nat × List Int)} (hD : Ech p (w + w) D0) (hl : D0.length < 64) {L : LH} (hL : Low L) : ∃ R, IsB p w R ∧ Same p R ((rowsB (D0.filter fun b => decide (w ≤ b.1))).map (List.drop w)) ∧ m_tails [.int p, .int (w : Int), .dic (KD D0)] L = .ok (PT R) L := by
  obtain ⟨R, h1, h2, _, h3⟩ := reduced_ok hp (show w ≤ 1000 by omega) (rs := (rowsB (D0.filter fun b => decide (w ≤ b.1))).map (List.drop w)) (fun r hr => by
    obtain ⟨x, hx, rfl⟩ := List.mem_map.mp hr
    obtain ⟨b, hb, rfl⟩ := List.mem_map.mp hx
    have hb' := hD.row b (List.mem_filter.mp hb).1
    exact ⟨by rw [List.length_drop, hb'.n]; omega, red_of_mem (pr_pos hp) fun y hy => mem_of_red hb'.r y (List.mem_of_mem_drop hy)⟩) (by
    rw [List.length_map, List.length_map]
    exact Nat.lt_of_le_of_lt (List.length_filter_le _ _) hl) (d := .lst (((rowsB (D0.filter fun b => decide (w ≤ b.1))).map (List.drop w)).map PI)) rfl hL
  refine ⟨R, h1, h2, fnD_rt (ret_ok ((call_ok (a := [.int p, .lst (((rowsB (D0.filter fun b => decide (w ≤ b.1))).map (List.drop w)).map PI)]) (L1 := L) (ca_ok rfl (ca_ok ?_ cn_ok)) rfl).trans h3))⟩
  have := dLc_ok (f := iDicK 2) (k := gSet 3) (vs := [3]) (t := dB (d2 kGe (dVar 3) (dVar 1))) (e := dSlice (d2 kDx (dVar 2) (dVar 3)) (doSome (dVar 1)) doNone) (env := [some (.int p), some (.int (w : Int)), some (.dic (KD D0)), none]) (L := L) (items := keysD (KD D0)) (L1 := L) rfl (by unfold keysD KD; rw [List.length_map, List.length_map]; omega) (tails_lc hD.nd (fun b hb => by rw [(hD.row b hb).n]; omega) L D0 fun _ h => h)
  unfold dLcK
  rw [show startD 4 [.int p, .int (w : Int), .dic (KD D0)] = [some (.int p), some (.int (w : Int)), some (.dic (KD D0)), none] from rfl, this]; rfl
theorem meet_ok {A B : List (List Int)} (hA : IsB p w A) (hB : IsB p w B) (hl : A.length + B.length < 64) {L : LH} (hL : Low L) : ∃ M, IsB p w M ∧ (∀ h, Sp p M h ↔ Sp p A h ∧ Sp p B h) ∧ m_space_meet [.int p, .int (w : Int), PT A, PT B] L = .ok (PT M) L := by
  have rA := hA.row
  have rB := hB.row
  obtain ⟨D0, d1, d2', d3, d4⟩ := stepped_ok hp (show w + w ≤ 1000 by omega) (rs := stackZ w A B) (fun r hr => by
    rcases List.mem_append.mp hr with z | z
    · obtain ⟨a, ha, rfl⟩ := List.mem_map.mp z
      exact row_dup hp (rA a ha)
    · obtain ⟨b, hb, rfl⟩ := List.mem_map.mp z
      exact row_pad hp (rB b hb)) (by simp; omega) (d := .lst ((stackZ w A B).map PI)) rfl hL
  obtain ⟨M, m1, m2, m3⟩ := tails_ok hp hw0 hw d1 (by simp at d3; omega) hL
  refine ⟨M, m1, fun h => ⟨fun k => (meet_span rA rB h).mp ((tails_span d1 d2' h).mp (m2.to k)), fun k => m2.symm.to ((tails_span d1 d2' h).mpr ((meet_span rA rB h).mpr k))⟩, ?_⟩
  have e1 : dLc (iVal (dVar 2)) (gSet 5) [5] dYes (d2 kPlus (dVar 5) (dVar 5)) [some (.int p), some (.int (w : Int)), some (PT A), some (PT B), none, none] L = .ok (PL (A.map fun a => a ++ a)) L :=
    dLc_ok (items := A.map PI) (L1 := L) rfl (by simp; omega) (lc_rows A fun a ha => (d2_ok (a := PI a) (b := PI a) (L1 := L) (L2 := L) rfl rfl).trans (k_plusT (by have := (rA a ha).n; omega) L))
  have e2 : dLc (iVal (dVar 3)) (gSet 5) [5] dYes (d2 kPlus (dVar 5) (dCall 1 m_zero_row (daCons (dVar 1) daNil))) [some (.int p), some (.int (w : Int)), some (PT A), some (PT B), none, none] L = .ok (PL (B.map fun b => b ++ List.replicate w 0)) L :=
    dLc_ok (items := B.map PI) (L1 := L) rfl (by simp; omega) (lc_rows B fun b hb => (d2_ok (a := PI b) (b := PI (List.replicate w 0)) (L1 := L) (L2 := L) rfl ((call_ok (a := [.int (w : Int)]) (L1 := L) rfl rfl).trans ((zero_ok (by omega) (by omega) L).trans (by simp)))).trans (k_plusT (by have := (rB b hb).n; simp; omega) L))
  have e3 : m_meet_rows [.int p, .int (w : Int), PT A, PT B] L = .ok (PT M) L := by
    refine fnD_rt ((seq_nx _ _ (env1 := [some (.int p), some (.int (w : Int)), some (PT A), some (PT B), some (PL (stackZ w A B)), none]) (L1 := L) (set_ok ((d2_ok (a := PL (A.map fun a => a ++ a)) (b := PL (B.map fun b => b ++ List.replicate w 0)) (L1 := L) (L2 := L) e1 e2).trans ((k_plusLD (by simp; omega) L).trans (by rw [← List.map_append]))))).trans (ret_ok ((call_ok (a := [.int p, .int (w : Int), .dic (KD D0)]) (L1 := L) (ca_ok rfl (ca_ok rfl (ca_ok ((call_ok (a := [.int p, PL (stackZ w A B)]) (L1 := L) rfl rfl).trans d4) cn_ok))) rfl).trans m3)))
  exact fnD_rt ((seq_nx _ _ (expr_ok ((call_ok (a := [.int p, .int (w : Int), PT A, PT B]) (L1 := L) rfl rfl).trans (checksps_ok hp hw0 hw hA hB L)))).trans (ret_ok ((call_ok (a := [.int p, .int (w : Int), PT A, PT B]) (L1 := L) rfl rfl).trans e3)))
end
end Law

set_option Elab.async false
set_option linter.all false
set_option maxRecDepth 100000
set_option maxHeartbeats 1000000
namespace Law
open PySem PySem.Spec L2 DL PM
/-! the law's factors that come to nothing -/
theorem co_take (l : List Int) (w i : Nat) : co (l.take w) i = if i < w then co l i else 0 := by
  unfold co
  rw [List.getD_eq_getElem?_getD, List.getD_eq_getElem?_getD, List.getElem?_take]
  split <;> rfl
abbrev unitE : DE := dL kTupleOf (daCons (dLc (iRange1 (daCons (dVar 3) daNil)) (gSet 8) [8] dYes (dL kIntOf (daCons (d2 kEq (dVar 6) (dVar 8)) daNil))) daNil)
abbrev eN (p : Int) (T : List (List Int)) (w m : Nat) (x4 x5 x6 x7 x8 : Option D) : DEnv := [some (.int p), some (PL T), some (.int (w : Int)), some (.int (m : Int)), x4, x5, x6, x7, x8]
theorem unitE_ok {p : Int} {T : List (List Int)} {w m k : Nat} (hm : m ≤ 1000) (x4 x5 x7 x8 : Option D) (L : LH) : unitE (eN p T w m x4 x5 (some (.int (k : Int))) x7 x8) L = .ok (PI (eRow m k)) L := by
  refine (dL_ok (ca_ok (a := .lst (LI (eRow m k))) (L1 := L) (dLc_ok (items := rangeD 0 m) (L1 := L) (range1_ok rfl (by omega)) (by simp [rangeD]; omega) ?_) cn_ok)).trans rfl
  have := lc_map (k := gSet 8) (vs := [8]) (e := dL kIntOf (daCons (d2 kEq (dVar 6) (dVar 8)) daNil)) (env := eN p T w m x4 x5 (some (.int (k : Int))) x7 x8) (L := L) (g := fun d => match d with | .int j => .int (if (k : Int) == j then 1 else 0) | d => d) (rangeD 0 m) (fun d hd => by
    unfold rangeD at hd
    obtain ⟨i, _, rfl⟩ := List.mem_map.mp hd
    refine ⟨eN p T w m x4 x5 (some (.int (k : Int))) x7 (some (.int (0 + (i : Int)))), rfl, ?_⟩
    refine (dL_ok (ca_ok ((d2_ok (a := .int (k : Int)) (b := .int (0 + (i : Int))) (L1 := L) (L2 := L) rfl rfl).trans (eq_int _ _)) cn_ok)).trans ?_
    rfl)
  rw [this]
  unfold rangeD eRow LI
  rw [List.map_map, List.map_map]
  congr 1
  refine List.map_congr_left fun i _ => ?_
  show D.int (if (k : Int) == 0 + (i : Int) then 1 else 0) = D.int (if k = i then 1 else 0)
  by_cases e : k = i
  · rw [if_pos e, if_pos (by rw [e]; simp)]
  · rw [if_neg e, if_neg (by simp; omega)]
theorem beside_lc {p : Int} {T : List (List Int)} {w m : Nat} (hm : m ≤ 1000) (x4 x5 x6 x7 x8 : Option D) (L : LH) : ∀ (T' : List (List Int)) (k : Nat), (∀ t ∈ T', t.length ≤ 1000) →
    lcD (gSet2 6 7) [6, 7] dYes (d2 kPlus (dL kTupleOf (daCons (dVar 7) daNil)) unitE) (eN p T w m x4 x5 x6 x7 x8) (enumG k (T'.map PI)) L = .ok ((yRows m k T').map PI) L
  | [], _, _ => rfl
  | t :: T', k, h => by
    have ih := beside_lc (p := p) (T := T) (w := w) hm x4 x5 x6 x7 x8 L T' (k + 1) fun x hx => h x (by simp [hx])
    have hlen : (eRow m k).length = m := by simp [eRow]
    show lcD _ _ _ _ _ (.tup [.int (k : Int), PI t] :: enumG (k + 1) (T'.map PI)) L = _
    exact lc_cons (env1 := eN p T w m x4 x5 (some (.int (k : Int))) (some (PI t)) x8) rfl rfl ((d2_ok (a := PI t) (b := PI (eRow m k)) (L1 := L) (L2 := L) rfl (unitE_ok hm x4 x5 (some (PI t)) x8 L)).trans (k_plusT (by have := h t (by simp); omega) L)) ih
section
variable {p : Int} (hp : pr p) {w : Nat} (hw0 : 0 < w) {m : Nat} (hm0 : 0 < m) (hw : w + m ≤ 150)
include hp hw0 hm0 hw
theorem yRow_row {T : List (List Int)} (hT : ∀ t ∈ T, Row p w t) (hTm : T.length = m) : ∀ r ∈ yRows m 0 T, Row p (w + m) r := fun r hr => by
  obtain ⟨q, _, q2, rfl⟩ := yRows_mem m T 0 r hr
  have q2' : q < T.length := by simpa using q2
  have e : T.getD (q - 0) [] = T[q] := by rw [Nat.sub_zero, List.getD_eq_getElem?_getD, List.getElem?_eq_getElem q2']; rfl
  have ht := hT _ (List.getElem_mem q2')
  rw [e]
  have hp2 : 2 ≤ p := by unfold pr at hp; omega
  refine ⟨by rw [List.length_append, ht.n]; simp [eRow], red_of_mem (pr_pos hp) fun x hx => ?_⟩
  rcases List.mem_append.mp hx with z | z
  · exact mem_of_red ht.r x z
  · unfold eRow at z
    obtain ⟨j, _, rfl⟩ := List.mem_map.mp z
    split <;> omega
theorem null_lc {T : List (List Int)} {D0 : List (Nat × List Int)} (x4 x5 x6 x7 x8 : Option D) (L : LH) : ∀ (D' : List (Nat × List Int)), Ech p (w + m) D' →
    lcD (gSet 7) [7] (dB (d2 kEq (dL kMax (daCons (dSlice (dVar 7) doNone (doSome (dVar 2))) daNil)) (dC (.int 0)))) (dSlice (dVar 7) (doSome (dVar 2)) doNone) (eN p T w m x4 x5 x6 x7 x8) ((rowsB D').map PI) L = .ok (((rowsB (D'.filter fun b => decide (w ≤ b.1))).map (List.drop w)).map PI) L
  | [], _ => rfl
  | b :: D', h => by
    have ih := null_lc (T := T) (D0 := D0) x4 x5 x6 x7 x8 L D' ⟨fun c hc => h.row c (by simp [hc]), fun c hc => h.lt c (by simp [hc]), fun c hc => h.one c (by simp [hc]), fun c hc => h.low c (by simp [hc]), (List.nodup_cons.mp (by simpa using h.nd : (b.1 :: D'.map (·.1)).Nodup)).2⟩
    have hb := h.row b (by simp)
    have htk : Row p w (b.2.take w) := ⟨by rw [List.length_take, hb.n]; omega, red_of_mem (pr_pos hp) fun x hx => mem_of_red hb.r x (List.mem_of_mem_take hx)⟩
    have hmz := max_zero htk hw0
    have hiff : (maxI (b.2.take w) == 0) = decide (w ≤ b.1) := by
      rw [Bool.eq_iff_iff, beq_iff_eq, decide_eq_true_iff, hmz.1]
      constructor
      · intro k
        refine Nat.le_of_not_lt fun hlt => ?_
        have := k b.1
        rw [co_take, if_pos hlt, h.one b (by simp)] at this
        exact absurd this (by decide)
      · intro k i
        rw [co_take]
        split
        · exact h.low b (by simp) i (by omega)
        · rfl
    have ht : dB (d2 kEq (dL kMax (daCons (dSlice (dVar 7) doNone (doSome (dVar 2))) daNil)) (dC (.int 0))) (eN p T w m x4 x5 x6 (some (PI b.2)) x8) L = .ok (decide (w ≤ b.1)) L := by
      refine dB_b ((d2_ok (a := .int (maxI (b.2.take w))) (b := .int 0) (L1 := L) (L2 := L) (max_ok (Row.ne htk hw0) ((slice_ok (a := PI b.2) (lo := none) (hi := some (w : Int)) rfl rfl rfl).trans ?_)) rfl).trans ((eq_int _ _).trans (by rw [hiff])))
      show DL.R.ok (D.tup (cutD (LI b.2) none (some (w : Int)))) L = _
      rw [cut_to _ _ (by rw [hb.n]; omega)]
    show lcD _ _ _ _ _ (PI b.2 :: (rowsB D').map PI) L = _
    by_cases hk : w ≤ b.1
    · rw [List.filter_cons_of_pos (by simpa using hk)]
      rw [decide_eq_true hk] at ht
      refine lc_cons (env1 := eN p T w m x4 x5 x6 (some (PI b.2)) x8) rfl ht ((slice_ok (a := PI b.2) (lo := some (w : Int)) (hi := none) rfl rfl rfl).trans ?_) ih
      show DL.R.ok (D.tup (cutD (LI b.2) (some (w : Int)) none)) L = _
      rw [cut_from _ _ (by rw [hb.n]; omega)]
    · rw [List.filter_cons_of_neg (by simpa using hk)]
      rw [decide_eq_false hk] at ht
      exact lc_skip (env1 := eN p T w m x4 x5 x6 (some (PI b.2)) x8) rfl ht ih
theorem null_ok {T : List (List Int)} (hT : ∀ t ∈ T, Row p w t) (hTm : T.length = m) (L : LH) : ∃ N, IsB p m N ∧ (∀ h, Sp p N h ↔ ∃ f, Sp p (yRows T.length 0 T) f ∧ (∀ i, i < w → cg p (f i) 0) ∧ ∀ i, cg p (h i) (f (w + i))) ∧ m_law_null [.int p, PL T, .int (w : Int)] L = .ok (PT N) L := by
  have hY := yRow_row hp hw0 hm0 hw hT hTm
  have hyl : (yRows m 0 T).length = m := by
    have : ∀ (T : List (List Int)) (k : Nat), (yRows m k T).length = T.length := fun T => by
      induction T with
      | nil => intro k; rfl
      | cons t T ih => intro k; simp [yRows, ih]
    rw [this, hTm]
  obtain ⟨R', ⟨D0, d1, d2', rfl⟩, d3, d4⟩ := lbase_ok hp (by omega : 0 < w + m) (by omega : w + m ≤ 1000) hY (by omega) (d := PL (yRows m 0 T)) L rfl
  obtain ⟨N, n1, n2, n3⟩ := lbase_ok hp hm0 (by omega : m ≤ 1000) (rs := (rowsB (D0.filter fun b => decide (w ≤ b.1))).map (List.drop w)) (fun r hr => by
    obtain ⟨x, hx, rfl⟩ := List.mem_map.mp hr
    obtain ⟨b, hb, rfl⟩ := List.mem_map.mp hx
    have hb' := d1.row b (List.mem_filter.mp hb).1
    exact ⟨by rw [List.length_drop, hb'.n]; omega, red_of_mem (pr_pos hp) fun y hy => mem_of_red hb'.r y (List.mem_of_mem_drop hy)⟩) (by
    have hlD := IsB.len (p := p) (w := w + m) ⟨D0, d1, d2', rfl⟩
    rw [List.length_map] at hlD
    rw [List.length_map, List.length_map]
    have := List.length_filter_le (fun b : Nat × List Int => decide (w ≤ b.1)) D0
    omega) (d := PL ((rowsB (D0.filter fun b => decide (w ≤ b.1))).map (List.drop w))) L rfl
  refine ⟨N, n1, fun h => ?_, ?_⟩
  · rw [hTm]
    exact ⟨fun k => (tails_span d1.toEch d3 h).mp (n2.to k), fun k => n2.symm.to ((tails_span d1.toEch d3 h).mpr k)⟩
  · have hlD := IsB.len (p := p) (w := w + m) ⟨D0, d1, d2', rfl⟩
    refine fnD_rt ((seq_nx _ _ (env1 := eN p T w m none none none none none) (L1 := L) (set_ok ((dL_ok (ca_ok (a := PL T) (L1 := L) rfl cn_ok)).trans (by show DL.R.ok (D.int ((T.map PI).length : Int)) L = _; rw [List.length_map, hTm])))).trans ((seq_nx _ _ (env1 := eN p T w m (some (PL (yRows m 0 T))) none none none none) (L1 := L) (set_ok (dLc_ok (items := enumG 0 (T.map PI)) (L1 := L) (by show DL.R.ok (enumD (T.map PI)) L = _; rw [enumD_G]) ?_ (beside_lc (by omega) none none none none none L T 0 fun t ht => by rw [(hT t ht).n]; omega)))).trans ((seq_nx _ _ (env1 := eN p T w m (some (PL (yRows m 0 T))) (some (PT (rowsB D0))) none none none) (L1 := L) (set_ok ((call_ok (a := [.int p, PL (yRows m 0 T), .int ((w + m : Nat) : Int)]) (L1 := L) rfl rfl).trans d4))).trans (ret_ok ((call_ok (a := [.int p, PL ((rowsB (D0.filter fun b => decide (w ≤ b.1))).map (List.drop w)), .int (m : Int)]) (L1 := L) (ca_ok rfl (ca_ok (dLc_ok (items := (rowsB D0).map PI) (L1 := L) rfl (by simp at hlD ⊢; omega) (null_lc hp hw0 hm0 hw (D0 := D0) _ _ none none none L D0 d1.toEch)) (ca_ok rfl cn_ok))) rfl).trans n3)))))
    have : ∀ (l : List D) (k : Nat), (enumG k l).length = l.length := fun l => by
      induction l with
      | nil => intro k; rfl
      | cons a l ih => intro k; simp [enumG, ih]
    rw [this, List.length_map, hTm]; omega
end
end Law

set_option Elab.async false
set_option linter.all false
set_option maxRecDepth 100000
set_option maxHeartbeats 1000000
namespace Law
open PySem PySem.Spec L2 DL PM
/-! the law's meets, what it draws -/
def rowC (p : Int) : List Int → List (List Int) → List Int → List Int
  | c :: cs, a :: A, v => rowC p cs A (addR p c v a)
  | _, _, v => v
abbrev eG (p : Int) (A B : List (List Int)) (w : Nat) (x4 x5 x6 x7 x8 x9 : Option D) : DEnv := [some (.int p), some (PT A), some (PT B), some (.int (w : Int)), x4, x5, x6, x7, x8, x9]
section
variable {p : Int} (hp : pr p) {w : Nat} (hw0 : 0 < w) (hw : w ≤ 150)
include hp hw0 hw
theorem rowC_loop {A B : List (List Int)} (x4 x5 x6 : Option D) (L : LH) : ∀ (c : List Int) (A' : List (List Int)) (v : List Int) (x8 x9 : Option D), (∀ x ∈ c, 0 ≤ x ∧ x < p) → (∀ a ∈ A', Row p w a) → Row p w v →
    ∃ y8 y9, forD (gSet2 8 9) (sSet 7 (dCall 4 m_law_plus (daCons (dVar 0) (daCons (dVar 7) (daCons (dVar 9) (daCons (dVar 8) daNil)))))) (zipD (LI c) (A'.map PI)) (eG p A B w x4 x5 x6 (some (PI v)) x8 x9) L = .nx (eG p A B w x4 x5 x6 (some (PI (rowC p c A' v))) y8 y9) L
  | [], A', v, x8, x9, _, _, _ => ⟨x8, x9, by cases A' <;> rfl⟩
  | c :: cs, [], v, x8, x9, _, _, _ => ⟨x8, x9, rfl⟩
  | c :: cs, a :: A', v, x8, x9, hc, hA, hv => by
    have hc0 := hc c (by simp)
    have ha := hA a (by simp)
    have hp7 : p ≤ 7 := by unfold pr at hp; omega
    obtain ⟨y8, y9, e⟩ := rowC_loop (A := A) (B := B) x4 x5 x6 L cs A' (addR p c v a) (some (.int c)) (some (PI a)) (fun x hx => hc x (by simp [hx])) (fun x hx => hA x (by simp [hx])) (row_addR hp hv ha)
    refine ⟨y8, y9, ?_⟩
    show forD _ _ (.tup [.int c, PI a] :: zipD (LI cs) (A'.map PI)) _ L = _
    exact (for_go (env1 := eG p A B w x4 x5 x6 (some (PI v)) (some (.int c)) (some (PI a))) rfl (set_ok ((call_ok (a := [.int p, PI v, PI a, .int c]) (L1 := L) rfl rfl).trans (lplus_ok (pr_pos hp) (by omega) (by omega) (by rw [hv.n]; omega) L)))).trans e
theorem rowC_row : ∀ (c : List Int) (A' : List (List Int)) (v : List Int), (∀ a ∈ A', Row p w a) → Row p w v → Row p w (rowC p c A' v)
  | [], A', v, _, hv => by cases A' <;> exact hv
  | c :: cs, [], v, _, hv => hv
  | c :: cs, a :: A', v, hA, hv => rowC_row cs A' (addR p c v a) (fun x hx => hA x (by simp [hx])) (row_addR hp hv (hA a (by simp)))
theorem rowC_comb (c0 : List Int) (i : Nat) : ∀ (A' : List (List Int)) (c : List Int) (k : Nat) (v : List Int), (∀ j, co c j = co c0 (k + j)) → A'.length ≤ c.length → (∀ a ∈ A', Row p w a) → Row p w v → cg p (co (rowC p c A' v) i) (co v i + combF (co c0) k A' i)
  | [], c, k, v, _, _, _, _ => cg_of (by cases c <;> simp [rowC, combF])
  | a :: A', [], k, v, _, h, _, _ => by simp at h
  | a :: A', c :: cs, k, v, hc, hl, hA, hv => by
    have ha := hA a (by simp)
    have ih := rowC_comb c0 i A' cs (k + 1) (addR p c v a) (fun j => by
      have := hc (j + 1)
      rw [show k + 1 + j = k + (j + 1) by omega]; exact this) (by simpa using hl) (fun x hx => hA x (by simp [hx])) (row_addR hp hv ha)
    have h0 : c = co c0 k := hc 0
    show cg p (co (rowC p cs A' (addR p c v a)) i) (co v i + (combF (co c0) (k + 1) A' i + co c0 k * co a i))
    rw [co_addR (by rw [hv.n, ha.n])] at ih
    rw [← h0]
    exact cg_trans ih (cg_trans (cg_add cg_mod cg_rfl) (cg_of (by omega)))
theorem meet_loop {A B : List (List Int)} (hA : ∀ a ∈ A, Row p w a) (x5 : Option D) (L : LH) : ∀ (N F : List (List Int)) (x6 x7 x8 x9 : Option D), (∀ c ∈ N, ∀ x ∈ c, 0 ≤ x ∧ x < p) → F.length + N.length ≤ 1000 →
    ∃ y6 y7 y8 y9, forD (gSet 6) (sSeq (sSet 7 (d2 DL.kTimes (dL DL.kTup (daCons (dC (.int 0)) daNil)) (dVar 3))) (sSeq (sFor (iZip2 (daCons (dVar 6) (daCons (dVar 1) daNil))) (gSet2 8 9) (sSet 7 (dCall 4 m_law_plus (daCons (dVar 0) (daCons (dVar 7) (daCons (dVar 9) (daCons (dVar 8) daNil))))))) (sExpr (dAppend (dVar 4) (dVar 7))))) (N.map PI) (eG p A B w (some (.ref L.length)) x5 x6 x7 x8 x9) (L ++ [.lst (F.map PI)]) = .nx (eG p A B w (some (.ref L.length)) x5 y6 y7 y8 y9) (L ++ [.lst ((F ++ N.map fun c => rowC p c A (zs w)).map PI)])
  | [], F, x6, x7, x8, x9, _, _ => ⟨x6, x7, x8, x9, by
    have h : F ++ ([] : List (List Int)).map (fun c => rowC p c A (zs w)) = F := by simp
    rw [h]; rfl⟩
  | c :: N, F, x6, x7, x8, x9, hc, hl => by
    obtain ⟨y8, y9, e⟩ := rowC_loop hp hw0 hw (A := A) (B := B) (some (.ref L.length)) x5 (some (PI c)) (L ++ [.lst (F.map PI)]) c A (zs w) x8 x9 (hc c (by simp)) hA (row_zero hp hw0 hw)
    obtain ⟨z6, z7, z8, z9, e2⟩ := meet_loop hA x5 L N (F ++ [rowC p c A (zs w)]) (some (PI c)) (some (PI (rowC p c A (zs w)))) y8 y9 (fun x hx => hc x (by simp [hx])) (by simp at hl ⊢; omega)
    refine ⟨z6, z7, z8, z9, (for_go (env1 := eG p A B w (some (.ref L.length)) x5 (some (PI c)) x7 x8 x9) rfl ((seq_nx _ _ (set_ok (nat_times (by omega) rfl))).trans ((seq_nx _ _ (env1 := eG p A B w (some (.ref L.length)) x5 (some (PI c)) (some (PI (rowC p c A (zs w)))) y8 y9) (L1 := L ++ [.lst (F.map PI)]) ?_).trans (app_ok (ds := F.map PI) (ds2 := F.map PI) rfl (get_f L [] _ rfl) (b := PI (rowC p c A (zs w))) rfl (get_f L [] _ rfl) (by simp at hl ⊢; omega))))).trans ?_⟩
    · exact e
    · rw [set_f L [] _ _ rfl]
      have h1 : F.map PI ++ [PI (rowC p c A (zs w))] = (F ++ [rowC p c A (zs w)]).map PI := by simp
      rw [h1, e2]
      simp
theorem lmeet_ok {A B : List (List Int)} (hA : IsB p w A) (hB : IsB p w B) (hw2 : w + (A.length + B.length) ≤ 150) {L : LH} (hL : Low L) : ∃ M, IsB p w M ∧ (∀ h, Sp p M h ↔ Sp p A h ∧ Sp p B h) ∧ m_law_meet [.int p, PT A, PT B, .int (w : Int)] L = .ok (PT M) L := by
  have rA := hA.row
  have rB := hB.row
  have rT : ∀ t ∈ A ++ B, Row p w t := fun t ht => (List.mem_append.mp ht).elim (rA t) (rB t)
  have e0 : ∀ (x : List (List Int)) (i : Nat) (env : DEnv) (H : LH), dVar i env H = .ok (PT x) H → x.length ≤ 1000 → (∀ r : List Int, dVar 7 ((wipeD env [7]).set 7 (some (PI r))) H = .ok (PI r) H) → dLc (iVal (dVar i)) (gSet 7) [7] dYes (dL kTupleOf (daCons (dVar 7) daNil)) env H = .ok (PL x) H := fun x i env H h hl h7 => by
    refine (dLc_ok (items := x.map PI) (L1 := H) (iVal_ok h rfl) (by simp; omega) (lc_rows (f := id) x fun r _ => ((dL_ok (ca_ok (h7 r) cn_ok)).trans rfl))).trans (by rw [List.map_id])
  have hlines : ∃ N : List (List Int), (∀ c ∈ N, ∀ x ∈ c, 0 ≤ x ∧ x < p) ∧ N.length ≤ 200 ∧ (∀ h, Sp p (N.map fun c => rowC p c A (zs w)) h ↔ Sp p A h ∧ Sp p B h) ∧ ∀ (x6 x7 x8 x9 : Option D) (H : LH), iVal (dIf (dB (d2 kNe (dVar 5) (dL DL.kLst daNil))) (dCall 3 m_law_null (daCons (dVar 0) (daCons (dVar 5) (daCons (dVar 3) daNil)))) (dL DL.kLst daNil)) (eG p A B w (some (.ref L.length)) (some (PL (A ++ B))) x6 x7 x8 x9) H = .ok (N.map PI) H := by
    by_cases hE : A ++ B = []
    · have hA0 : A = [] := (List.append_eq_nil_iff.mp hE).1
      have hB0 : B = [] := (List.append_eq_nil_iff.mp hE).2
      refine ⟨[], (fun _ z => nomatch z), by simp, fun h => by rw [hA0, hB0]; exact ⟨fun k => ⟨k, k⟩, fun k => k.1⟩, fun x6 x7 x8 x9 H => ?_⟩
      refine iVal_ok (d := .lst []) ((if_df (dB_b ((d2_ok (a := PL (A ++ B)) (b := .lst []) (L1 := H) (L2 := H) rfl rfl).trans ((nePL_nil _ H).trans (by rw [hE]; rfl))))).trans rfl) rfl
    · have hm0 : 0 < (A ++ B).length := by
        rcases Nat.eq_zero_or_pos (A ++ B).length with z | z
        · exact absurd (List.length_eq_zero_iff.mp z) hE
        · exact z
      have hlen : (A ++ B).length = A.length + B.length := by simp
      obtain ⟨N, n1, n2, _⟩ := null_ok hp hw0 hm0 (by omega) rT rfl L
      refine ⟨N, fun c hc x hx => mem_of_red (n1.row c hc).r x hx, by have := n1.len; omega, fun h => ?_, fun x6 x7 x8 x9 H => ?_⟩
      · refine null_meet rA rB n2 (fun c => rowC p c A (zs w)) (fun c hc i => ?_) rfl h
        have := rowC_comb hp hw0 hw c i A c 0 (zs w) (fun j => by rw [Nat.zero_add]) (by rw [(n1.row c hc).n]; omega) rA (row_zero hp hw0 hw)
        rw [co_rep0] at this
        exact cg_trans this (cg_of (by omega))
      · obtain ⟨N', n1', n2', n3'⟩ := null_ok hp hw0 hm0 (by omega) rT rfl H
        have hNN : N' = N := IsB.uniq hp n1' n1 ⟨fun r hr => (n2 _).mpr ((n2' _).mp (.mem hr)), fun r hr => (n2' _).mpr ((n2 _).mp (.mem hr))⟩
        rw [hNN] at n3'
        refine iVal_ok (d := PT N) ((if_dt (dB_b ((d2_ok (a := PL (A ++ B)) (b := .lst []) (L1 := H) (L2 := H) rfl rfl).trans ((nePL_nil _ H).trans (by
          cases hq : A ++ B with
          | nil => exact absurd hq hE
          | cons a l => rfl))))).trans ((call_ok (a := [.int p, PL (A ++ B), .int (w : Int)]) (L1 := H) rfl rfl).trans n3')) rfl
  obtain ⟨N, hN1, hN2, hN3, hN4⟩ := hlines
  have hAl : A.length ≤ 150 := by omega
  obtain ⟨y6, y7, y8, y9, e1⟩ := meet_loop hp hw0 hw (B := B) rA (some (PL (A ++ B))) L N [] none none none none hN1 (by simp; omega)
  rw [List.nil_append] at e1
  have rF : ∀ r ∈ N.map (fun c => rowC p c A (zs w)), Row p w r := fun r hr => by
    obtain ⟨c, _, rfl⟩ := List.mem_map.mp hr
    exact rowC_row hp hw0 hw c A (zs w) rA (row_zero hp hw0 hw)
  obtain ⟨M, m1, m2, m3⟩ := lbase_ok hp hw0 (by omega : w ≤ 1000) rF (by simp; omega) (d := .ref L.length) (L ++ [.lst ((N.map fun c => rowC p c A (zs w)).map PI)]) (by
    show (match (L ++ [LO.lst ((N.map fun c => rowC p c A (zs w)).map PI)])[L.length]? with | some (.lst xs) => some xs | _ => none) = _
    rw [get_f L [] _ rfl])
  refine ⟨M, m1, fun h => ⟨fun k => (hN3 h).mp (m2.to k), fun k => m2.symm.to ((hN3 h).mpr k)⟩, fnD_any (ex := [.lst ((N.map fun c => rowC p c A (zs w)).map PI)]) ?_ (frz_PT _ _ _) hL⟩
  refine (seq_nx _ _ (env1 := eG p A B w (some (.ref L.length)) none none none none none) (L1 := L ++ [.lst (([] : List (List Int)).map PI)]) rfl).trans ?_
  refine (seq_nx _ _ (env1 := eG p A B w (some (.ref L.length)) (some (PL (A ++ B))) none none none none) (L1 := L ++ [.lst (([] : List (List Int)).map PI)]) (set_ok ((d2_ok (a := PL A) (b := PL B) (e0 A 1 _ _ rfl (by omega) fun _ => rfl) (e0 B 2 _ _ rfl (by omega) fun _ => rfl)).trans ((k_plusLD (by simp; omega) _).trans (by rw [← List.map_append]))))).trans ?_
  refine (seq_nx _ _ (env1 := eG p A B w (some (.ref L.length)) (some (PL (A ++ B))) y6 y7 y8 y9) (L1 := L ++ [.lst ((N.map fun c => rowC p c A (zs w)).map PI)]) ?_).trans ?_
  · rw [ev_for, hN4, toS_ok]
    exact e1
  · exact ret_ok ((call_ok (a := [.int p, .ref L.length, .int (w : Int)]) (L1 := L ++ [.lst ((N.map fun c => rowC p c A (zs w)).map PI)]) rfl rfl).trans m3)
theorem drawn_ok {n : Nat} {L : LH} (h : Tri n L) (hw2 : w ≤ 20) : ∃ (R : List (List Int)) (L' : LH), IsB p w R ∧ m_law_drawn [.ref n, .int p, .int (w : Int)] L = .ok (PT R) L' ∧ Ev n L L' := by
  have hp7 : 0 < p ∧ p ≤ 7 := by unfold pr at hp; omega
  obtain ⟨k, L1, e1, k1, v1⟩ := ladle_nat h (t := w + 1) (by omega) (by omega) (f := dVar 0) (g := d2 kPlus (dVar 2) (dC (.int 1))) (env := [some (.ref n), some (.int p), some (.int (w : Int))]) rfl ((d2_ok rfl rfl).trans (k_plusI _ _))
  obtain ⟨rs, L2, e2, n2, hr, v2⟩ := lines_ok hp7.1 (by omega) (w := w) (by omega) v1.1 (k := k) (by omega)
  obtain ⟨R, r1, r2, r3⟩ := lbase_ok hp hw0 (by omega : w ≤ 1000) hr (by omega) (d := PL rs) L2 rfl
  refine ⟨R, L2, r1, fnD_rtL (ret_ok ((call_ok (a := [.int p, PL rs, .int (w : Int)]) (L1 := L2) (ca_ok rfl (ca_ok ((call_ok (a := [.ref n, .int p, .int (k : Int), .int (w : Int)]) (L1 := L1) (ca_ok rfl (ca_ok rfl (ca_ok e1 (ca_ok rfl cn_ok)))) rfl).trans e2) (ca_ok rfl cn_ok))) rfl).trans r3)) (v1.trans v2).2, v1.trans v2⟩
end
end Law

set_option Elab.async false
set_option linter.all false
set_option maxRecDepth 100000
set_option maxHeartbeats 1000000
namespace Law
open PySem PySem.Spec L2 DL PM
theorem same_app {p : Int} {A A' B B' : List (List Int)} (h : Same p A A') (k : Same p B B') : Same p (A ++ B) (A' ++ B') :=
  ⟨fun r hr => (List.mem_append.mp hr).elim (fun z => (h.l r z).mono fun x hx => List.mem_append_left _ hx) (fun z => (k.l r z).mono fun x hx => List.mem_append_right _ hx),
   fun r hr => (List.mem_append.mp hr).elim (fun z => (h.r r z).mono fun x hx => List.mem_append_left _ hx) (fun z => (k.r r z).mono fun x hx => List.mem_append_right _ hx)⟩
theorem same_swap {p : Int} {A B : List (List Int)} : Same p (A ++ B) (B ++ A) :=
  ⟨fun r hr => .mem (by rw [List.mem_append] at hr ⊢; exact hr.symm), fun r hr => .mem (by rw [List.mem_append] at hr ⊢; exact hr.symm)⟩
theorem isB_nil {p : Int} {w : Nat} : IsB p w [] := ⟨[], ⟨⟨(fun _ z => nomatch z), (fun _ z => nomatch z), (fun _ z => nomatch z), (fun _ z => nomatch z), List.nodup_nil⟩, (fun _ z => nomatch z)⟩, List.Pairwise.nil, rfl⟩
section
variable {p : Int} (hp : pr p) {w : Nat} (hw0 : 0 < w) (hw : w ≤ 20)
include hp hw0 hw
theorem base_eq {R rs : List (List Int)} (hR : IsB p w R) (hs : Same p R rs) (hr : ∀ r ∈ rs, Row p w r) (hl : rs.length ≤ 200) (L : LH) : m_law_base [.int p, PL rs, .int (w : Int)] L = .ok (PT R) L := by
  obtain ⟨R', h1, h2, h3⟩ := lbase_ok hp hw0 (by omega : w ≤ 1000) hr (by omega) (d := PL rs) L rfl
  rw [h3, IsB.uniq hp h1 hR (h2.trans hs.symm)]
theorem sum_eq {A B X : List (List Int)} (hA : IsB p w A) (hB : IsB p w B) (hX : IsB p w X) (hs : Same p X (A ++ B)) {L : LH} (hL : Low L) : m_space_sum [.int p, .int (w : Int), PT A, PT B] L = .ok (PT X) L := by
  obtain ⟨S, h1, h2, h3⟩ := sum_ok hp hw0 (by omega) hA hB (by have := hA.len; have := hB.len; omega) hL
  rw [h3, IsB.uniq hp h1 hX (h2.trans hs.symm)]
theorem meet_eq {A B X : List (List Int)} (hA : IsB p w A) (hB : IsB p w B) (hX : IsB p w X) (hs : ∀ h, Sp p X h ↔ Sp p A h ∧ Sp p B h) {L : LH} (hL : Low L) : m_space_meet [.int p, .int (w : Int), PT A, PT B] L = .ok (PT X) L := by
  obtain ⟨S, h1, h2, h3⟩ := meet_ok hp hw0 (by omega) hA hB (by have := hA.len; have := hB.len; omega) hL
  rw [h3, IsB.uniq hp h1 hX ⟨fun r hr => (hs _).mpr ((h2 _).mp (.mem hr)), fun r hr => (h2 _).mpr ((hs _).mp (.mem hr))⟩]
theorem lmeet_eq {A B X : List (List Int)} (hA : IsB p w A) (hB : IsB p w B) (hX : IsB p w X) (hs : ∀ h, Sp p X h ↔ Sp p A h ∧ Sp p B h) {L : LH} (hL : Low L) : m_law_meet [.int p, PT A, PT B, .int (w : Int)] L = .ok (PT X) L := by
  obtain ⟨S, h1, h2, h3⟩ := lmeet_ok hp hw0 (by omega) hA hB (by have := hA.len; have := hB.len; omega) hL
  rw [h3, IsB.uniq hp h1 hX ⟨fun r hr => (hs _).mpr ((h2 _).mp (.mem hr)), fun r hr => (h2 _).mpr ((hs _).mp (.mem hr))⟩]
theorem modular {A B M K I Z : List (List Int)} (hM : ∀ h, Sp p M h ↔ Sp p A h ∧ Sp p B h) {C : List (List Int)} (hK : ∀ h, Sp p K h ↔ Sp p A h ∧ Sp p C h) (hI : Same p I (M ++ K)) (hZ : Same p Z (B ++ K)) (h : Nat → Int) : Sp p I h ↔ Sp p A h ∧ Sp p Z h := by
  constructor
  · intro k
    obtain ⟨u, v, hu, hv, e⟩ := sp_app (hI.to k)
    have hu' := (hM u).mp hu
    have hv' := (hK v).mp hv
    exact ⟨((hu'.1.lin 1 hv'.1).cgr fun i => cg_sym (cg_trans (e i) (cg_of (by omega)))), hZ.symm.to ((app_sp hu'.2 hv).cgr fun i => cg_sym (e i))⟩
  · rintro ⟨ha, hz⟩
    obtain ⟨u, v, hu, hv, e⟩ := sp_app (hZ.to hz)
    have hv' := (hK v).mp hv
    have hua : Sp p A u := (ha.sub hv'.1).cgr fun i => cg_trans (cg_sub (e i) cg_rfl) (cg_of (by omega))
    exact hI.symm.to ((app_sp ((hM u).mpr ⟨hua, hu⟩) hv).cgr fun i => cg_sym (e i))
end
abbrev eK (n : Nat) (p : Int) (w : Nat) (A B C : List (List Int)) (x1 x2 x8 x9 x10 : Option D) : DEnv := [some (.ref n), x1, x2, some (.int p), some (.int (w : Int)), some (PT A), some (PT B), some (PT C), x8, x9, x10, none]
theorem call4' {F : List D → LH → R D} {f g h e : DE} {env : DEnv} {L : LH} {a b c x d : D} (h1 : f env L = .ok a L) (h2 : g env L = .ok b L) (h3 : h env L = .ok c L) (h4 : e env L = .ok x L) (k : F [a, b, c, x] L = .ok d L) : dCall 4 F (daCons f (daCons g (daCons h (daCons e daNil)))) env L = .ok d L := call4 h1 h2 h3 h4 k
theorem prime_k (i : Nat) (hi : i < ([.int 2, .int 3, .int 5, .int 7] : List D).length) : ∃ p, ([.int 2, .int 3, .int 5, .int 7] : List D)[i] = .int p ∧ pr p := prime_of i hi
section
variable {p : Int} (hp : pr p) {w : Nat} (hw0 : 0 < w) (hw : w ≤ 20) {n : Nat} {A B C S M : List (List Int)} (hA : IsB p w A) (hB : IsB p w B) (hM : IsB p w M) (hm : ∀ h, Sp p M h ↔ Sp p A h ∧ Sp p B h)
include hp hw0 hw hA hB hM hm
theorem lines_loop2 (L : LH) : ∀ (rs : List (List Int)) (x1 x10 : Option D), (∀ r ∈ rs, Row p w r) → ∃ y1 y10, forD (gSet 1) (sSeq (sSet 10 (deAnd (dCall 3 m_law_has (daCons (dVar 3) (daCons (dVar 5) (daCons (dVar 1) daNil)))) (dCall 3 m_law_has (daCons (dVar 3) (daCons (dVar 6) (daCons (dVar 1) daNil)))))) (sIf (dB (d2 kNe (dCall 4 m_does_hold (daCons (dVar 3) (daCons (dVar 4) (daCons (dVar 9) (daCons (dVar 1) daNil))))) (dVar 10))) (sRet (dC (.bl false))) sNext)) (rs.map PI) (eK n p w A B C x1 none (some (PT S)) (some (PT M)) x10) L = .nx (eK n p w A B C y1 none (some (PT S)) (some (PT M)) y10) L
  | [], x1, x10, _ => ⟨x1, x10, rfl⟩
  | v :: rs, x1, x10, hr => by
    have hv := hr v (by simp)
    obtain ⟨y1, y10, e⟩ := lines_loop2 L rs (some (PI v)) (some (.bl (inSp p A v && inSp p B v))) fun x hx => hr x (by simp [hx])
    have hms : inSp p M v = (inSp p A v && inSp p B v) := by
      rw [Bool.eq_iff_iff, Bool.and_eq_true, inSp_iff, inSp_iff, inSp_iff]
      exact hm _
    have ha : dCall 3 m_law_has (daCons (dVar 3) (daCons (dVar 5) (daCons (dVar 1) daNil))) (eK n p w A B C (some (PI v)) none (some (PT S)) (some (PT M)) x10) L = .ok (.bl (inSp p A v)) L := call3 rfl rfl rfl (has_ok hp hw0 (by omega) hA hv L)
    have hb : dCall 3 m_law_has (daCons (dVar 3) (daCons (dVar 6) (daCons (dVar 1) daNil))) (eK n p w A B C (some (PI v)) none (some (PT S)) (some (PT M)) x10) L = .ok (.bl (inSp p B v)) L := call3 rfl rfl rfl (has_ok hp hw0 (by omega) hB hv L)
    have hand : deAnd (dCall 3 m_law_has (daCons (dVar 3) (daCons (dVar 5) (daCons (dVar 1) daNil)))) (dCall 3 m_law_has (daCons (dVar 3) (daCons (dVar 6) (daCons (dVar 1) daNil)))) (eK n p w A B C (some (PI v)) none (some (PT S)) (some (PT M)) x10) L = .ok (.bl (inSp p A v && inSp p B v)) L := by
      cases hq : inSp p A v with
      | true => rw [hq] at ha; exact (de_and_t ha).trans hb
      | false => rw [hq] at ha; exact de_and_f ha
    exact ⟨y1, y10, (for_go (env1 := eK n p w A B C (some (PI v)) none (some (PT S)) (some (PT M)) x10) rfl ((seq_nx _ _ (set_ok hand)).trans ((if_f (ne_both (L1 := L) (L2 := L) (d := .bl (inSp p A v && inSp p B v)) ((call4 rfl rfl rfl rfl (holds_ok hp hw0 (by omega) hM hv L)).trans (by rw [hms])) rfl (shp_bl _))).trans rfl))).trans e⟩
end
end Law

set_option Elab.async false
set_option linter.all false
set_option maxRecDepth 100000
set_option maxHeartbeats 1000000
namespace Law
open PySem PySem.Spec L2 DL PM
theorem right_ok {n : Nat} {L : LH} (h : Tri n L) : ∃ L', m_law_right [.ref n] L = .ok (.bl true) L' ∧ Ev n L L' := by
  obtain ⟨i, hi, L1, e1, v1⟩ := pick_ok h (ds := [.int 2, .int 3, .int 5, .int 7]) (by simp) (by simp)
  obtain ⟨p, hpe, hp⟩ := prime_of i hi
  rw [hpe] at e1
  have hp7 : 0 < p ∧ p ≤ 7 := by unfold pr at hp; omega
  obtain ⟨c, L2, e2, c2, v2⟩ := ladle_nat v1.1 (t := 6) (by decide) (by decide) (f := dVar 0) (g := dC (.int 6)) (env := [some (.ref n), none, none, none, none, none, none, none, none, none, none, none]) rfl rfl
  obtain ⟨w, hwe⟩ : ∃ w : Nat, w = 1 + c := ⟨_, rfl⟩
  have hw0 : 0 < w := by omega
  have hw : w ≤ 6 := by omega
  have hw20 : w ≤ 20 := by omega
  have hw150 : w ≤ 150 := by omega
  obtain ⟨A, L3, hA, e3, v3⟩ := drawn_ok hp hw0 hw150 v2.1 hw20
  obtain ⟨B0, L4, hB0, e4, v4⟩ := drawn_ok hp hw0 hw150 v3.1 hw20
  obtain ⟨C, L5, hC, e5, v5⟩ := drawn_ok hp hw0 hw150 v4.1 hw20
  obtain ⟨q, L6, e6, q6, v6⟩ := ladle_nat v5.1 (t := 3) (by decide) (by decide) (f := dVar 0) (g := dC (.int 3)) (env := eK n p w A B0 C none none none none none) rfl rfl
  have hother : ∃ B, IsB p w B ∧ sIf (dB (d2 kEq (dCall 2 m_law_ladle (daCons (dVar 0) (daCons (dC (.int 3)) daNil))) (dC (.int 0)))) (sSet 6 (dCall 3 m_law_base (daCons (dVar 3) (daCons (d2 kPlus (dL kListOf (daCons (dVar 6) daNil)) (dL kListOf (daCons (dVar 5) daNil))) (daCons (dVar 4) daNil))))) sNext (eK n p w A B0 C none none none none none) L5 = .nx (eK n p w A B C none none none none none) L6 := by
    have ht : dB (d2 kEq (dCall 2 m_law_ladle (daCons (dVar 0) (daCons (dC (.int 3)) daNil))) (dC (.int 0))) (eK n p w A B0 C none none none none none) L5 = .ok ((q : Int) == 0) L6 := dB_b ((d2_ok e6 rfl).trans (eq_int _ _))
    cases hq : (q : Int) == 0 with
    | false => rw [hq] at ht; exact ⟨B0, hB0, (if_f ht).trans rfl⟩
    | true =>
      rw [hq] at ht
      have hl : (B0 ++ A).length ≤ 40 := by have := hA.len; have := hB0.len; simp; omega
      obtain ⟨B, b1, b2, b3⟩ := lbase_ok hp hw0 (by omega : w ≤ 1000) (rs := B0 ++ A) (fun r hr => (List.mem_append.mp hr).elim (hB0.row r) (hA.row r)) (by omega) (d := PL (B0 ++ A)) L6 rfl
      refine ⟨B, b1, (if_t ht).trans (set_ok ((call_ok (a := [.int p, PL (B0 ++ A), .int (w : Int)]) (L1 := L6) (ca_ok rfl (ca_ok ((d2_ok (a := PL B0) (b := PL A) (L1 := L6) (L2 := L6) rfl rfl).trans ((k_plusLD (by simp at hl ⊢; omega) L6).trans (by rw [← List.map_append]))) (ca_ok rfl cn_ok))) rfl).trans b3))⟩
  obtain ⟨B, hB, e7⟩ := hother
  have hL6 := v6.1.1
  obtain ⟨S, hS, hSs, e8⟩ := sum_ok hp hw0 hw150 hA hB (by have := hA.len; have := hB.len; omega) hL6
  obtain ⟨M, hM, hMs, e9⟩ := meet_ok hp hw0 hw150 hA hB (by have := hA.len; have := hB.len; omega) hL6
  have hlA := hA.len
  have hlB := hB.len
  have hdim : S.length + M.length = A.length + B.length := by
    obtain ⟨a, a1, _, rfl⟩ := hA
    obtain ⟨b, b1, _, rfl⟩ := hB
    obtain ⟨s, s1, _, rfl⟩ := hS
    obtain ⟨m, m1, _, rfl⟩ := hM
    simpa using dims hp (by omega : w ≤ 400) a1 b1 s1 m1 hSs hMs
  obtain ⟨rs, L7, e10, n10, hr, v7⟩ := lines_ok hp7.1 (by omega) (w := w) (by omega) v6.1 (k := 4) (by omega)
  have hL7 := v7.1.1
  obtain ⟨y1, y10, e11⟩ := lines_loop2 hp hw0 hw20 hA hB hM hMs (n := n) (C := C) (S := S) L7 rs none none hr
  obtain ⟨T, hT, hTs, t1⟩ := sum_ok hp hw0 hw150 hS hC (by have := hS.len; have := hC.len; omega) hL7
  obtain ⟨Y, hY, hYs, t2⟩ := sum_ok hp hw0 hw150 hB hC (by have := hC.len; omega) hL7
  have t3 := sum_eq hp hw0 hw20 hA hY hT ((hTs.trans (same_app hSs Same.refl)).trans (by rw [List.append_assoc]; exact same_app Same.refl hYs.symm)) hL7
  obtain ⟨U, hU, hUs, u1⟩ := meet_ok hp hw0 hw150 hM hC (by have := hM.len; have := hC.len; omega) hL7
  obtain ⟨V, hV, hVs, u2⟩ := meet_ok hp hw0 hw150 hB hC (by have := hC.len; omega) hL7
  have u3 := meet_eq hp hw0 hw20 hA hV hU (fun h => by rw [hUs, hMs, hVs]; exact ⟨fun k => ⟨k.1.1, k.1.2, k.2⟩, fun k => ⟨⟨k.1, k.2.1⟩, k.2.2⟩⟩) hL7
  obtain ⟨K, hK, hKs, k1⟩ := meet_ok hp hw0 hw150 hA hC (by have := hC.len; omega) hL7
  obtain ⟨I, hI, hIs, k2⟩ := sum_ok hp hw0 hw150 hM hK (by have := hM.len; have := hK.len; omega) hL7
  obtain ⟨Z, hZ, hZs, k3⟩ := sum_ok hp hw0 hw150 hB hK (by have := hK.len; omega) hL7
  have k4 := meet_eq hp hw0 hw20 hA hZ hI (modular hp hw0 hw20 hMs hKs hIs hZs) hL7
  have z1 := sum_eq hp hw0 hw20 hA isB_nil hA (by rw [List.append_nil]; exact Same.refl) hL7
  have z2 := meet_eq hp hw0 hw20 hA hA hA (fun h => ⟨fun k => ⟨k, k⟩, fun k => k.1⟩) hL7
  have z3 := meet_eq hp hw0 hw20 hA isB_nil (isB_nil (p := p) (w := w)) (fun h => ⟨fun k => ⟨Sp.mono (R := []) (fun _ z => absurd z List.not_mem_nil) k, k⟩, fun k => k.2⟩) hL7
  have hv : Ev n L L7 := (((((v1.trans v2).trans v3).trans v4).trans v5).trans v6).trans v7
  refine ⟨L7, fnD_rtL ?_ hv.2, hv⟩
  refine (seq_nx _ _ (env1 := [some (.ref n), none, none, some (.int p), some (.int (w : Int)), none, none, none, none, none, none, none]) (L1 := L2) (asg_ok (d := .tup [.int p, .int (w : Int)]) ((dL_ok (ca_ok ((call_ok (n := 2) (a := [.ref n, .lst [.int 2, .int 3, .int 5, .int 7]]) (L1 := L) rfl rfl).trans e1) (ca_ok ((d2_ok rfl e2).trans (k_plusI _ _)) cn_ok))).trans (by rw [hwe]; rfl)) rfl)).trans ?_
  refine (seq_nx _ _ (env1 := eK n p w A B0 C none none none none none) (L1 := L5) (asg_ok (d := .lst [PT A, PT B0, PT C]) (dLc_ok (items := [.int (w : Int), .int (w : Int), .int (w : Int)]) (L1 := L2) (iVal_ok (d := .tup [.int (w : Int), .int (w : Int), .int (w : Int)]) rfl rfl) (by simp) (lc_cons rfl rfl (call3 rfl rfl rfl e3) (lc_cons rfl rfl (call3 rfl rfl rfl e4) (lc_cons rfl rfl (call3 rfl rfl rfl e5) rfl)))) rfl)).trans ?_
  refine (seq_nx _ _ e7).trans ?_
  refine (seq_nx _ _ (env1 := eK n p w A B C none none (some (PT S)) (some (PT M)) none) (L1 := L6) (par_ok (ca_ok (call4 rfl rfl rfl rfl e8) (ca_ok (call4 rfl rfl rfl rfl e9) cn_ok)))).trans ?_
  have plus2 : ∀ (x8 x9 : Option D), d2 kPlus (dL kListOf (daCons (dVar 5) daNil)) (dL kListOf (daCons (dVar 6) daNil)) (eK n p w A B C none none x8 x9 none) L6 = .ok (PL (A ++ B)) L6 := fun x8 x9 => (d2_ok (a := PL A) (b := PL B) (L1 := L6) (L2 := L6) rfl rfl).trans ((k_plusLD (by simp; omega) L6).trans (by rw [← List.map_append]))
  refine (chk (L1 := L6) ((or_f (ne_both (L1 := L6) (L2 := L6) (d := PT S) rfl (call3 rfl (plus2 _ _) rfl (base_eq hp hw0 hw20 hS hSs (fun r hr => (List.mem_append.mp hr).elim (hA.row r) (hB.row r)) (by simp; omega) L6)) (shp_PT S))).trans (ne_both (L1 := L6) (L2 := L6) (d := PT M) rfl (call4 rfl rfl rfl rfl (lmeet_eq hp hw0 hw20 hA hB hM hMs hL6)) (shp_PT M)))).trans ?_
  have len_at : ∀ (X : List (List Int)) (j : Nat) (env : DEnv), dVar j env L6 = .ok (PT X) L6 → dL kLen (daCons (dVar j) daNil) env L6 = .ok (.int (X.length : Int)) L6 := fun X j env hj => (dL_ok (ca_ok hj cn_ok)).trans (by show DL.R.ok (D.int ((X.map PI).length : Int)) L6 = _; rw [List.length_map])
  refine (chk (L1 := L6) ((or_f (dB_b ((d2_ok (a := .int ((S.length : Int) + (M.length : Int))) (b := .int ((A.length : Int) + (B.length : Int))) (L1 := L6) (L2 := L6) ((d2_ok (len_at S 8 _ rfl) (len_at M 9 _ rfl)).trans (k_plusI _ _)) ((d2_ok (len_at A 5 _ rfl) (len_at B 6 _ rfl)).trans (k_plusI _ _))).trans ((kne_int _ _ L6).trans (by
    have : ((S.length : Int) + (M.length : Int) == (A.length : Int) + (B.length : Int)) = true := by
      rw [beq_iff_eq]; omega
    rw [this]; rfl))))).trans (ne_both (L1 := L6) (L2 := L6) (d := PT S) (call4 rfl rfl rfl rfl (sum_eq hp hw0 hw20 hB hA hS (hSs.trans same_swap) hL6)) rfl (shp_PT S)))).trans ?_
  refine (chk (L1 := L6) (ne_both (L1 := L6) (L2 := L6) (d := PT M) (call4 rfl rfl rfl rfl (meet_eq hp hw0 hw20 hB hA hM (fun h => by rw [hMs]; exact and_comm) hL6)) rfl (shp_PT M))).trans ?_
  refine (chk (L1 := L6) (dB_b ((d2_ok (a := .lst (LI [])) (b := .lst []) (L1 := L6) (L2 := L6) (dLc_ok (items := M.map PI) (L1 := L6) rfl (by have := hM.len; simp; omega) (lc_none _ fun d hd => ?_)) rfl).trans (neL_nil [] L6)))).trans ?_
  · obtain ⟨v, hvM, rfl⟩ := List.mem_map.mp hd
    have hvr := hM.row v hvM
    have hab := (hMs (co v)).mp (.mem hvM)
    refine ⟨eK n p w A B C (some (PI v)) none (some (PT S)) (some (PT M)) none, rfl, (or_f (not_b (b := true) (truth_b (d := .bl true) ((call4 rfl rfl rfl rfl (holds_ok hp hw0 hw150 hA hvr L6)).trans ?_) rfl))).trans (not_b (b := true) (truth_b (d := .bl true) ((call4 rfl rfl rfl rfl (holds_ok hp hw0 hw150 hB hvr L6)).trans ?_) rfl))⟩
    · rw [inSp_iff.mpr hab.1]
    · rw [inSp_iff.mpr hab.2]
  refine (seq_nx _ _ (env1 := eK n p w A B C y1 none (some (PT S)) (some (PT M)) y10) (L1 := L7) ?_).trans ?_
  · rw [ev_for]
    have hit : iVal (dCall 4 m_law_lines (daCons (dVar 0) (daCons (dVar 3) (daCons (dC (.int 4)) (daCons (dVar 4) daNil))))) (eK n p w A B C none none (some (PT S)) (some (PT M)) none) L6 = .ok (rs.map PI) L7 := iVal_ok (d := PL rs) ((call_ok (n := 4) (a := [.ref n, .int p, .int ((4 : Nat) : Int), .int (w : Int)]) (L1 := L6) rfl rfl).trans e10) rfl
    rw [hit, toS_ok]
    exact e11
  refine (chk (L1 := L7) (ne_both (L1 := L7) (L2 := L7) (d := PT T) (call4 rfl rfl rfl rfl t1) (call4 rfl rfl rfl (call4 rfl rfl rfl rfl t2) t3) (shp_PT T))).trans ?_
  refine (chk (L1 := L7) (ne_both (L1 := L7) (L2 := L7) (d := PT U) (call4 rfl rfl rfl rfl u1) (call4 rfl rfl rfl (call4 rfl rfl rfl rfl u2) u3) (shp_PT U))).trans ?_
  refine (seq_nx _ _ (env1 := eK n p w A B C y1 (some (PT I)) (some (PT S)) (some (PT M)) y10) (L1 := L7) (set_ok (call4 rfl rfl rfl (call4 rfl rfl rfl rfl k1) k2))).trans ?_
  refine (chk (L1 := L7) (ne_both (L1 := L7) (L2 := L7) (d := PT I) rfl (call4 rfl rfl rfl (call4 rfl rfl rfl (call4 rfl rfl rfl rfl k1) k3) k4) (shp_PT I))).trans ?_
  refine (chk (L1 := L7) ((or_f (ne_both (L1 := L7) (L2 := L7) (d := PT A) (call4 (x := PT []) rfl rfl rfl rfl z1) rfl (shp_PT A))).trans (ne_both (L1 := L7) (L2 := L7) (d := PT A) (call4 rfl rfl rfl rfl z2) rfl (shp_PT A)))).trans ?_
  exact ret_ok ((d2_ok (a := PT []) (b := PT []) (L1 := L7) (L2 := L7) (call4 (x := PT []) rfl rfl rfl rfl z3) rfl).trans ((eqPT [] [] L7).trans rfl))
end Law

set_option Elab.async false
set_option linter.all false
set_option maxRecDepth 100000
set_option maxHeartbeats 1000000
namespace Law
open PySem PySem.Spec L2 DL PM
def combo : List Int → List (List Int) → Nat → Int
  | c :: cs, r :: R, i => combo cs R i + c * co r i
  | _, _, _ => 0
theorem sp_combo {p : Int} {R' : List (List Int)} : ∀ (cs : List Int) (R : List (List Int)), (∀ r ∈ R, r ∈ R') → Sp p R' (combo cs R)
  | [], R, _ => Sp.zero.cgr fun i => cg_of (by cases R <;> rfl)
  | c :: cs, [], _ => Sp.zero.cgr fun i => cg_of rfl
  | c :: cs, r :: R, h => ((sp_combo cs R fun x hx => h x (by simp [hx])).lin c (Sp.mem (h r (by simp)))).cgr fun i => cg_of rfl
theorem combo_ge {w i : Nat} (hi : w ≤ i) : ∀ (cs : List Int) (R : List (List Int)), (∀ r ∈ R, r.length = w) → combo cs R i = 0
  | [], R, _ => by cases R <;> rfl
  | c :: cs, [], _ => rfl
  | c :: cs, r :: R, h => by
    have ih := combo_ge hi cs R fun x hx => h x (by simp [hx])
    show combo cs R i + c * co r i = 0
    rw [ih, co_ge (by rw [h r (by simp)]; exact hi)]; simp
theorem sp_dec {p : Int} {w : Nat} {R : List (List Int)} {r : List Int} (cs : List Int) (hR : ∀ x ∈ R, Row p w x) (hr : Row p w r) (h : ((List.range w).all fun i => combo cs R i % p == co r i % p) = true) : Sp p R (co r) :=
  (sp_combo cs R fun _ h => h).cgr fun i => by
    rcases Nat.lt_or_ge i w with z | z
    · have := List.all_eq_true.mp h i (List.mem_range.mpr z)
      unfold cg
      exact eq_of_beq this
    · exact cg_of (by rw [combo_ge z cs R fun x hx => (hR x hx).n, co_ge (by rw [hr.n]; exact z)])
theorem rows_dec {p : Int} (hp : pr p) {w : Nat} {R : List (List Int)} (h : (R.all fun r => decide (r.length = w) && r.all (inr p)) = true) : ∀ r ∈ R, Row p w r := fun r hr => by
  have := List.all_eq_true.mp h r hr
  rw [Bool.and_eq_true, decide_eq_true_iff] at this
  refine ⟨this.1, red_of_mem (pr_pos hp) fun x hx => ?_⟩
  have h2 := List.all_eq_true.mp this.2 x hx
  unfold inr at h2
  rw [Bool.and_eq_true, decide_eq_true_iff, decide_eq_true_iff] at h2
  exact h2
theorem pr2 : pr 2 := .inl rfl
theorem pr3 : pr 3 := .inr (.inl rfl)
theorem pr5 : pr 5 := .inr (.inr (.inl rfl))
theorem pr7 : pr 7 := .inr (.inr (.inr rfl))

theorem isB_dec {p : Int} (hp : pr p) {w : Nat} {R : List (List Int)} (h1 : (R.all fun r => decide (r.length = w) && r.all (inr p)) = true) (h3 : isBaseB w R = true) : IsB p w R := (isBaseB_iff (rows_dec hp h1)).mp h3
theorem same_dec {p : Int} (hp : pr p) {w : Nat} {R rs : List (List Int)} (h1 : (R.all fun r => decide (r.length = w) && r.all (inr p)) = true) (h2 : (rs.all fun r => decide (r.length = w) && r.all (inr p)) = true)
    (c1 : ∀ r ∈ R, ∃ cs, ((List.range w).all fun i => combo cs rs i % p == co r i % p) = true) (c2 : ∀ r ∈ rs, ∃ cs, ((List.range w).all fun i => combo cs R i % p == co r i % p) = true) : Same p R rs :=
  ⟨fun r hr => (c1 r hr).elim fun cs h => sp_dec cs (rows_dec hp h2) (rows_dec hp h1 r hr) h, fun r hr => (c2 r hr).elim fun cs h => sp_dec cs (rows_dec hp h1) (rows_dec hp h2 r hr) h⟩
theorem const1 : m_space_meet [.int 2, .int 3, PT [[1, 0, 0], [0, 1, 0]], PT [[0, 1, 0], [0, 0, 1]]] [] = .ok (PT [[0, 1, 0]]) [] := by
  have r1 := rows_dec (p := 2) pr2 (w := 3) (R := [[1, 0, 0], [0, 1, 0]]) (by decide)
  have r2 := rows_dec (p := 2) pr2 (w := 3) (R := [[0, 1, 0], [0, 0, 1]]) (by decide)
  refine meet_eq (p := 2) pr2 (w := 3) (by decide) (by decide) (isB_dec pr2 (by decide) (by decide)) (isB_dec pr2 (by decide) (by decide)) (isB_dec pr2 (by decide) (by decide)) (fun h => ⟨fun k => ⟨k.mono fun x hx => by simp at hx ⊢; simp [hx], k.mono fun x hx => by simp at hx ⊢; simp [hx]⟩, fun ⟨ha, hb⟩ => ?_⟩) (by rfl)
  have h0 : cg 2 (h 0) 0 := Sp.low (fun r hr => by
    simp only [List.mem_cons, List.not_mem_nil, or_false] at hr
    rcases hr with rfl | rfl <;> rfl) hb
  have h2 : cg 2 (h 2) 0 := Sp.low (fun r hr => by
    simp only [List.mem_cons, List.not_mem_nil, or_false] at hr
    rcases hr with rfl | rfl <;> rfl) ha
  refine ((Sp.mem (by simp : ([0, 1, 0] : List Int) ∈ [[0, 1, 0]])).smul (h 1)).cgr fun i => ?_
  match i with
  | 0 => exact cg_trans (cg_of (by show h 1 * 0 = 0; simp)) (cg_sym h0)
  | 1 => exact cg_of (by show h 1 * 1 = h 1; simp)
  | 2 => exact cg_trans (cg_of (by show h 1 * 0 = 0; simp)) (cg_sym h2)
  | i + 3 =>
    have e : co [0, 1, 0] (i + 3) = 0 := co_ge (by simp)
    rw [e]
    exact cg_trans (cg_of (by simp)) (cg_sym (ha.wide r1 (by omega)))
theorem const2 : m_space_sum [.int 2, .int 3, PT [[1, 1, 0]], PT [[0, 1, 1]]] [] = .ok (PT [[1, 0, 1], [0, 1, 1]]) [] := by
  refine sum_eq (p := 2) pr2 (w := 3) (by decide) (by decide) (isB_dec pr2 (by decide) (by decide)) (isB_dec pr2 (by decide) (by decide)) (isB_dec pr2 (by decide) (by decide)) (same_dec pr2 (w := 3) (by decide) (by decide) (fun r hr => ?_) (fun r hr => ?_)) (by rfl)
  · simp only [List.mem_cons, List.not_mem_nil, or_false] at hr
    rcases hr with rfl | rfl
    · exact ⟨[1, 1], by decide⟩
    · exact ⟨[0, 1], by decide⟩
  · simp only [List.mem_cons, List.not_mem_nil, or_false, List.cons_append, List.nil_append] at hr
    rcases hr with rfl | rfl
    · exact ⟨[1, 1], by decide⟩
    · exact ⟨[0, 1], by decide⟩
theorem meet0 {a b : List Int} (ha : IsB 5 2 [a]) (hb : IsB 5 2 [b]) (hn : ∀ h : Nat → Int, Sp 5 [a] h → Sp 5 [b] h → ∀ i, cg 5 (h i) 0) : m_space_meet [.int 5, .int 2, PT [a], PT [b]] [] = .ok (PT []) [] :=
  meet_eq (p := 5) pr5 (w := 2) (by decide) (by decide) ha hb isB_nil (fun h => ⟨fun k => ⟨Sp.mono (R := []) (fun _ z => absurd z List.not_mem_nil) k, Sp.mono (R := []) (fun _ z => absurd z List.not_mem_nil) k⟩, fun k => Sp.zero.cgr fun i => cg_sym (hn h k.1 k.2 i)⟩) (by rfl)
theorem line_co {p : Int} {a : List Int} {h : Nat → Int} (k : Sp p [a] h) : ∃ c, ∀ i, cg p (h i) (c * co a i) := by
  obtain ⟨c, g, h1, h2⟩ := sp_cons k (R := []) rfl
  exact ⟨c, fun i => cg_trans (h2 i) (cg_trans (cg_add (Sp.low (R := []) (fun _ z => absurd z List.not_mem_nil) h1) cg_rfl) (cg_of (by omega)))⟩
theorem b10 : IsB 5 2 [[1, 0]] := isB_dec pr5 (by decide) (by decide)
theorem b01 : IsB 5 2 [[0, 1]] := isB_dec pr5 (by decide) (by decide)
theorem b11 : IsB 5 2 [[1, 1]] := isB_dec pr5 (by decide) (by decide)
theorem two_zero {a b : List Int} (ha : IsB 5 2 [a]) (f : ∀ c d : Int, cg 5 (c * co a 0) (d * co b 0) → cg 5 (c * co a 1) (d * co b 1) → cg 5 (c * co a 0) 0 ∧ cg 5 (c * co a 1) 0) (h : Nat → Int) (k : Sp 5 [a] h) (k' : Sp 5 [b] h) : ∀ i, cg 5 (h i) 0 := by
  obtain ⟨c, hc⟩ := line_co k
  obtain ⟨d, hd⟩ := line_co k'
  obtain ⟨z0, z1⟩ := f c d (cg_trans (cg_sym (hc 0)) (hd 0)) (cg_trans (cg_sym (hc 1)) (hd 1))
  intro i
  match i with
  | 0 => exact cg_trans (hc 0) z0
  | 1 => exact cg_trans (hc 1) z1
  | i + 2 => exact k.wide ha.row (by omega)
theorem m1 : m_space_meet [.int 5, .int 2, PT [[1, 0]], PT [[1, 1]]] [] = .ok (PT []) [] :=
  meet0 b10 b11 (two_zero b10 fun c d (h0 : cg 5 (c * 1) (d * 1)) (h1 : cg 5 (c * 0) (d * 1)) => by
    show cg 5 (c * 1) 0 ∧ cg 5 (c * 0) 0
    unfold cg at *; omega)
theorem m2 : m_space_meet [.int 5, .int 2, PT [[0, 1]], PT [[1, 0]]] [] = .ok (PT []) [] :=
  meet0 b01 b10 (two_zero b01 fun c d (h0 : cg 5 (c * 0) (d * 1)) (h1 : cg 5 (c * 1) (d * 0)) => by
    show cg 5 (c * 0) 0 ∧ cg 5 (c * 1) 0
    unfold cg at *; omega)
theorem m3 : m_space_meet [.int 5, .int 2, PT [[1, 1]], PT [[0, 1]]] [] = .ok (PT []) [] :=
  meet0 b11 b01 (two_zero b11 fun c d (h0 : cg 5 (c * 1) (d * 0)) (h1 : cg 5 (c * 1) (d * 1)) => by
    show cg 5 (c * 1) 0 ∧ cg 5 (c * 1) 0
    unfold cg at *; omega)
theorem b2 : IsB 5 2 [[1, 0], [0, 1]] := isB_dec pr5 (by decide) (by decide)
theorem s1 : m_space_sum [.int 5, .int 2, PT [[1, 0]], PT [[0, 1]]] [] = .ok (PT [[1, 0], [0, 1]]) [] :=
  sum_eq (p := 5) pr5 (w := 2) (by decide) (by decide) b10 b01 b2 Same.refl (by rfl)
theorem s2 : m_space_sum [.int 5, .int 2, PT [[1, 0], [0, 1]], PT [[1, 1]]] [] = .ok (PT [[1, 0], [0, 1]]) [] :=
  sum_eq (p := 5) pr5 (w := 2) (by decide) (by decide) b2 b11 b2 (same_dec pr5 (w := 2) (by decide) (by decide) (fun r hr => by
    simp only [List.mem_cons, List.not_mem_nil, or_false] at hr
    rcases hr with rfl | rfl
    · exact ⟨[1, 0, 0], by decide⟩
    · exact ⟨[0, 1, 0], by decide⟩) (fun r hr => by
    simp only [List.mem_cons, List.not_mem_nil, or_false, List.cons_append, List.nil_append] at hr
    rcases hr with rfl | rfl | rfl
    · exact ⟨[1, 0], by decide⟩
    · exact ⟨[0, 1], by decide⟩
    · exact ⟨[1, 1], by decide⟩)) (by rfl)
theorem one_case (ns : List Int) (k : Nat) (x2 x3 : Option D) : sIf (dNot (dTruth (dCallNew m_law_right (dCallF 2 m_law_kettle (daCons (dVar 0) (daCons (dVar 1) daNil)))))) (sRet (dC (.bl false))) sNext [some (.frl (LI ns)), some (.int (k : Int)), x2, x3] [] = .nx [some (.frl (LI ns)), some (.int (k : Int)), x2, x3] [] := by
  obtain ⟨A, B, hk⟩ := kettle_ok ns k []
  have hT : Tri 0 [.lst (LI [A, B, 0])] := ⟨by
    unfold Low
    rw [List.all_cons, low_ints]; rfl, A, B, 0, rfl⟩
  obtain ⟨L1, e1, v1⟩ := right_ok hT
  have hc : dCallNew m_law_right (dCallF 2 m_law_kettle (daCons (dVar 0) (daCons (dVar 1) daNil))) [some (.frl (LI ns)), some (.int (k : Int)), x2, x3] [] = .ok (.bl true) [] := by
    unfold dCallNew dCallF
    show R.bind (m_law_kettle [.frl (LI ns), .int (k : Int)] []) _ = _
    rw [hk]
    show (match m_law_right [.ref 0] [.lst (LI [A, B, 0])] with | .ok d L2 => leave [] L2 d | .exc e L2 => leaveX [] L2 e | .no => .no) = _
    rw [e1]
    show leave [] L1 (.bl true) = _
    unfold leave
    rw [if_neg (by rw [v1.2]; simp)]
    rfl
  exact (if_f (not_b (b := true) (truth_b (d := .bl true) hc rfl))).trans rfl
theorem law_end (ns : List Int) (x1 x2 x3 : Option D) : ∃ body, m_law = fnD 4 (sSeq (sFor (iRange1 (daCons (dL (kI2 fun i j => if j > i then j else i) (daCons (dC (.int 1)) (daCons (dL (kI2 fun i j => if j < i then j else i) (daCons (dC (.int 2)) (daCons (dL kLen (daCons (dVar 0) daNil)) daNil))) daNil))) daNil)) (gSet 1) (sIf (dNot (dTruth (dCallNew m_law_right (dCallF 2 m_law_kettle (daCons (dVar 0) (daCons (dVar 1) daNil)))))) (sRet (dC (.bl false))) sNext)) body) ∧ body [some (.frl (LI ns)), x1, x2, x3] [] = .rt (.bl true) [] := by
  refine ⟨_, rfl, ?_⟩
  refine (seq_nx _ _ (env1 := [some (.frl (LI ns)), x1, some (.lst [PT [[0, 1, 0]], PT [[1, 0, 1], [0, 1, 1]]]), x3]) (L1 := []) (set_ok ((dL_ok (ca_ok (call4 (a := .int 2) (b := .int 3) (c := PT [[1, 0, 0], [0, 1, 0]]) (x := PT [[0, 1, 0], [0, 0, 1]]) rfl rfl rfl rfl const1) (ca_ok (call4 (a := .int 2) (b := .int 3) (c := PT [[1, 1, 0]]) (x := PT [[0, 1, 1]]) rfl rfl rfl rfl const2) cn_ok))).trans rfl))).trans ?_
  refine (chk (L1 := []) (ne_both (L1 := []) (L2 := []) (d := .lst [PT [[0, 1, 0]], PT [[1, 0, 1], [0, 1, 1]]]) rfl rfl ⟨_, rfl, by decide +kernel, by decide +kernel⟩)).trans ?_
  refine (seq_nx _ _ (env1 := [some (.frl (LI ns)), x1, some (.lst [PT [[0, 1, 0]], PT [[1, 0, 1], [0, 1, 1]]]), some (.lst [PT [[1, 0]], PT [[0, 1]], PT [[1, 1]]])]) (L1 := []) (set_ok rfl)).trans ?_
  refine (chk (L1 := []) (ne_both (L1 := []) (L2 := []) (d := .lst [PT [], PT [], PT []]) (dLc_ok (items := rangeD 0 3) (L1 := []) (range1_ok (n := 3) rfl (by decide)) (by decide) (lc_cons (env1 := [some (.frl (LI ns)), some (.int 0), some (.lst [PT [[0, 1, 0]], PT [[1, 0, 1], [0, 1, 1]]]), some (.lst [PT [[1, 0]], PT [[0, 1]], PT [[1, 1]]])]) rfl rfl (call4 (a := .int 5) (b := .int 2) (c := PT [[1, 0]]) (x := PT [[1, 1]]) rfl rfl rfl rfl m1) (lc_cons (env1 := [some (.frl (LI ns)), some (.int 1), some (.lst [PT [[0, 1, 0]], PT [[1, 0, 1], [0, 1, 1]]]), some (.lst [PT [[1, 0]], PT [[0, 1]], PT [[1, 1]]])]) rfl rfl (call4 (a := .int 5) (b := .int 2) (c := PT [[0, 1]]) (x := PT [[1, 0]]) rfl rfl rfl rfl m2) (lc_cons (env1 := [some (.frl (LI ns)), some (.int 2), some (.lst [PT [[0, 1, 0]], PT [[1, 0, 1], [0, 1, 1]]]), some (.lst [PT [[1, 0]], PT [[0, 1]], PT [[1, 1]]])]) rfl rfl (call4 (a := .int 5) (b := .int 2) (c := PT [[1, 1]]) (x := PT [[0, 1]]) rfl rfl rfl rfl m3) rfl)))) rfl ⟨_, rfl, by decide +kernel, by decide +kernel⟩)).trans ?_
  exact ret_ok ((d2_ok (a := PT [[1, 0], [0, 1]]) (b := PT [[1, 0], [0, 1]]) (L1 := []) (L2 := []) (call4 (a := .int 5) (b := .int 2) (c := PT [[1, 0], [0, 1]]) (x := PT [[1, 1]]) rfl rfl (call4 (a := .int 5) (b := .int 2) (c := PT [[1, 0]]) (x := PT [[0, 1]]) rfl rfl rfl rfl s1) rfl s2) rfl).trans ((eqPT _ _ []).trans rfl))
theorem law_true : ∀ ns : List Int, ns.length ≤ 63 → ∃ L', m_law [.frl (ns.map D.int)] [] = .ok (.bl true) L' := by
  intro ns _
  have hr : ∃ k : Nat, (k = 1 ∨ k = 2) ∧ iRange1 (daCons (dL (kI2 fun i j => if j > i then j else i) (daCons (dC (.int 1)) (daCons (dL (kI2 fun i j => if j < i then j else i) (daCons (dC (.int 2)) (daCons (dL kLen (daCons (dVar 0) daNil)) daNil))) daNil))) daNil) [some (.frl (LI ns)), none, none, none] [] = .ok (rangeD 0 k) [] := by
    obtain ⟨k, hk, e⟩ : ∃ k : Nat, (k = 1 ∨ k = 2) ∧ (if (if ((LI ns).length : Int) < 2 then ((LI ns).length : Int) else 2) > 1 then (if ((LI ns).length : Int) < 2 then ((LI ns).length : Int) else 2) else 1) = (k : Int) := by
      by_cases h : ((LI ns).length : Int) < 2
      · exact ⟨1, .inl rfl, by rw [if_pos h, if_neg (by omega)]; rfl⟩
      · exact ⟨2, .inr rfl, by rw [if_neg h]; rfl⟩
    refine ⟨k, hk, range1_ok ?_ (by omega)⟩
    rw [← e]; rfl
  obtain ⟨k, hk, hr⟩ := hr
  have fin : ∀ x1 : Option D, forD (gSet 1) (sIf (dNot (dTruth (dCallNew m_law_right (dCallF 2 m_law_kettle (daCons (dVar 0) (daCons (dVar 1) daNil)))))) (sRet (dC (.bl false))) sNext) (rangeD 0 k) [some (.frl (LI ns)), none, none, none] [] = .nx [some (.frl (LI ns)), x1, none, none] [] → ∃ L', m_law [.frl (ns.map D.int)] [] = .ok (.bl true) L' := by
    intro x1 hf
    obtain ⟨body, hb, he⟩ := law_end ns x1 none none
    refine ⟨[], ?_⟩
    rw [hb]
    refine fnD_rt ((seq_nx _ _ ?_).trans he)
    rw [ev_for]
    show R.toS (iRange1 _ [some (.frl (LI ns)), none, none, none] []) _ _ = _
    rw [hr, toS_ok]
    exact hf
  rcases hk with rfl | rfl
  · exact fin (some (.int 0)) ((for_go (d := .int 0) (ds := []) (env1 := [some (.frl (LI ns)), some (.int 0), none, none]) rfl (one_case ns 0 none none)).trans rfl)
  · exact fin (some (.int 1)) ((for_go (d := .int 0) (ds := [.int 1]) (env1 := [some (.frl (LI ns)), some (.int 0), none, none]) rfl (one_case ns 0 none none)).trans ((for_go (d := .int 1) (ds := []) (env1 := [some (.frl (LI ns)), some (.int 1), none, none]) rfl (one_case ns 1 none none)).trans rfl))
end Law

set_option Elab.async false
set_option linter.all false
set_option maxRecDepth 100000
set_option maxHeartbeats 4000000
namespace Law
open PySem PySem.Spec L2 DL
open PyProof.Rows (envOfC)
section
theorem all_mk {l : PySem.W.OpenLaw} {w : World} {K : PySem.W.Frag} {h : Heap} {mg : Str → Option Value} {fa : Addr} (X : K.In h) (G : h.Ns mainGlobals mg) (hfa : mg "law" = some (.ref fa))
    {f_undone_number : Addr} {od_undone_number an_undone_number : Option Addr} {sl_undone_number : Array (Option Value)} {oc_undone_number kV_undone_number dc_undone_number pm_undone_number cd_undone_number ct_undone_number : Value}
    {f_zero_row : Addr} {od_zero_row an_zero_row : Option Addr} {sl_zero_row : Array (Option Value)} {oc_zero_row kV_zero_row dc_zero_row pm_zero_row cd_zero_row ct_zero_row : Value}
    {f_unit_row : Addr} {od_unit_row an_unit_row : Option Addr} {sl_unit_row : Array (Option Value)} {oc_unit_row kV_unit_row dc_unit_row pm_unit_row cd_unit_row ct_unit_row : Value}
    {f_unit_rows : Addr} {od_unit_rows an_unit_rows : Option Addr} {sl_unit_rows : Array (Option Value)} {oc_unit_rows kV_unit_rows dc_unit_rows pm_unit_rows cd_unit_rows ct_unit_rows : Value}
    {f_row_times : Addr} {od_row_times an_row_times : Option Addr} {sl_row_times : Array (Option Value)} {oc_row_times kV_row_times dc_row_times pm_row_times cd_row_times ct_row_times : Value}
    {f_row_less_times : Addr} {od_row_less_times an_row_less_times : Option Addr} {sl_row_less_times : Array (Option Value)} {oc_row_less_times kV_row_less_times dc_row_less_times pm_row_less_times cd_row_less_times ct_row_less_times : Value}
    {f_at_places : Addr} {od_at_places an_at_places : Option Addr} {sl_at_places : Array (Option Value)} {oc_at_places kV_at_places dc_at_places pm_at_places cd_at_places ct_at_places : Value}
    {f_lead_from : Addr} {od_lead_from an_lead_from : Option Addr} {sl_lead_from : Array (Option Value)} {oc_lead_from kV_lead_from dc_lead_from pm_lead_from cd_lead_from ct_lead_from : Value}
    {f_row_beyond : Addr} {od_row_beyond an_row_beyond : Option Addr} {sl_row_beyond : Array (Option Value)} {oc_row_beyond kV_row_beyond dc_row_beyond pm_row_beyond cd_row_beyond ct_row_beyond : Value}
    {f_steps_of : Addr} {od_steps_of an_steps_of : Option Addr} {sl_steps_of : Array (Option Value)} {oc_steps_of kV_steps_of dc_steps_of pm_steps_of cd_steps_of ct_steps_of : Value}
    {f_stepped : Addr} {od_stepped an_stepped : Option Addr} {sl_stepped : Array (Option Value)} {oc_stepped kV_stepped dc_stepped pm_stepped cd_stepped ct_stepped : Value}
    {f_reduced : Addr} {od_reduced an_reduced : Option Addr} {sl_reduced : Array (Option Value)} {oc_reduced kV_reduced dc_reduced pm_reduced cd_reduced ct_reduced : Value}
    {f_is_within : Addr} {od_is_within an_is_within : Option Addr} {sl_is_within : Array (Option Value)} {oc_is_within kV_is_within dc_is_within pm_is_within cd_is_within ct_is_within : Value}
    {f_tails : Addr} {od_tails an_tails : Option Addr} {sl_tails : Array (Option Value)} {oc_tails kV_tails dc_tails pm_tails cd_tails ct_tails : Value}
    {f_meet_rows : Addr} {od_meet_rows an_meet_rows : Option Addr} {sl_meet_rows : Array (Option Value)} {oc_meet_rows kV_meet_rows dc_meet_rows pm_meet_rows cd_meet_rows ct_meet_rows : Value}
    {f_is_integer : Addr} {od_is_integer an_is_integer : Option Addr} {sl_is_integer : Array (Option Value)} {oc_is_integer kV_is_integer dc_is_integer pm_is_integer cd_is_integer ct_is_integer : Value}
    {f_is_from_to : Addr} {od_is_from_to an_is_from_to : Option Addr} {sl_is_from_to : Array (Option Value)} {oc_is_from_to kV_is_from_to dc_is_from_to pm_is_from_to cd_is_from_to ct_is_from_to : Value}
    {f_is_row : Addr} {od_is_row an_is_row : Option Addr} {sl_is_row : Array (Option Value)} {oc_is_row kV_is_row dc_is_row pm_is_row cd_is_row ct_is_row : Value}
    {f_are_rows : Addr} {od_are_rows an_are_rows : Option Addr} {sl_are_rows : Array (Option Value)} {oc_are_rows kV_are_rows dc_are_rows pm_are_rows cd_are_rows ct_are_rows : Value}
    {f_is_base : Addr} {od_is_base an_is_base : Option Addr} {sl_is_base : Array (Option Value)} {oc_is_base kV_is_base dc_is_base pm_is_base cd_is_base ct_is_base : Value}
    {f_check_prime : Addr} {od_check_prime an_check_prime : Option Addr} {sl_check_prime : Array (Option Value)} {oc_check_prime kV_check_prime dc_check_prime pm_check_prime cd_check_prime ct_check_prime : Value}
    {f_check_from_to : Addr} {od_check_from_to an_check_from_to : Option Addr} {sl_check_from_to : Array (Option Value)} {oc_check_from_to kV_check_from_to dc_check_from_to pm_check_from_to cd_check_from_to ct_check_from_to : Value}
    {f_check_width : Addr} {od_check_width an_check_width : Option Addr} {sl_check_width : Array (Option Value)} {oc_check_width kV_check_width dc_check_width pm_check_width cd_check_width ct_check_width : Value}
    {f_check_row : Addr} {od_check_row an_check_row : Option Addr} {sl_check_row : Array (Option Value)} {oc_check_row kV_check_row dc_check_row pm_check_row cd_check_row ct_check_row : Value}
    {f_check_space : Addr} {od_check_space an_check_space : Option Addr} {sl_check_space : Array (Option Value)} {oc_check_space kV_check_space dc_check_space pm_check_space cd_check_space ct_check_space : Value}
    {f_does_hold : Addr} {od_does_hold an_does_hold : Option Addr} {sl_does_hold : Array (Option Value)} {oc_does_hold kV_does_hold dc_does_hold pm_does_hold cd_does_hold ct_does_hold : Value}
    {f_check_spaces : Addr} {od_check_spaces an_check_spaces : Option Addr} {sl_check_spaces : Array (Option Value)} {oc_check_spaces kV_check_spaces dc_check_spaces pm_check_spaces cd_check_spaces ct_check_spaces : Value}
    {f_space_sum : Addr} {od_space_sum an_space_sum : Option Addr} {sl_space_sum : Array (Option Value)} {oc_space_sum kV_space_sum dc_space_sum pm_space_sum cd_space_sum ct_space_sum : Value}
    {f_space_meet : Addr} {od_space_meet an_space_meet : Option Addr} {sl_space_meet : Array (Option Value)} {oc_space_meet kV_space_meet dc_space_meet pm_space_meet cd_space_meet ct_space_meet : Value}
    {f_law_kettle : Addr} {od_law_kettle an_law_kettle : Option Addr} {sl_law_kettle : Array (Option Value)} {oc_law_kettle kV_law_kettle dc_law_kettle pm_law_kettle cd_law_kettle ct_law_kettle : Value}
    {f_law_ladle : Addr} {od_law_ladle an_law_ladle : Option Addr} {sl_law_ladle : Array (Option Value)} {oc_law_ladle kV_law_ladle dc_law_ladle pm_law_ladle cd_law_ladle ct_law_ladle : Value}
    {f_law_pick : Addr} {od_law_pick an_law_pick : Option Addr} {sl_law_pick : Array (Option Value)} {oc_law_pick kV_law_pick dc_law_pick pm_law_pick cd_law_pick ct_law_pick : Value}
    {f_law_undone : Addr} {od_law_undone an_law_undone : Option Addr} {sl_law_undone : Array (Option Value)} {oc_law_undone kV_law_undone dc_law_undone pm_law_undone cd_law_undone ct_law_undone : Value}
    {f_law_plus : Addr} {od_law_plus an_law_plus : Option Addr} {sl_law_plus : Array (Option Value)} {oc_law_plus kV_law_plus dc_law_plus pm_law_plus cd_law_plus ct_law_plus : Value}
    {f_law_base : Addr} {od_law_base an_law_base : Option Addr} {sl_law_base : Array (Option Value)} {oc_law_base kV_law_base dc_law_base pm_law_base cd_law_base ct_law_base : Value}
    {f_law_has : Addr} {od_law_has an_law_has : Option Addr} {sl_law_has : Array (Option Value)} {oc_law_has kV_law_has dc_law_has pm_law_has cd_law_has ct_law_has : Value}
    {f_law_lines : Addr} {od_law_lines an_law_lines : Option Addr} {sl_law_lines : Array (Option Value)} {oc_law_lines kV_law_lines dc_law_lines pm_law_lines cd_law_lines ct_law_lines : Value}
    {f_law_null : Addr} {od_law_null an_law_null : Option Addr} {sl_law_null : Array (Option Value)} {oc_law_null kV_law_null dc_law_null pm_law_null cd_law_null ct_law_null : Value}
    {f_law_meet : Addr} {od_law_meet an_law_meet : Option Addr} {sl_law_meet : Array (Option Value)} {oc_law_meet kV_law_meet dc_law_meet pm_law_meet cd_law_meet ct_law_meet : Value}
    {f_law_drawn : Addr} {od_law_drawn an_law_drawn : Option Addr} {sl_law_drawn : Array (Option Value)} {oc_law_drawn kV_law_drawn dc_law_drawn pm_law_drawn cd_law_drawn ct_law_drawn : Value}
    {f_law_right : Addr} {od_law_right an_law_right : Option Addr} {sl_law_right : Array (Option Value)} {oc_law_right kV_law_right dc_law_right pm_law_right cd_law_right ct_law_right : Value}
    {f_law : Addr} {od_law an_law : Option Addr} {sl_law : Array (Option Value)} {oc_law kV_law dc_law pm_law cd_law ct_law : Value}
    {t_MAX_WIDTH : Tok}
    {q_PRIMES : Addr} {n_PRIMES : Nat} {sl_PRIMES : Array (Option Value)} {t_PRIMES_0 t_PRIMES_1 t_PRIMES_2 t_PRIMES_3 : Tok}
    (a_undone_number : PySem.W.nsIn K mainGlobals "undone_number" = some (some (.ref f_undone_number)))
    (l_undone_number : K.lookup f_undone_number = some ⟨oc_undone_number, od_undone_number, .func (PySem.W.fnOf "undone_number" "undone_number" (defArgs s_undone_number) (defBody s_undone_number) (defScope s_undone_number) .none kV_undone_number dc_undone_number pm_undone_number an_undone_number cd_undone_number ct_undone_number), sl_undone_number⟩)
    (c_undone_number : PySem.W.codeIn K cd_undone_number "undone_number" = true)
    (k_undone_number : PySem.W.keepIn K (.ref f_undone_number) = true)
    (a_zero_row : PySem.W.nsIn K mainGlobals "zero_row" = some (some (.ref f_zero_row)))
    (l_zero_row : K.lookup f_zero_row = some ⟨oc_zero_row, od_zero_row, .func (PySem.W.fnOf "zero_row" "zero_row" (defArgs s_zero_row) (defBody s_zero_row) (defScope s_zero_row) .none kV_zero_row dc_zero_row pm_zero_row an_zero_row cd_zero_row ct_zero_row), sl_zero_row⟩)
    (c_zero_row : PySem.W.codeIn K cd_zero_row "zero_row" = true)
    (k_zero_row : PySem.W.keepIn K (.ref f_zero_row) = true)
    (a_unit_row : PySem.W.nsIn K mainGlobals "unit_row" = some (some (.ref f_unit_row)))
    (l_unit_row : K.lookup f_unit_row = some ⟨oc_unit_row, od_unit_row, .func (PySem.W.fnOf "unit_row" "unit_row" (defArgs s_unit_row) (defBody s_unit_row) (defScope s_unit_row) .none kV_unit_row dc_unit_row pm_unit_row an_unit_row cd_unit_row ct_unit_row), sl_unit_row⟩)
    (c_unit_row : PySem.W.codeIn K cd_unit_row "unit_row" = true)
    (k_unit_row : PySem.W.keepIn K (.ref f_unit_row) = true)
    (a_unit_rows : PySem.W.nsIn K mainGlobals "unit_rows" = some (some (.ref f_unit_rows)))
    (l_unit_rows : K.lookup f_unit_rows = some ⟨oc_unit_rows, od_unit_rows, .func (PySem.W.fnOf "unit_rows" "unit_rows" (defArgs s_unit_rows) (defBody s_unit_rows) (defScope s_unit_rows) .none kV_unit_rows dc_unit_rows pm_unit_rows an_unit_rows cd_unit_rows ct_unit_rows), sl_unit_rows⟩)
    (c_unit_rows : PySem.W.codeIn K cd_unit_rows "unit_rows" = true)
    (k_unit_rows : PySem.W.keepIn K (.ref f_unit_rows) = true)
    (a_row_times : PySem.W.nsIn K mainGlobals "row_times" = some (some (.ref f_row_times)))
    (l_row_times : K.lookup f_row_times = some ⟨oc_row_times, od_row_times, .func (PySem.W.fnOf "row_times" "row_times" (defArgs s_row_times) (defBody s_row_times) (defScope s_row_times) .none kV_row_times dc_row_times pm_row_times an_row_times cd_row_times ct_row_times), sl_row_times⟩)
    (c_row_times : PySem.W.codeIn K cd_row_times "row_times" = true)
    (k_row_times : PySem.W.keepIn K (.ref f_row_times) = true)
    (a_row_less_times : PySem.W.nsIn K mainGlobals "row_less_times" = some (some (.ref f_row_less_times)))
    (l_row_less_times : K.lookup f_row_less_times = some ⟨oc_row_less_times, od_row_less_times, .func (PySem.W.fnOf "row_less_times" "row_less_times" (defArgs s_row_less_times) (defBody s_row_less_times) (defScope s_row_less_times) .none kV_row_less_times dc_row_less_times pm_row_less_times an_row_less_times cd_row_less_times ct_row_less_times), sl_row_less_times⟩)
    (c_row_less_times : PySem.W.codeIn K cd_row_less_times "row_less_times" = true)
    (k_row_less_times : PySem.W.keepIn K (.ref f_row_less_times) = true)
    (a_at_places : PySem.W.nsIn K mainGlobals "at_places" = some (some (.ref f_at_places)))
    (l_at_places : K.lookup f_at_places = some ⟨oc_at_places, od_at_places, .func (PySem.W.fnOf "at_places" "at_places" (defArgs s_at_places) (defBody s_at_places) (defScope s_at_places) .none kV_at_places dc_at_places pm_at_places an_at_places cd_at_places ct_at_places), sl_at_places⟩)
    (c_at_places : PySem.W.codeIn K cd_at_places "at_places" = true)
    (k_at_places : PySem.W.keepIn K (.ref f_at_places) = true)
    (a_lead_from : PySem.W.nsIn K mainGlobals "lead_from" = some (some (.ref f_lead_from)))
    (l_lead_from : K.lookup f_lead_from = some ⟨oc_lead_from, od_lead_from, .func (PySem.W.fnOf "lead_from" "lead_from" (defArgs s_lead_from) (defBody s_lead_from) (defScope s_lead_from) .none kV_lead_from dc_lead_from pm_lead_from an_lead_from cd_lead_from ct_lead_from), sl_lead_from⟩)
    (c_lead_from : PySem.W.codeIn K cd_lead_from "lead_from" = true)
    (k_lead_from : PySem.W.keepIn K (.ref f_lead_from) = true)
    (a_row_beyond : PySem.W.nsIn K mainGlobals "row_beyond" = some (some (.ref f_row_beyond)))
    (l_row_beyond : K.lookup f_row_beyond = some ⟨oc_row_beyond, od_row_beyond, .func (PySem.W.fnOf "row_beyond" "row_beyond" (defArgs s_row_beyond) (defBody s_row_beyond) (defScope s_row_beyond) .none kV_row_beyond dc_row_beyond pm_row_beyond an_row_beyond cd_row_beyond ct_row_beyond), sl_row_beyond⟩)
    (c_row_beyond : PySem.W.codeIn K cd_row_beyond "row_beyond" = true)
    (k_row_beyond : PySem.W.keepIn K (.ref f_row_beyond) = true)
    (a_steps_of : PySem.W.nsIn K mainGlobals "steps_of" = some (some (.ref f_steps_of)))
    (l_steps_of : K.lookup f_steps_of = some ⟨oc_steps_of, od_steps_of, .func (PySem.W.fnOf "steps_of" "steps_of" (defArgs s_steps_of) (defBody s_steps_of) (defScope s_steps_of) .none kV_steps_of dc_steps_of pm_steps_of an_steps_of cd_steps_of ct_steps_of), sl_steps_of⟩)
    (c_steps_of : PySem.W.codeIn K cd_steps_of "steps_of" = true)
    (k_steps_of : PySem.W.keepIn K (.ref f_steps_of) = true)
    (a_stepped : PySem.W.nsIn K mainGlobals "stepped" = some (some (.ref f_stepped)))
    (l_stepped : K.lookup f_stepped = some ⟨oc_stepped, od_stepped, .func (PySem.W.fnOf "stepped" "stepped" (defArgs s_stepped) (defBody s_stepped) (defScope s_stepped) .none kV_stepped dc_stepped pm_stepped an_stepped cd_stepped ct_stepped), sl_stepped⟩)
    (c_stepped : PySem.W.codeIn K cd_stepped "stepped" = true)
    (k_stepped : PySem.W.keepIn K (.ref f_stepped) = true)
    (a_reduced : PySem.W.nsIn K mainGlobals "reduced" = some (some (.ref f_reduced)))
    (l_reduced : K.lookup f_reduced = some ⟨oc_reduced, od_reduced, .func (PySem.W.fnOf "reduced" "reduced" (defArgs s_reduced) (defBody s_reduced) (defScope s_reduced) .none kV_reduced dc_reduced pm_reduced an_reduced cd_reduced ct_reduced), sl_reduced⟩)
    (c_reduced : PySem.W.codeIn K cd_reduced "reduced" = true)
    (k_reduced : PySem.W.keepIn K (.ref f_reduced) = true)
    (a_is_within : PySem.W.nsIn K mainGlobals "is_within" = some (some (.ref f_is_within)))
    (l_is_within : K.lookup f_is_within = some ⟨oc_is_within, od_is_within, .func (PySem.W.fnOf "is_within" "is_within" (defArgs s_is_within) (defBody s_is_within) (defScope s_is_within) .none kV_is_within dc_is_within pm_is_within an_is_within cd_is_within ct_is_within), sl_is_within⟩)
    (c_is_within : PySem.W.codeIn K cd_is_within "is_within" = true)
    (k_is_within : PySem.W.keepIn K (.ref f_is_within) = true)
    (a_tails : PySem.W.nsIn K mainGlobals "tails" = some (some (.ref f_tails)))
    (l_tails : K.lookup f_tails = some ⟨oc_tails, od_tails, .func (PySem.W.fnOf "tails" "tails" (defArgs s_tails) (defBody s_tails) (defScope s_tails) .none kV_tails dc_tails pm_tails an_tails cd_tails ct_tails), sl_tails⟩)
    (c_tails : PySem.W.codeIn K cd_tails "tails" = true)
    (k_tails : PySem.W.keepIn K (.ref f_tails) = true)
    (a_meet_rows : PySem.W.nsIn K mainGlobals "meet_rows" = some (some (.ref f_meet_rows)))
    (l_meet_rows : K.lookup f_meet_rows = some ⟨oc_meet_rows, od_meet_rows, .func (PySem.W.fnOf "meet_rows" "meet_rows" (defArgs s_meet_rows) (defBody s_meet_rows) (defScope s_meet_rows) .none kV_meet_rows dc_meet_rows pm_meet_rows an_meet_rows cd_meet_rows ct_meet_rows), sl_meet_rows⟩)
    (c_meet_rows : PySem.W.codeIn K cd_meet_rows "meet_rows" = true)
    (k_meet_rows : PySem.W.keepIn K (.ref f_meet_rows) = true)
    (a_is_integer : PySem.W.nsIn K mainGlobals "is_integer" = some (some (.ref f_is_integer)))
    (l_is_integer : K.lookup f_is_integer = some ⟨oc_is_integer, od_is_integer, .func (PySem.W.fnOf "is_integer" "is_integer" (defArgs s_is_integer) (defBody s_is_integer) (defScope s_is_integer) .none kV_is_integer dc_is_integer pm_is_integer an_is_integer cd_is_integer ct_is_integer), sl_is_integer⟩)
    (c_is_integer : PySem.W.codeIn K cd_is_integer "is_integer" = true)
    (k_is_integer : PySem.W.keepIn K (.ref f_is_integer) = true)
    (a_is_from_to : PySem.W.nsIn K mainGlobals "is_from_to" = some (some (.ref f_is_from_to)))
    (l_is_from_to : K.lookup f_is_from_to = some ⟨oc_is_from_to, od_is_from_to, .func (PySem.W.fnOf "is_from_to" "is_from_to" (defArgs s_is_from_to) (defBody s_is_from_to) (defScope s_is_from_to) .none kV_is_from_to dc_is_from_to pm_is_from_to an_is_from_to cd_is_from_to ct_is_from_to), sl_is_from_to⟩)
    (c_is_from_to : PySem.W.codeIn K cd_is_from_to "is_from_to" = true)
    (k_is_from_to : PySem.W.keepIn K (.ref f_is_from_to) = true)
    (a_is_row : PySem.W.nsIn K mainGlobals "is_row" = some (some (.ref f_is_row)))
    (l_is_row : K.lookup f_is_row = some ⟨oc_is_row, od_is_row, .func (PySem.W.fnOf "is_row" "is_row" (defArgs s_is_row) (defBody s_is_row) (defScope s_is_row) .none kV_is_row dc_is_row pm_is_row an_is_row cd_is_row ct_is_row), sl_is_row⟩)
    (c_is_row : PySem.W.codeIn K cd_is_row "is_row" = true)
    (k_is_row : PySem.W.keepIn K (.ref f_is_row) = true)
    (a_are_rows : PySem.W.nsIn K mainGlobals "are_rows" = some (some (.ref f_are_rows)))
    (l_are_rows : K.lookup f_are_rows = some ⟨oc_are_rows, od_are_rows, .func (PySem.W.fnOf "are_rows" "are_rows" (defArgs s_are_rows) (defBody s_are_rows) (defScope s_are_rows) .none kV_are_rows dc_are_rows pm_are_rows an_are_rows cd_are_rows ct_are_rows), sl_are_rows⟩)
    (c_are_rows : PySem.W.codeIn K cd_are_rows "are_rows" = true)
    (k_are_rows : PySem.W.keepIn K (.ref f_are_rows) = true)
    (a_is_base : PySem.W.nsIn K mainGlobals "is_base" = some (some (.ref f_is_base)))
    (l_is_base : K.lookup f_is_base = some ⟨oc_is_base, od_is_base, .func (PySem.W.fnOf "is_base" "is_base" (defArgs s_is_base) (defBody s_is_base) (defScope s_is_base) .none kV_is_base dc_is_base pm_is_base an_is_base cd_is_base ct_is_base), sl_is_base⟩)
    (c_is_base : PySem.W.codeIn K cd_is_base "is_base" = true)
    (k_is_base : PySem.W.keepIn K (.ref f_is_base) = true)
    (a_check_prime : PySem.W.nsIn K mainGlobals "check_prime" = some (some (.ref f_check_prime)))
    (l_check_prime : K.lookup f_check_prime = some ⟨oc_check_prime, od_check_prime, .func (PySem.W.fnOf "check_prime" "check_prime" (defArgs s_check_prime) (defBody s_check_prime) (defScope s_check_prime) .none kV_check_prime dc_check_prime pm_check_prime an_check_prime cd_check_prime ct_check_prime), sl_check_prime⟩)
    (c_check_prime : PySem.W.codeIn K cd_check_prime "check_prime" = true)
    (k_check_prime : PySem.W.keepIn K (.ref f_check_prime) = true)
    (a_check_from_to : PySem.W.nsIn K mainGlobals "check_from_to" = some (some (.ref f_check_from_to)))
    (l_check_from_to : K.lookup f_check_from_to = some ⟨oc_check_from_to, od_check_from_to, .func (PySem.W.fnOf "check_from_to" "check_from_to" (defArgs s_check_from_to) (defBody s_check_from_to) (defScope s_check_from_to) .none kV_check_from_to dc_check_from_to pm_check_from_to an_check_from_to cd_check_from_to ct_check_from_to), sl_check_from_to⟩)
    (c_check_from_to : PySem.W.codeIn K cd_check_from_to "check_from_to" = true)
    (k_check_from_to : PySem.W.keepIn K (.ref f_check_from_to) = true)
    (a_check_width : PySem.W.nsIn K mainGlobals "check_width" = some (some (.ref f_check_width)))
    (l_check_width : K.lookup f_check_width = some ⟨oc_check_width, od_check_width, .func (PySem.W.fnOf "check_width" "check_width" (defArgs s_check_width) (defBody s_check_width) (defScope s_check_width) .none kV_check_width dc_check_width pm_check_width an_check_width cd_check_width ct_check_width), sl_check_width⟩)
    (c_check_width : PySem.W.codeIn K cd_check_width "check_width" = true)
    (k_check_width : PySem.W.keepIn K (.ref f_check_width) = true)
    (a_check_row : PySem.W.nsIn K mainGlobals "check_row" = some (some (.ref f_check_row)))
    (l_check_row : K.lookup f_check_row = some ⟨oc_check_row, od_check_row, .func (PySem.W.fnOf "check_row" "check_row" (defArgs s_check_row) (defBody s_check_row) (defScope s_check_row) .none kV_check_row dc_check_row pm_check_row an_check_row cd_check_row ct_check_row), sl_check_row⟩)
    (c_check_row : PySem.W.codeIn K cd_check_row "check_row" = true)
    (k_check_row : PySem.W.keepIn K (.ref f_check_row) = true)
    (a_check_space : PySem.W.nsIn K mainGlobals "check_space" = some (some (.ref f_check_space)))
    (l_check_space : K.lookup f_check_space = some ⟨oc_check_space, od_check_space, .func (PySem.W.fnOf "check_space" "check_space" (defArgs s_check_space) (defBody s_check_space) (defScope s_check_space) .none kV_check_space dc_check_space pm_check_space an_check_space cd_check_space ct_check_space), sl_check_space⟩)
    (c_check_space : PySem.W.codeIn K cd_check_space "check_space" = true)
    (k_check_space : PySem.W.keepIn K (.ref f_check_space) = true)
    (a_does_hold : PySem.W.nsIn K mainGlobals "does_hold" = some (some (.ref f_does_hold)))
    (l_does_hold : K.lookup f_does_hold = some ⟨oc_does_hold, od_does_hold, .func (PySem.W.fnOf "does_hold" "does_hold" (defArgs s_does_hold) (defBody s_does_hold) (defScope s_does_hold) .none kV_does_hold dc_does_hold pm_does_hold an_does_hold cd_does_hold ct_does_hold), sl_does_hold⟩)
    (c_does_hold : PySem.W.codeIn K cd_does_hold "does_hold" = true)
    (k_does_hold : PySem.W.keepIn K (.ref f_does_hold) = true)
    (a_check_spaces : PySem.W.nsIn K mainGlobals "check_spaces" = some (some (.ref f_check_spaces)))
    (l_check_spaces : K.lookup f_check_spaces = some ⟨oc_check_spaces, od_check_spaces, .func (PySem.W.fnOf "check_spaces" "check_spaces" (defArgs s_check_spaces) (defBody s_check_spaces) (defScope s_check_spaces) .none kV_check_spaces dc_check_spaces pm_check_spaces an_check_spaces cd_check_spaces ct_check_spaces), sl_check_spaces⟩)
    (c_check_spaces : PySem.W.codeIn K cd_check_spaces "check_spaces" = true)
    (k_check_spaces : PySem.W.keepIn K (.ref f_check_spaces) = true)
    (a_space_sum : PySem.W.nsIn K mainGlobals "space_sum" = some (some (.ref f_space_sum)))
    (l_space_sum : K.lookup f_space_sum = some ⟨oc_space_sum, od_space_sum, .func (PySem.W.fnOf "space_sum" "space_sum" (defArgs s_space_sum) (defBody s_space_sum) (defScope s_space_sum) .none kV_space_sum dc_space_sum pm_space_sum an_space_sum cd_space_sum ct_space_sum), sl_space_sum⟩)
    (c_space_sum : PySem.W.codeIn K cd_space_sum "space_sum" = true)
    (k_space_sum : PySem.W.keepIn K (.ref f_space_sum) = true)
    (a_space_meet : PySem.W.nsIn K mainGlobals "space_meet" = some (some (.ref f_space_meet)))
    (l_space_meet : K.lookup f_space_meet = some ⟨oc_space_meet, od_space_meet, .func (PySem.W.fnOf "space_meet" "space_meet" (defArgs s_space_meet) (defBody s_space_meet) (defScope s_space_meet) .none kV_space_meet dc_space_meet pm_space_meet an_space_meet cd_space_meet ct_space_meet), sl_space_meet⟩)
    (c_space_meet : PySem.W.codeIn K cd_space_meet "space_meet" = true)
    (k_space_meet : PySem.W.keepIn K (.ref f_space_meet) = true)
    (a_law_kettle : PySem.W.nsIn K mainGlobals "_law_kettle" = some (some (.ref f_law_kettle)))
    (l_law_kettle : K.lookup f_law_kettle = some ⟨oc_law_kettle, od_law_kettle, .func (PySem.W.fnOf "_law_kettle" "_law_kettle" (defArgs s_law_kettle) (defBody s_law_kettle) (defScope s_law_kettle) .none kV_law_kettle dc_law_kettle pm_law_kettle an_law_kettle cd_law_kettle ct_law_kettle), sl_law_kettle⟩)
    (c_law_kettle : PySem.W.codeIn K cd_law_kettle "_law_kettle" = true)
    (k_law_kettle : PySem.W.keepIn K (.ref f_law_kettle) = true)
    (a_law_ladle : PySem.W.nsIn K mainGlobals "_law_ladle" = some (some (.ref f_law_ladle)))
    (l_law_ladle : K.lookup f_law_ladle = some ⟨oc_law_ladle, od_law_ladle, .func (PySem.W.fnOf "_law_ladle" "_law_ladle" (defArgs s_law_ladle) (defBody s_law_ladle) (defScope s_law_ladle) .none kV_law_ladle dc_law_ladle pm_law_ladle an_law_ladle cd_law_ladle ct_law_ladle), sl_law_ladle⟩)
    (c_law_ladle : PySem.W.codeIn K cd_law_ladle "_law_ladle" = true)
    (k_law_ladle : PySem.W.keepIn K (.ref f_law_ladle) = true)
    (a_law_pick : PySem.W.nsIn K mainGlobals "_law_pick" = some (some (.ref f_law_pick)))
    (l_law_pick : K.lookup f_law_pick = some ⟨oc_law_pick, od_law_pick, .func (PySem.W.fnOf "_law_pick" "_law_pick" (defArgs s_law_pick) (defBody s_law_pick) (defScope s_law_pick) .none kV_law_pick dc_law_pick pm_law_pick an_law_pick cd_law_pick ct_law_pick), sl_law_pick⟩)
    (c_law_pick : PySem.W.codeIn K cd_law_pick "_law_pick" = true)
    (k_law_pick : PySem.W.keepIn K (.ref f_law_pick) = true)
    (a_law_undone : PySem.W.nsIn K mainGlobals "_law_undone" = some (some (.ref f_law_undone)))
    (l_law_undone : K.lookup f_law_undone = some ⟨oc_law_undone, od_law_undone, .func (PySem.W.fnOf "_law_undone" "_law_undone" (defArgs s_law_undone) (defBody s_law_undone) (defScope s_law_undone) .none kV_law_undone dc_law_undone pm_law_undone an_law_undone cd_law_undone ct_law_undone), sl_law_undone⟩)
    (c_law_undone : PySem.W.codeIn K cd_law_undone "_law_undone" = true)
    (k_law_undone : PySem.W.keepIn K (.ref f_law_undone) = true)
    (a_law_plus : PySem.W.nsIn K mainGlobals "_law_plus" = some (some (.ref f_law_plus)))
    (l_law_plus : K.lookup f_law_plus = some ⟨oc_law_plus, od_law_plus, .func (PySem.W.fnOf "_law_plus" "_law_plus" (defArgs s_law_plus) (defBody s_law_plus) (defScope s_law_plus) .none kV_law_plus dc_law_plus pm_law_plus an_law_plus cd_law_plus ct_law_plus), sl_law_plus⟩)
    (c_law_plus : PySem.W.codeIn K cd_law_plus "_law_plus" = true)
    (k_law_plus : PySem.W.keepIn K (.ref f_law_plus) = true)
    (a_law_base : PySem.W.nsIn K mainGlobals "_law_base" = some (some (.ref f_law_base)))
    (l_law_base : K.lookup f_law_base = some ⟨oc_law_base, od_law_base, .func (PySem.W.fnOf "_law_base" "_law_base" (defArgs s_law_base) (defBody s_law_base) (defScope s_law_base) .none kV_law_base dc_law_base pm_law_base an_law_base cd_law_base ct_law_base), sl_law_base⟩)
    (c_law_base : PySem.W.codeIn K cd_law_base "_law_base" = true)
    (k_law_base : PySem.W.keepIn K (.ref f_law_base) = true)
    (a_law_has : PySem.W.nsIn K mainGlobals "_law_has" = some (some (.ref f_law_has)))
    (l_law_has : K.lookup f_law_has = some ⟨oc_law_has, od_law_has, .func (PySem.W.fnOf "_law_has" "_law_has" (defArgs s_law_has) (defBody s_law_has) (defScope s_law_has) .none kV_law_has dc_law_has pm_law_has an_law_has cd_law_has ct_law_has), sl_law_has⟩)
    (c_law_has : PySem.W.codeIn K cd_law_has "_law_has" = true)
    (k_law_has : PySem.W.keepIn K (.ref f_law_has) = true)
    (a_law_lines : PySem.W.nsIn K mainGlobals "_law_lines" = some (some (.ref f_law_lines)))
    (l_law_lines : K.lookup f_law_lines = some ⟨oc_law_lines, od_law_lines, .func (PySem.W.fnOf "_law_lines" "_law_lines" (defArgs s_law_lines) (defBody s_law_lines) (defScope s_law_lines) .none kV_law_lines dc_law_lines pm_law_lines an_law_lines cd_law_lines ct_law_lines), sl_law_lines⟩)
    (c_law_lines : PySem.W.codeIn K cd_law_lines "_law_lines" = true)
    (k_law_lines : PySem.W.keepIn K (.ref f_law_lines) = true)
    (a_law_null : PySem.W.nsIn K mainGlobals "_law_null" = some (some (.ref f_law_null)))
    (l_law_null : K.lookup f_law_null = some ⟨oc_law_null, od_law_null, .func (PySem.W.fnOf "_law_null" "_law_null" (defArgs s_law_null) (defBody s_law_null) (defScope s_law_null) .none kV_law_null dc_law_null pm_law_null an_law_null cd_law_null ct_law_null), sl_law_null⟩)
    (c_law_null : PySem.W.codeIn K cd_law_null "_law_null" = true)
    (k_law_null : PySem.W.keepIn K (.ref f_law_null) = true)
    (a_law_meet : PySem.W.nsIn K mainGlobals "_law_meet" = some (some (.ref f_law_meet)))
    (l_law_meet : K.lookup f_law_meet = some ⟨oc_law_meet, od_law_meet, .func (PySem.W.fnOf "_law_meet" "_law_meet" (defArgs s_law_meet) (defBody s_law_meet) (defScope s_law_meet) .none kV_law_meet dc_law_meet pm_law_meet an_law_meet cd_law_meet ct_law_meet), sl_law_meet⟩)
    (c_law_meet : PySem.W.codeIn K cd_law_meet "_law_meet" = true)
    (k_law_meet : PySem.W.keepIn K (.ref f_law_meet) = true)
    (a_law_drawn : PySem.W.nsIn K mainGlobals "_law_drawn" = some (some (.ref f_law_drawn)))
    (l_law_drawn : K.lookup f_law_drawn = some ⟨oc_law_drawn, od_law_drawn, .func (PySem.W.fnOf "_law_drawn" "_law_drawn" (defArgs s_law_drawn) (defBody s_law_drawn) (defScope s_law_drawn) .none kV_law_drawn dc_law_drawn pm_law_drawn an_law_drawn cd_law_drawn ct_law_drawn), sl_law_drawn⟩)
    (c_law_drawn : PySem.W.codeIn K cd_law_drawn "_law_drawn" = true)
    (k_law_drawn : PySem.W.keepIn K (.ref f_law_drawn) = true)
    (a_law_right : PySem.W.nsIn K mainGlobals "_law_right" = some (some (.ref f_law_right)))
    (l_law_right : K.lookup f_law_right = some ⟨oc_law_right, od_law_right, .func (PySem.W.fnOf "_law_right" "_law_right" (defArgs s_law_right) (defBody s_law_right) (defScope s_law_right) .none kV_law_right dc_law_right pm_law_right an_law_right cd_law_right ct_law_right), sl_law_right⟩)
    (c_law_right : PySem.W.codeIn K cd_law_right "_law_right" = true)
    (k_law_right : PySem.W.keepIn K (.ref f_law_right) = true)
    (a_law : PySem.W.nsIn K mainGlobals "law" = some (some (.ref f_law)))
    (l_law : K.lookup f_law = some ⟨oc_law, od_law, .func (PySem.W.fnOf "law" "law" (defArgs s_law) (defBody s_law) (defScope s_law) .none kV_law dc_law pm_law an_law cd_law ct_law), sl_law⟩)
    (c_law : PySem.W.codeIn K cd_law "law" = true)
    (k_law : PySem.W.keepIn K (.ref f_law) = true)
    (z_abs : PySem.W.nsIn K mainGlobals "abs" = some none)
    (z_all : PySem.W.nsIn K mainGlobals "all" = some none)
    (z_any : PySem.W.nsIn K mainGlobals "any" = some none)
    (z_bool : PySem.W.nsIn K mainGlobals "bool" = some none)
    (z_enumerate : PySem.W.nsIn K mainGlobals "enumerate" = some none)
    (z_int : PySem.W.nsIn K mainGlobals "int" = some none)
    (z_isinstance : PySem.W.nsIn K mainGlobals "isinstance" = some none)
    (z_len : PySem.W.nsIn K mainGlobals "len" = some none)
    (z_list : PySem.W.nsIn K mainGlobals "list" = some none)
    (z_max : PySem.W.nsIn K mainGlobals "max" = some none)
    (z_min : PySem.W.nsIn K mainGlobals "min" = some none)
    (z_range : PySem.W.nsIn K mainGlobals "range" = some none)
    (z_sorted : PySem.W.nsIn K mainGlobals "sorted" = some none)
    (z_tuple : PySem.W.nsIn K mainGlobals "tuple" = some none)
    (z_zip : PySem.W.nsIn K mainGlobals "zip" = some none)
    (g_MAX_WIDTH : PySem.W.nsIn K mainGlobals "MAX_WIDTH" = some (some (.int 150 t_MAX_WIDTH)))
    (g_PRIMES : PySem.W.nsIn K mainGlobals "PRIMES" = some (some (.ref q_PRIMES)))
    (o_PRIMES : K.lookup q_PRIMES = some ⟨.type "tuple", none, .seq #[.int 2 t_PRIMES_0, .int 3 t_PRIMES_1, .int 5 t_PRIMES_2, .int 7 t_PRIMES_3] n_PRIMES, sl_PRIMES⟩) :
    ∃ fd : FuncData, (∀ (s : Shared) (u : Value), BindsTo s fd ⟨[u], []⟩ [("_law_script", u)]) ∧ ∀ base : Heap, K.In base → base.Ns mainGlobals mg → FnOk l.prog w K mg base (L2.CX l.prog w) 9 fa fd ["_law_script"] (spD ⟨K, fun _ => none⟩ 1 m_law) := by
  have e := hfa.symm.trans (PySem.W.mg_of X G a_law)
  cases e
  have T : Txt K mg := ⟨PySem.W.mg_none_of X G z_abs, PySem.W.mg_none_of X G z_all, PySem.W.mg_none_of X G z_any, PySem.W.mg_none_of X G z_bool, PySem.W.mg_none_of X G z_enumerate, PySem.W.mg_none_of X G z_int, PySem.W.mg_none_of X G z_isinstance, PySem.W.mg_none_of X G z_len, PySem.W.mg_none_of X G z_list, PySem.W.mg_none_of X G z_max, PySem.W.mg_none_of X G z_min, PySem.W.mg_none_of X G z_range, PySem.W.mg_none_of X G z_sorted, PySem.W.mg_none_of X G z_tuple, PySem.W.mg_none_of X G z_zip, ⟨t_MAX_WIDTH, PySem.W.mg_of X G g_MAX_WIDTH⟩, ⟨q_PRIMES, PySem.W.mg_of X G g_PRIMES, ⟨⟨_, _, _, o_PRIMES, rfl, rfl, rfl, small_tup rfl (by exact (show ((4 : Nat) ≤ 16777216) from by decide)), vals_ints (.cons ⟨_, rfl⟩ (.cons ⟨_, rfl⟩ (.cons ⟨_, rfl⟩ (.cons ⟨_, rfl⟩ (.nil)))))⟩⟩⟩⟩
  refine ⟨PySem.W.fnOf "law" "law" (defArgs s_law) (defBody s_law) (defScope s_law) .none kV_law dc_law pm_law an_law cd_law ct_law, fun s v => .of_eq rfl, fun base _ _ => ?_⟩
  have F_undone_number := fun_mk (st := s_undone_number) l_undone_number c_undone_number k_undone_number
  have O_undone_number := ok_undone_number (P := l.prog) (w := w) (base := base) (ct := fun _ => none) F_undone_number T
  have D_undone_number : DefAt l.prog w K mg base (fun _ => none) "undone_number" 1 2 ["prime", "number"] m_undone_number := ⟨f_undone_number, _, PySem.W.mg_of X G a_undone_number, k_undone_number, F_undone_number.binds (ps := ["prime", "number"]) (fun _ _ _ _ _ _ us hl => match us, hl with | [_, _], _ => rfl), O_undone_number⟩
  have F_zero_row := fun_mk (st := s_zero_row) l_zero_row c_zero_row k_zero_row
  have O_zero_row := ok_zero_row (P := l.prog) (w := w) (base := base) (ct := fun _ => none) F_zero_row T
  have D_zero_row : DefAt l.prog w K mg base (fun _ => none) "zero_row" 1 1 ["width"] m_zero_row := ⟨f_zero_row, _, PySem.W.mg_of X G a_zero_row, k_zero_row, F_zero_row.binds (ps := ["width"]) (fun _ _ _ _ _ _ us hl => match us, hl with | [_], _ => rfl), O_zero_row⟩
  have F_unit_row := fun_mk (st := s_unit_row) l_unit_row c_unit_row k_unit_row
  have O_unit_row := ok_unit_row (P := l.prog) (w := w) (base := base) (ct := fun _ => none) F_unit_row T D_zero_row
  have D_unit_row : DefAt l.prog w K mg base (fun _ => none) "unit_row" 2 2 ["width", "place"] m_unit_row := ⟨f_unit_row, _, PySem.W.mg_of X G a_unit_row, k_unit_row, F_unit_row.binds (ps := ["width", "place"]) (fun _ _ _ _ _ _ us hl => match us, hl with | [_, _], _ => rfl), O_unit_row⟩
  have F_unit_rows := fun_mk (st := s_unit_rows) l_unit_rows c_unit_rows k_unit_rows
  have O_unit_rows := ok_unit_rows (P := l.prog) (w := w) (base := base) (ct := fun _ => none) F_unit_rows T D_unit_row
  have D_unit_rows : DefAt l.prog w K mg base (fun _ => none) "unit_rows" 3 1 ["width"] m_unit_rows := ⟨f_unit_rows, _, PySem.W.mg_of X G a_unit_rows, k_unit_rows, F_unit_rows.binds (ps := ["width"]) (fun _ _ _ _ _ _ us hl => match us, hl with | [_], _ => rfl), O_unit_rows⟩
  have F_row_times := fun_mk (st := s_row_times) l_row_times c_row_times k_row_times
  have O_row_times := ok_row_times (P := l.prog) (w := w) (base := base) (ct := fun _ => none) F_row_times T
  have D_row_times : DefAt l.prog w K mg base (fun _ => none) "row_times" 1 3 ["prime", "number", "row"] m_row_times := ⟨f_row_times, _, PySem.W.mg_of X G a_row_times, k_row_times, F_row_times.binds (ps := ["prime", "number", "row"]) (fun _ _ _ _ _ _ us hl => match us, hl with | [_, _, _], _ => rfl), O_row_times⟩
  have F_row_less_times := fun_mk (st := s_row_less_times) l_row_less_times c_row_less_times k_row_less_times
  have O_row_less_times := ok_row_less_times (P := l.prog) (w := w) (base := base) (ct := fun _ => none) F_row_less_times T
  have D_row_less_times : DefAt l.prog w K mg base (fun _ => none) "row_less_times" 1 4 ["prime", "row", "number", "other"] m_row_less_times := ⟨f_row_less_times, _, PySem.W.mg_of X G a_row_less_times, k_row_less_times, F_row_less_times.binds (ps := ["prime", "row", "number", "other"]) (fun _ _ _ _ _ _ us hl => match us, hl with | [_, _, _, _], _ => rfl), O_row_less_times⟩
  have F_at_places := fun_mk (st := s_at_places) l_at_places c_at_places k_at_places
  have O_at_places := ok_at_places (P := l.prog) (w := w) (base := base) (ct := fun _ => none) F_at_places T
  have D_at_places : DefAt l.prog w K mg base (fun _ => none) "at_places" 1 2 ["row", "places"] m_at_places := ⟨f_at_places, _, PySem.W.mg_of X G a_at_places, k_at_places, F_at_places.binds (ps := ["row", "places"]) (fun _ _ _ _ _ _ us hl => match us, hl with | [_, _], _ => rfl), O_at_places⟩
  have F_lead_from := fun_mk (st := s_lead_from) l_lead_from c_lead_from k_lead_from
  have O_lead_from := ok_lead_from (P := l.prog) (w := w) (base := base) (ct := fun _ => none) F_lead_from T
  have D_lead_from : DefAt l.prog w K mg base (fun _ => none) "lead_from" 1 2 ["row", "start"] m_lead_from := ⟨f_lead_from, _, PySem.W.mg_of X G a_lead_from, k_lead_from, F_lead_from.binds (ps := ["row", "start"]) (fun _ _ _ _ _ _ us hl => match us, hl with | [_, _], _ => rfl), O_lead_from⟩
  have F_row_beyond := fun_mk (st := s_row_beyond) l_row_beyond c_row_beyond k_row_beyond
  have O_row_beyond := ok_row_beyond (P := l.prog) (w := w) (base := base) (ct := fun _ => none) F_row_beyond T D_lead_from D_row_less_times
  have D_row_beyond : DefAt l.prog w K mg base (fun _ => none) "row_beyond" 2 3 ["prime", "steps", "row"] m_row_beyond := ⟨f_row_beyond, _, PySem.W.mg_of X G a_row_beyond, k_row_beyond, F_row_beyond.binds (ps := ["prime", "steps", "row"]) (fun _ _ _ _ _ _ us hl => match us, hl with | [_, _, _], _ => rfl), O_row_beyond⟩
  have F_steps_of := fun_mk (st := s_steps_of) l_steps_of c_steps_of k_steps_of
  have O_steps_of := ok_steps_of (P := l.prog) (w := w) (base := base) (ct := fun _ => none) F_steps_of T D_lead_from
  have D_steps_of : DefAt l.prog w K mg base (fun _ => none) "steps_of" 2 1 ["base"] m_steps_of := ⟨f_steps_of, _, PySem.W.mg_of X G a_steps_of, k_steps_of, F_steps_of.binds (ps := ["base"]) (fun _ _ _ _ _ _ us hl => match us, hl with | [_], _ => rfl), O_steps_of⟩
  have F_stepped := fun_mk (st := s_stepped) l_stepped c_stepped k_stepped
  have O_stepped := ok_stepped (P := l.prog) (w := w) (base := base) (ct := fun _ => none) F_stepped T D_lead_from D_row_beyond D_row_times D_undone_number
  have D_stepped : DefAt l.prog w K mg base (fun _ => none) "stepped" 3 2 ["prime", "rows"] m_stepped := ⟨f_stepped, _, PySem.W.mg_of X G a_stepped, k_stepped, F_stepped.binds (ps := ["prime", "rows"]) (fun _ _ _ _ _ _ us hl => match us, hl with | [_, _], _ => rfl), O_stepped⟩
  have F_reduced := fun_mk (st := s_reduced) l_reduced c_reduced k_reduced
  have O_reduced := ok_reduced (P := l.prog) (w := w) (base := base) (ct := fun _ => none) F_reduced T D_row_beyond D_stepped
  have D_reduced : DefAt l.prog w K mg base (fun _ => none) "reduced" 4 2 ["prime", "rows"] m_reduced := ⟨f_reduced, _, PySem.W.mg_of X G a_reduced, k_reduced, F_reduced.binds (ps := ["prime", "rows"]) (fun _ _ _ _ _ _ us hl => match us, hl with | [_, _], _ => rfl), O_reduced⟩
  have F_is_within := fun_mk (st := s_is_within) l_is_within c_is_within k_is_within
  have O_is_within := ok_is_within (P := l.prog) (w := w) (base := base) (ct := fun _ => none) F_is_within T D_row_beyond D_steps_of D_zero_row
  have D_is_within : DefAt l.prog w K mg base (fun _ => none) "is_within" 3 3 ["prime", "base", "rows"] m_is_within := ⟨f_is_within, _, PySem.W.mg_of X G a_is_within, k_is_within, F_is_within.binds (ps := ["prime", "base", "rows"]) (fun _ _ _ _ _ _ us hl => match us, hl with | [_, _, _], _ => rfl), O_is_within⟩
  have F_tails := fun_mk (st := s_tails) l_tails c_tails k_tails
  have O_tails := ok_tails (P := l.prog) (w := w) (base := base) (ct := fun _ => none) F_tails T D_reduced
  have D_tails : DefAt l.prog w K mg base (fun _ => none) "tails" 5 3 ["prime", "width", "steps"] m_tails := ⟨f_tails, _, PySem.W.mg_of X G a_tails, k_tails, F_tails.binds (ps := ["prime", "width", "steps"]) (fun _ _ _ _ _ _ us hl => match us, hl with | [_, _, _], _ => rfl), O_tails⟩
  have F_meet_rows := fun_mk (st := s_meet_rows) l_meet_rows c_meet_rows k_meet_rows
  have O_meet_rows := ok_meet_rows (P := l.prog) (w := w) (base := base) (ct := fun _ => none) F_meet_rows T D_stepped D_tails D_zero_row
  have D_meet_rows : DefAt l.prog w K mg base (fun _ => none) "meet_rows" 6 4 ["prime", "width", "one", "other"] m_meet_rows := ⟨f_meet_rows, _, PySem.W.mg_of X G a_meet_rows, k_meet_rows, F_meet_rows.binds (ps := ["prime", "width", "one", "other"]) (fun _ _ _ _ _ _ us hl => match us, hl with | [_, _, _, _], _ => rfl), O_meet_rows⟩
  have F_is_integer := fun_mk (st := s_is_integer) l_is_integer c_is_integer k_is_integer
  have O_is_integer := ok_is_integer (P := l.prog) (w := w) (base := base) (ct := fun _ => none) F_is_integer T
  have D_is_integer : DefAt l.prog w K mg base (fun _ => none) "is_integer" 1 1 ["value"] m_is_integer := ⟨f_is_integer, _, PySem.W.mg_of X G a_is_integer, k_is_integer, F_is_integer.binds (ps := ["value"]) (fun _ _ _ _ _ _ us hl => match us, hl with | [_], _ => rfl), O_is_integer⟩
  have F_is_from_to := fun_mk (st := s_is_from_to) l_is_from_to c_is_from_to k_is_from_to
  have O_is_from_to := ok_is_from_to (P := l.prog) (w := w) (base := base) (ct := fun _ => none) F_is_from_to T D_is_integer
  have D_is_from_to : DefAt l.prog w K mg base (fun _ => none) "is_from_to" 2 3 ["value", "least", "most"] m_is_from_to := ⟨f_is_from_to, _, PySem.W.mg_of X G a_is_from_to, k_is_from_to, F_is_from_to.binds (ps := ["value", "least", "most"]) (fun _ _ _ _ _ _ us hl => match us, hl with | [_, _, _], _ => rfl), O_is_from_to⟩
  have F_is_row := fun_mk (st := s_is_row) l_is_row c_is_row k_is_row
  have O_is_row := ok_is_row (P := l.prog) (w := w) (base := base) (ct := fun _ => none) F_is_row T D_is_integer
  have D_is_row : DefAt l.prog w K mg base (fun _ => none) "is_row" 2 3 ["prime", "width", "value"] m_is_row := ⟨f_is_row, _, PySem.W.mg_of X G a_is_row, k_is_row, F_is_row.binds (ps := ["prime", "width", "value"]) (fun _ _ _ _ _ _ us hl => match us, hl with | [_, _, _], _ => rfl), O_is_row⟩
  have F_are_rows := fun_mk (st := s_are_rows) l_are_rows c_are_rows k_are_rows
  have O_are_rows := ok_are_rows (P := l.prog) (w := w) (base := base) (ct := fun _ => none) F_are_rows T D_is_row
  have D_are_rows : DefAt l.prog w K mg base (fun _ => none) "are_rows" 3 4 ["prime", "width", "value", "most"] m_are_rows := ⟨f_are_rows, _, PySem.W.mg_of X G a_are_rows, k_are_rows, F_are_rows.binds (ps := ["prime", "width", "value", "most"]) (fun _ _ _ _ _ _ us hl => match us, hl with | [_, _, _, _], _ => rfl), O_are_rows⟩
  have F_is_base := fun_mk (st := s_is_base) l_is_base c_is_base k_is_base
  have O_is_base := ok_is_base (P := l.prog) (w := w) (base := base) (ct := fun _ => none) F_is_base T D_are_rows D_at_places D_lead_from D_unit_rows
  have D_is_base : DefAt l.prog w K mg base (fun _ => none) "is_base" 4 3 ["prime", "width", "value"] m_is_base := ⟨f_is_base, _, PySem.W.mg_of X G a_is_base, k_is_base, F_is_base.binds (ps := ["prime", "width", "value"]) (fun _ _ _ _ _ _ us hl => match us, hl with | [_, _, _], _ => rfl), O_is_base⟩
  have F_check_prime := fun_mk (st := s_check_prime) l_check_prime c_check_prime k_check_prime
  have O_check_prime := ok_check_prime (P := l.prog) (w := w) (base := base) (ct := fun _ => none) F_check_prime T D_is_integer
  have D_check_prime : DefAt l.prog w K mg base (fun _ => none) "check_prime" 2 1 ["prime"] m_check_prime := ⟨f_check_prime, _, PySem.W.mg_of X G a_check_prime, k_check_prime, F_check_prime.binds (ps := ["prime"]) (fun _ _ _ _ _ _ us hl => match us, hl with | [_], _ => rfl), O_check_prime⟩
  have F_check_from_to := fun_mk (st := s_check_from_to) l_check_from_to c_check_from_to k_check_from_to
  have O_check_from_to := ok_check_from_to (P := l.prog) (w := w) (base := base) (ct := fun _ => none) F_check_from_to T D_is_from_to
  have D_check_from_to : DefAt l.prog w K mg base (fun _ => none) "check_from_to" 3 3 ["number", "least", "most"] m_check_from_to := ⟨f_check_from_to, _, PySem.W.mg_of X G a_check_from_to, k_check_from_to, F_check_from_to.binds (ps := ["number", "least", "most"]) (fun _ _ _ _ _ _ us hl => match us, hl with | [_, _, _], _ => rfl), O_check_from_to⟩
  have F_check_width := fun_mk (st := s_check_width) l_check_width c_check_width k_check_width
  have O_check_width := ok_check_width (P := l.prog) (w := w) (base := base) (ct := fun _ => none) F_check_width T D_check_from_to
  have D_check_width : DefAt l.prog w K mg base (fun _ => none) "check_width" 4 1 ["width"] m_check_width := ⟨f_check_width, _, PySem.W.mg_of X G a_check_width, k_check_width, F_check_width.binds (ps := ["width"]) (fun _ _ _ _ _ _ us hl => match us, hl with | [_], _ => rfl), O_check_width⟩
  have F_check_row := fun_mk (st := s_check_row) l_check_row c_check_row k_check_row
  have O_check_row := ok_check_row (P := l.prog) (w := w) (base := base) (ct := fun _ => none) F_check_row T D_is_row
  have D_check_row : DefAt l.prog w K mg base (fun _ => none) "check_row" 3 3 ["prime", "width", "row"] m_check_row := ⟨f_check_row, _, PySem.W.mg_of X G a_check_row, k_check_row, F_check_row.binds (ps := ["prime", "width", "row"]) (fun _ _ _ _ _ _ us hl => match us, hl with | [_, _, _], _ => rfl), O_check_row⟩
  have F_check_space := fun_mk (st := s_check_space) l_check_space c_check_space k_check_space
  have O_check_space := ok_check_space (P := l.prog) (w := w) (base := base) (ct := fun _ => none) F_check_space T D_is_base
  have D_check_space : DefAt l.prog w K mg base (fun _ => none) "check_space" 5 3 ["prime", "width", "space"] m_check_space := ⟨f_check_space, _, PySem.W.mg_of X G a_check_space, k_check_space, F_check_space.binds (ps := ["prime", "width", "space"]) (fun _ _ _ _ _ _ us hl => match us, hl with | [_, _, _], _ => rfl), O_check_space⟩
  have F_does_hold := fun_mk (st := s_does_hold) l_does_hold c_does_hold k_does_hold
  have O_does_hold := ok_does_hold (P := l.prog) (w := w) (base := base) (ct := fun _ => none) F_does_hold T D_check_prime D_check_row D_check_space D_check_width D_is_within
  have D_does_hold : DefAt l.prog w K mg base (fun _ => none) "does_hold" 6 4 ["prime", "width", "space", "row"] m_does_hold := ⟨f_does_hold, _, PySem.W.mg_of X G a_does_hold, k_does_hold, F_does_hold.binds (ps := ["prime", "width", "space", "row"]) (fun _ _ _ _ _ _ us hl => match us, hl with | [_, _, _, _], _ => rfl), O_does_hold⟩
  have F_check_spaces := fun_mk (st := s_check_spaces) l_check_spaces c_check_spaces k_check_spaces
  have O_check_spaces := ok_check_spaces (P := l.prog) (w := w) (base := base) (ct := fun _ => none) F_check_spaces T D_check_prime D_check_space D_check_width
  have D_check_spaces : DefAt l.prog w K mg base (fun _ => none) "check_spaces" 6 4 ["prime", "width", "one", "other"] m_check_spaces := ⟨f_check_spaces, _, PySem.W.mg_of X G a_check_spaces, k_check_spaces, F_check_spaces.binds (ps := ["prime", "width", "one", "other"]) (fun _ _ _ _ _ _ us hl => match us, hl with | [_, _, _, _], _ => rfl), O_check_spaces⟩
  have F_space_sum := fun_mk (st := s_space_sum) l_space_sum c_space_sum k_space_sum
  have O_space_sum := ok_space_sum (P := l.prog) (w := w) (base := base) (ct := fun _ => none) F_space_sum T D_check_spaces D_reduced
  have D_space_sum : DefAt l.prog w K mg base (fun _ => none) "space_sum" 7 4 ["prime", "width", "one", "other"] m_space_sum := ⟨f_space_sum, _, PySem.W.mg_of X G a_space_sum, k_space_sum, F_space_sum.binds (ps := ["prime", "width", "one", "other"]) (fun _ _ _ _ _ _ us hl => match us, hl with | [_, _, _, _], _ => rfl), O_space_sum⟩
  have F_space_meet := fun_mk (st := s_space_meet) l_space_meet c_space_meet k_space_meet
  have O_space_meet := ok_space_meet (P := l.prog) (w := w) (base := base) (ct := fun _ => none) F_space_meet T D_check_spaces D_meet_rows
  have D_space_meet : DefAt l.prog w K mg base (fun _ => none) "space_meet" 7 4 ["prime", "width", "one", "other"] m_space_meet := ⟨f_space_meet, _, PySem.W.mg_of X G a_space_meet, k_space_meet, F_space_meet.binds (ps := ["prime", "width", "one", "other"]) (fun _ _ _ _ _ _ us hl => match us, hl with | [_, _, _, _], _ => rfl), O_space_meet⟩
  have F_law_kettle := fun_mk (st := s_law_kettle) l_law_kettle c_law_kettle k_law_kettle
  have O_law_kettle := ok_law_kettle (P := l.prog) (w := w) (base := base) (ct := fun _ => none) F_law_kettle T
  have D_law_kettle : DefAtF l.prog w K mg base (fun _ => none) "_law_kettle" 1 2 ["_law_script", "_law_at"] m_law_kettle := ⟨f_law_kettle, _, PySem.W.mg_of X G a_law_kettle, k_law_kettle, F_law_kettle.binds (ps := ["_law_script", "_law_at"]) (fun _ _ _ _ _ _ us hl => match us, hl with | [_, _], _ => rfl), O_law_kettle⟩
  have F_law_ladle := fun_mk (st := s_law_ladle) l_law_ladle c_law_ladle k_law_ladle
  have O_law_ladle := ok_law_ladle (P := l.prog) (w := w) (base := base) (ct := fun _ => none) F_law_ladle T
  have D_law_ladle : DefAt l.prog w K mg base (fun _ => none) "_law_ladle" 1 2 ["_law_kettle_here", "_law_total"] m_law_ladle := ⟨f_law_ladle, _, PySem.W.mg_of X G a_law_ladle, k_law_ladle, F_law_ladle.binds (ps := ["_law_kettle_here", "_law_total"]) (fun _ _ _ _ _ _ us hl => match us, hl with | [_, _], _ => rfl), O_law_ladle⟩
  have F_law_pick := fun_mk (st := s_law_pick) l_law_pick c_law_pick k_law_pick
  have O_law_pick := ok_law_pick (P := l.prog) (w := w) (base := base) (ct := fun _ => none) F_law_pick T D_law_ladle
  have D_law_pick : DefAt l.prog w K mg base (fun _ => none) "_law_pick" 2 2 ["_law_kettle_here", "_law_items"] m_law_pick := ⟨f_law_pick, _, PySem.W.mg_of X G a_law_pick, k_law_pick, F_law_pick.binds (ps := ["_law_kettle_here", "_law_items"]) (fun _ _ _ _ _ _ us hl => match us, hl with | [_, _], _ => rfl), O_law_pick⟩
  have F_law_undone := fun_mk (st := s_law_undone) l_law_undone c_law_undone k_law_undone
  have O_law_undone := ok_law_undone (P := l.prog) (w := w) (base := base) (ct := fun _ => none) F_law_undone T
  have D_law_undone : DefAt l.prog w K mg base (fun _ => none) "_law_undone" 1 2 ["_law_prime", "_law_residue"] m_law_undone := ⟨f_law_undone, _, PySem.W.mg_of X G a_law_undone, k_law_undone, F_law_undone.binds (ps := ["_law_prime", "_law_residue"]) (fun _ _ _ _ _ _ us hl => match us, hl with | [_, _], _ => rfl), O_law_undone⟩
  have F_law_plus := fun_mk (st := s_law_plus) l_law_plus c_law_plus k_law_plus
  have O_law_plus := ok_law_plus (P := l.prog) (w := w) (base := base) (ct := fun _ => none) F_law_plus T
  have D_law_plus : DefAt l.prog w K mg base (fun _ => none) "_law_plus" 1 4 ["_law_prime", "_law_row", "_law_other", "_law_factor"] m_law_plus := ⟨f_law_plus, _, PySem.W.mg_of X G a_law_plus, k_law_plus, F_law_plus.binds (ps := ["_law_prime", "_law_row", "_law_other", "_law_factor"]) (fun _ _ _ _ _ _ us hl => match us, hl with | [_, _, _, _], _ => rfl), O_law_plus⟩
  have F_law_base := fun_mk (st := s_law_base) l_law_base c_law_base k_law_base
  have O_law_base := ok_law_base (P := l.prog) (w := w) (base := base) (ct := fun _ => none) F_law_base T D_law_plus D_law_undone
  have D_law_base : DefAt l.prog w K mg base (fun _ => none) "_law_base" 2 3 ["_law_prime", "_law_rows", "_law_width"] m_law_base := ⟨f_law_base, _, PySem.W.mg_of X G a_law_base, k_law_base, F_law_base.binds (ps := ["_law_prime", "_law_rows", "_law_width"]) (fun _ _ _ _ _ _ us hl => match us, hl with | [_, _, _], _ => rfl), O_law_base⟩
  have F_law_has := fun_mk (st := s_law_has) l_law_has c_law_has k_law_has
  have O_law_has := ok_law_has (P := l.prog) (w := w) (base := base) (ct := fun _ => none) F_law_has T D_law_plus
  have D_law_has : DefAt l.prog w K mg base (fun _ => none) "_law_has" 2 3 ["_law_prime", "_law_space", "_law_row"] m_law_has := ⟨f_law_has, _, PySem.W.mg_of X G a_law_has, k_law_has, F_law_has.binds (ps := ["_law_prime", "_law_space", "_law_row"]) (fun _ _ _ _ _ _ us hl => match us, hl with | [_, _, _], _ => rfl), O_law_has⟩
  have F_law_lines := fun_mk (st := s_law_lines) l_law_lines c_law_lines k_law_lines
  have O_law_lines := ok_law_lines (P := l.prog) (w := w) (base := base) (ct := fun _ => none) F_law_lines T D_law_ladle
  have D_law_lines : DefAt l.prog w K mg base (fun _ => none) "_law_lines" 2 4 ["_law_kettle_here", "_law_prime", "_law_many", "_law_width"] m_law_lines := ⟨f_law_lines, _, PySem.W.mg_of X G a_law_lines, k_law_lines, F_law_lines.binds (ps := ["_law_kettle_here", "_law_prime", "_law_many", "_law_width"]) (fun _ _ _ _ _ _ us hl => match us, hl with | [_, _, _, _], _ => rfl), O_law_lines⟩
  have F_law_null := fun_mk (st := s_law_null) l_law_null c_law_null k_law_null
  have O_law_null := ok_law_null (P := l.prog) (w := w) (base := base) (ct := fun _ => none) F_law_null T D_law_base
  have D_law_null : DefAt l.prog w K mg base (fun _ => none) "_law_null" 3 3 ["_law_prime", "_law_table", "_law_width"] m_law_null := ⟨f_law_null, _, PySem.W.mg_of X G a_law_null, k_law_null, F_law_null.binds (ps := ["_law_prime", "_law_table", "_law_width"]) (fun _ _ _ _ _ _ us hl => match us, hl with | [_, _, _], _ => rfl), O_law_null⟩
  have F_law_meet := fun_mk (st := s_law_meet) l_law_meet c_law_meet k_law_meet
  have O_law_meet := ok_law_meet (P := l.prog) (w := w) (base := base) (ct := fun _ => none) F_law_meet T D_law_base D_law_null D_law_plus
  have D_law_meet : DefAt l.prog w K mg base (fun _ => none) "_law_meet" 4 4 ["_law_prime", "_law_one", "_law_other", "_law_width"] m_law_meet := ⟨f_law_meet, _, PySem.W.mg_of X G a_law_meet, k_law_meet, F_law_meet.binds (ps := ["_law_prime", "_law_one", "_law_other", "_law_width"]) (fun _ _ _ _ _ _ us hl => match us, hl with | [_, _, _, _], _ => rfl), O_law_meet⟩
  have F_law_drawn := fun_mk (st := s_law_drawn) l_law_drawn c_law_drawn k_law_drawn
  have O_law_drawn := ok_law_drawn (P := l.prog) (w := w) (base := base) (ct := fun _ => none) F_law_drawn T D_law_base D_law_ladle D_law_lines
  have D_law_drawn : DefAt l.prog w K mg base (fun _ => none) "_law_drawn" 3 3 ["_law_kettle_here", "_law_prime", "_law_width"] m_law_drawn := ⟨f_law_drawn, _, PySem.W.mg_of X G a_law_drawn, k_law_drawn, F_law_drawn.binds (ps := ["_law_kettle_here", "_law_prime", "_law_width"]) (fun _ _ _ _ _ _ us hl => match us, hl with | [_, _, _], _ => rfl), O_law_drawn⟩
  have F_law_right := fun_mk (st := s_law_right) l_law_right c_law_right k_law_right
  have O_law_right := ok_law_right (P := l.prog) (w := w) (base := base) (ct := fun _ => none) F_law_right T D_law_base D_law_drawn D_law_has D_law_ladle D_law_lines D_law_meet D_law_pick D_does_hold D_space_meet D_space_sum
  have D_law_right : DefAt l.prog w K mg base (fun _ => none) "_law_right" 8 1 ["_law_kettle_here"] m_law_right := ⟨f_law_right, _, PySem.W.mg_of X G a_law_right, k_law_right, F_law_right.binds (ps := ["_law_kettle_here"]) (fun _ _ _ _ _ _ us hl => match us, hl with | [_], _ => rfl), O_law_right⟩
  have F_law := fun_mk (st := s_law) l_law c_law k_law
  have O_law := ok_law (P := l.prog) (w := w) (base := base) (ct := fun _ => none) F_law T D_law_kettle D_law_right D_space_meet D_space_sum
  exact O_law
end
theorem sp_in {K : PySem.W.Frag} {H : Hp} {a : Addr} {ns : List Int} (hm : ∃ L', m_law [.frl (ns.map D.int)] [] = .ok (.bl true) L') (hS : SqL K H a (ns.map V.int)) : spD ⟨K, fun _ => none⟩ 1 m_law [.ref a] H (fun v _ => v = .bl true) fun _ _ _ => False := by
  obtain ⟨L', e⟩ := hm
  refine ⟨[.frl (ns.map D.int)], [], ⟨[], []⟩, rfl, ⟨.ref a, [], rfl, ⟨a, ns.map V.int, rfl, ?_, RepAll.of_ints ns⟩, rfl⟩, ⟨rfl, List.nodup_nil, fun n a o z => by simp at z, fun _ z => nomatch z⟩, ?_⟩
  · rcases hS with h | h
    · exact .inl ⟨h, List.not_mem_nil, List.not_mem_nil⟩
    · exact .inr h
  · rw [e]
    exact fun H' _ _ v r => r
theorem walk {l : PySem.W.OpenLaw} {q : Program} {loose : List Str} {XP : (Str → Option Value) → Heap → Prop} {YP : World → Heap → Prop} {d : DefRec} {K : Params → PySem.W.Frag} (hn : l.most = some 63) (hdf : d.params.defaults = []) (hr : Room 9 callerA)
    (hY : ∀ (w : World) (h : Heap), YP w h → (K w.params).In h)
    (F : ∀ (w : World) (mg : Str → Option Value) (fa : Addr) (h : Heap), (K w.params).In h → h.Ns mainGlobals mg → mg d.name = some (.ref fa) →
      ∃ fd : FuncData, (∀ (s : Shared) (u : Value), BindsTo s fd ⟨[u], []⟩ [("_law_script", u)]) ∧ ∀ base : Heap, (K w.params).In base → base.Ns mainGlobals mg → FnOk l.prog w (K w.params) mg base (L2.CX l.prog w) 9 fa fd ["_law_script"] (spD ⟨K w.params, fun _ => none⟩ 1 m_law))
    (hlaw : ∀ ns : List Int, ns.length ≤ 63 → ∃ L', m_law [.frl (ns.map D.int)] [] = .ok (.bl true) L') :
    PySem.W.WalkO q loose XP YP l.row.toRowW d [] (fun f vs => PySem.call f vs) :=
  L2.walk_of (n := 63) (k := 9) (x := "_law_script") (CX := fun w => L2.CX l.prog w) (sp := fun w => spD ⟨K w.params, fun _ => none⟩ 1 m_law) hn (by decide) hdf hr hY F (fun w H a ns hl _ hS => sp_in (hlaw ns hl) hS)
    fun w H s e s' z => by
      obtain ⟨_, _, _, _, _, _, _, _, _, _, _, _, z⟩ := z
      exact z
end Law
open PySem PySem.W PyProof.Rows in
set_option maxRecDepth 100000 in
set_option maxHeartbeats 0 in
theorem PySem.Challenge.cw_tablerings_k01_whole_sums_and_meets_of_s_holds : PySem.Challenge.rw_tablerings_k01_whole_sums_and_meets_of_s.Holds := by
  w_on; o_law; k_head; (case hw => w_witness2)
  k_fill
  refine Law.walk (l := PySem.Challenge.rw_tablerings_k01_whole_sums_and_meets_of_s) rfl rfl ⟨rfl, by decide, by decide⟩ (fun w h Y => PySem.W.kIn_of Y) ?F Law.law_true
  case F =>
    intro w mg fa h KX G hmg
    refine' Law.all_mk KX G hmg ?a_undone_number ?l_undone_number ?c_undone_number ?k_undone_number ?a_zero_row ?l_zero_row ?c_zero_row ?k_zero_row ?a_unit_row ?l_unit_row ?c_unit_row ?k_unit_row ?a_unit_rows ?l_unit_rows ?c_unit_rows ?k_unit_rows ?a_row_times ?l_row_times ?c_row_times ?k_row_times ?a_row_less_times ?l_row_less_times ?c_row_less_times ?k_row_less_times ?a_at_places ?l_at_places ?c_at_places ?k_at_places ?a_lead_from ?l_lead_from ?c_lead_from ?k_lead_from ?a_row_beyond ?l_row_beyond ?c_row_beyond ?k_row_beyond ?a_steps_of ?l_steps_of ?c_steps_of ?k_steps_of ?a_stepped ?l_stepped ?c_stepped ?k_stepped ?a_reduced ?l_reduced ?c_reduced ?k_reduced ?a_is_within ?l_is_within ?c_is_within ?k_is_within ?a_tails ?l_tails ?c_tails ?k_tails ?a_meet_rows ?l_meet_rows ?c_meet_rows ?k_meet_rows ?a_is_integer ?l_is_integer ?c_is_integer ?k_is_integer ?a_is_from_to ?l_is_from_to ?c_is_from_to ?k_is_from_to ?a_is_row ?l_is_row ?c_is_row ?k_is_row ?a_are_rows ?l_are_rows ?c_are_rows ?k_are_rows ?a_is_base ?l_is_base ?c_is_base ?k_is_base ?a_check_prime ?l_check_prime ?c_check_prime ?k_check_prime ?a_check_from_to ?l_check_from_to ?c_check_from_to ?k_check_from_to ?a_check_width ?l_check_width ?c_check_width ?k_check_width ?a_check_row ?l_check_row ?c_check_row ?k_check_row ?a_check_space ?l_check_space ?c_check_space ?k_check_space ?a_does_hold ?l_does_hold ?c_does_hold ?k_does_hold ?a_check_spaces ?l_check_spaces ?c_check_spaces ?k_check_spaces ?a_space_sum ?l_space_sum ?c_space_sum ?k_space_sum ?a_space_meet ?l_space_meet ?c_space_meet ?k_space_meet ?a_law_kettle ?l_law_kettle ?c_law_kettle ?k_law_kettle ?a_law_ladle ?l_law_ladle ?c_law_ladle ?k_law_ladle ?a_law_pick ?l_law_pick ?c_law_pick ?k_law_pick ?a_law_undone ?l_law_undone ?c_law_undone ?k_law_undone ?a_law_plus ?l_law_plus ?c_law_plus ?k_law_plus ?a_law_base ?l_law_base ?c_law_base ?k_law_base ?a_law_has ?l_law_has ?c_law_has ?k_law_has ?a_law_lines ?l_law_lines ?c_law_lines ?k_law_lines ?a_law_null ?l_law_null ?c_law_null ?k_law_null ?a_law_meet ?l_law_meet ?c_law_meet ?k_law_meet ?a_law_drawn ?l_law_drawn ?c_law_drawn ?k_law_drawn ?a_law_right ?l_law_right ?c_law_right ?k_law_right ?a_law ?l_law ?c_law ?k_law ?z_abs ?z_all ?z_any ?z_bool ?z_enumerate ?z_int ?z_isinstance ?z_len ?z_list ?z_max ?z_min ?z_range ?z_sorted ?z_tuple ?z_zip ?g_MAX_WIDTH ?g_PRIMES ?o_PRIMES
    (case a_undone_number => k_is)
    (case l_undone_number => k_is)
    (case c_undone_number => k_is)
    (case k_undone_number => k_is)
    (case a_zero_row => k_is)
    (case l_zero_row => k_is)
    (case c_zero_row => k_is)
    (case k_zero_row => k_is)
    (case a_unit_row => k_is)
    (case l_unit_row => k_is)
    (case c_unit_row => k_is)
    (case k_unit_row => k_is)
    (case a_unit_rows => k_is)
    (case l_unit_rows => k_is)
    (case c_unit_rows => k_is)
    (case k_unit_rows => k_is)
    (case a_row_times => k_is)
    (case l_row_times => k_is)
    (case c_row_times => k_is)
    (case k_row_times => k_is)
    (case a_row_less_times => k_is)
    (case l_row_less_times => k_is)
    (case c_row_less_times => k_is)
    (case k_row_less_times => k_is)
    (case a_at_places => k_is)
    (case l_at_places => k_is)
    (case c_at_places => k_is)
    (case k_at_places => k_is)
    (case a_lead_from => k_is)
    (case l_lead_from => k_is)
    (case c_lead_from => k_is)
    (case k_lead_from => k_is)
    (case a_row_beyond => k_is)
    (case l_row_beyond => k_is)
    (case c_row_beyond => k_is)
    (case k_row_beyond => k_is)
    (case a_steps_of => k_is)
    (case l_steps_of => k_is)
    (case c_steps_of => k_is)
    (case k_steps_of => k_is)
    (case a_stepped => k_is)
    (case l_stepped => k_is)
    (case c_stepped => k_is)
    (case k_stepped => k_is)
    (case a_reduced => k_is)
    (case l_reduced => k_is)
    (case c_reduced => k_is)
    (case k_reduced => k_is)
    (case a_is_within => k_is)
    (case l_is_within => k_is)
    (case c_is_within => k_is)
    (case k_is_within => k_is)
    (case a_tails => k_is)
    (case l_tails => k_is)
    (case c_tails => k_is)
    (case k_tails => k_is)
    (case a_meet_rows => k_is)
    (case l_meet_rows => k_is)
    (case c_meet_rows => k_is)
    (case k_meet_rows => k_is)
    (case a_is_integer => k_is)
    (case l_is_integer => k_is)
    (case c_is_integer => k_is)
    (case k_is_integer => k_is)
    (case a_is_from_to => k_is)
    (case l_is_from_to => k_is)
    (case c_is_from_to => k_is)
    (case k_is_from_to => k_is)
    (case a_is_row => k_is)
    (case l_is_row => k_is)
    (case c_is_row => k_is)
    (case k_is_row => k_is)
    (case a_are_rows => k_is)
    (case l_are_rows => k_is)
    (case c_are_rows => k_is)
    (case k_are_rows => k_is)
    (case a_is_base => k_is)
    (case l_is_base => k_is)
    (case c_is_base => k_is)
    (case k_is_base => k_is)
    (case a_check_prime => k_is)
    (case l_check_prime => k_is)
    (case c_check_prime => k_is)
    (case k_check_prime => k_is)
    (case a_check_from_to => k_is)
    (case l_check_from_to => k_is)
    (case c_check_from_to => k_is)
    (case k_check_from_to => k_is)
    (case a_check_width => k_is)
    (case l_check_width => k_is)
    (case c_check_width => k_is)
    (case k_check_width => k_is)
    (case a_check_row => k_is)
    (case l_check_row => k_is)
    (case c_check_row => k_is)
    (case k_check_row => k_is)
    (case a_check_space => k_is)
    (case l_check_space => k_is)
    (case c_check_space => k_is)
    (case k_check_space => k_is)
    (case a_does_hold => k_is)
    (case l_does_hold => k_is)
    (case c_does_hold => k_is)
    (case k_does_hold => k_is)
    (case a_check_spaces => k_is)
    (case l_check_spaces => k_is)
    (case c_check_spaces => k_is)
    (case k_check_spaces => k_is)
    (case a_space_sum => k_is)
    (case l_space_sum => k_is)
    (case c_space_sum => k_is)
    (case k_space_sum => k_is)
    (case a_space_meet => k_is)
    (case l_space_meet => k_is)
    (case c_space_meet => k_is)
    (case k_space_meet => k_is)
    (case a_law_kettle => k_is)
    (case l_law_kettle => k_is)
    (case c_law_kettle => k_is)
    (case k_law_kettle => k_is)
    (case a_law_ladle => k_is)
    (case l_law_ladle => k_is)
    (case c_law_ladle => k_is)
    (case k_law_ladle => k_is)
    (case a_law_pick => k_is)
    (case l_law_pick => k_is)
    (case c_law_pick => k_is)
    (case k_law_pick => k_is)
    (case a_law_undone => k_is)
    (case l_law_undone => k_is)
    (case c_law_undone => k_is)
    (case k_law_undone => k_is)
    (case a_law_plus => k_is)
    (case l_law_plus => k_is)
    (case c_law_plus => k_is)
    (case k_law_plus => k_is)
    (case a_law_base => k_is)
    (case l_law_base => k_is)
    (case c_law_base => k_is)
    (case k_law_base => k_is)
    (case a_law_has => k_is)
    (case l_law_has => k_is)
    (case c_law_has => k_is)
    (case k_law_has => k_is)
    (case a_law_lines => k_is)
    (case l_law_lines => k_is)
    (case c_law_lines => k_is)
    (case k_law_lines => k_is)
    (case a_law_null => k_is)
    (case l_law_null => k_is)
    (case c_law_null => k_is)
    (case k_law_null => k_is)
    (case a_law_meet => k_is)
    (case l_law_meet => k_is)
    (case c_law_meet => k_is)
    (case k_law_meet => k_is)
    (case a_law_drawn => k_is)
    (case l_law_drawn => k_is)
    (case c_law_drawn => k_is)
    (case k_law_drawn => k_is)
    (case a_law_right => k_is)
    (case l_law_right => k_is)
    (case c_law_right => k_is)
    (case k_law_right => k_is)
    (case a_law => k_is)
    (case l_law => k_is)
    (case c_law => k_is)
    (case k_law => k_is)
    (case z_abs => k_is)
    (case z_all => k_is)
    (case z_any => k_is)
    (case z_bool => k_is)
    (case z_enumerate => k_is)
    (case z_int => k_is)
    (case z_isinstance => k_is)
    (case z_len => k_is)
    (case z_list => k_is)
    (case z_max => k_is)
    (case z_min => k_is)
    (case z_range => k_is)
    (case z_sorted => k_is)
    (case z_tuple => k_is)
    (case z_zip => k_is)
    (case g_MAX_WIDTH => k_is)
    (case g_PRIMES => k_is)
    (case o_PRIMES => k_is)

