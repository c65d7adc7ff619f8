/-
  The arithmetic of a cycle of slots: when they begin, whose they are, which one is a tenant's next.
-/
import Derived.Test.YtkkodhjolgcokaaDoorPlain
namespace Go.Proofs.YtkkodhjolgcokaaDoor
set_option linter.unusedVariables false

def sumN (f : Nat → Nat) : Nat → Nat
  | 0 => 0
  | k + 1 => sumN f k + f k

theorem sumN_congr {f g : Nat → Nat} : ∀ n, (∀ i, i < n → f i = g i) → sumN f n = sumN g n
  | 0, _ => rfl
  | n + 1, h => by simp only [sumN]; rw [sumN_congr n (fun i hi => h i (by omega)), h n (by omega)]
theorem sumN_add (f : Nat → Nat) (a : Nat) : ∀ b, sumN f (a + b) = sumN f a + sumN (fun i => f (a + i)) b
  | 0 => rfl
  | b + 1 => by rw [← Nat.add_assoc]; simp only [sumN]; rw [sumN_add f a b]; omega
theorem sumN_mono (f : Nat → Nat) {a b : Nat} (h : a ≤ b) : sumN f a ≤ sumN f b := by
  obtain ⟨d, rfl⟩ := Nat.exists_eq_add_of_le h
  rw [sumN_add]; omega
theorem sumN_le (f : Nat → Nat) (m : Nat) : ∀ n, (∀ i, i < n → f i ≤ m) → sumN f n ≤ n * m
  | 0, _ => by simp [sumN]
  | n + 1, h => by
    have := sumN_le f m n (fun i hi => h i (by omega))
    have := h n (by omega)
    simp only [sumN]; rw [Nat.add_mul]; omega
theorem sumN_const (m : Nat) : ∀ n, sumN (fun _ => m) n = n * m
  | 0 => by simp [sumN]
  | n + 1 => by simp only [sumN]; rw [sumN_const m n, Nat.add_mul]; omega
theorem sumN_period (f : Nat → Nat) (n : Nat) (h : ∀ i, f (i + n) = f i) : ∀ a, sumN f (a + n) = sumN f a + sumN f n
  | 0 => by simp [sumN]
  | a + 1 => by
    have e : a + 1 + n = (a + n) + 1 := by omega
    rw [e]; simp only [sumN]; rw [sumN_period f n h a, h a]; omega
theorem sumN_periods (f : Nat → Nat) (n : Nat) (h : ∀ i, f (i + n) = f i) (a : Nat) : ∀ q, sumN f (a + q * n) = sumN f a + q * sumN f n
  | 0 => by simp
  | q + 1 => by
    have e : a + (q + 1) * n = (a + q * n) + n := by rw [Nat.add_mul]; omega
    rw [e, sumN_period f n h, sumN_periods f n h a q, Nat.add_mul]; omega
/-- What comes in a window as long as the period. -/
theorem sumN_window (f : Nat → Nat) (n : Nat) (h : ∀ i, f (i + n) = f i) (a : Nat) : sumN (fun i => f (a + i)) n = sumN f n := by
  have h1 := sumN_add f a n
  have h2 := sumN_period f n h a
  omega

theorem periods_eq {f : Nat → Nat} {n : Nat} (h : ∀ i, f (i + n) = f i) (i : Nat) : ∀ q, f (i + q * n) = f i
  | 0 => by simp
  | q + 1 => by
    have e : i + (q + 1) * n = (i + q * n) + n := by rw [Nat.add_mul]; omega
    rw [e, h, periods_eq h i q]

/-- When a slot begins, cycle by cycle. -/
def begN (L : Nat → Nat) (n i : Nat) : Nat := sumN (fun j => L (j % n)) i
/-- How many slots ahead of it are a tenant's. -/
def ownN (O : Nat → Int) (n : Nat) (who : Int) (i : Nat) : Nat := sumN (fun j => if O (j % n) = who then 1 else 0) i

theorem begN_low (L : Nat → Nat) (n i : Nat) (h : i ≤ n) : begN L n i = sumN L i :=
  sumN_congr i fun j hj => by rw [Nat.mod_eq_of_lt (by omega)]
theorem ownN_low (O : Nat → Int) (n : Nat) (who : Int) (i : Nat) (h : i ≤ n) : ownN O n who i = sumN (fun j => if O j = who then 1 else 0) i :=
  sumN_congr i fun j hj => by rw [Nat.mod_eq_of_lt (by omega)]
theorem begN_succ (L : Nat → Nat) (n i : Nat) : begN L n (i + 1) = begN L n i + L (i % n) := rfl
theorem ownN_succ (O : Nat → Int) (n : Nat) (who : Int) (i : Nat) : ownN O n who (i + 1) = ownN O n who i + (if O (i % n) = who then 1 else 0) := rfl
theorem begN_on (L : Nat → Nat) (n i q : Nat) : begN L n (i + q * n) = begN L n i + q * sumN L n := by
  have := sumN_periods (fun j => L (j % n)) n (fun i => by simp) i q
  rw [show sumN L n = begN L n n from (begN_low L n n (Nat.le_refl _)).symm]
  exact this
theorem ownN_on (O : Nat → Int) (n : Nat) (who : Int) (i q : Nat) : ownN O n who (i + q * n) = ownN O n who i + q * ownN O n who n :=
  sumN_periods (fun j => if O (j % n) = who then 1 else 0) n (fun i => by simp) i q
theorem begN_lt {L : Nat → Nat} {n : Nat} (hn : 0 < n) (hL : ∀ i, i < n → 0 < L i) {i j : Nat} (h : i < j) : begN L n i < begN L n j := by
  have h1 : begN L n (i + 1) ≤ begN L n j := sumN_mono _ (by omega)
  have h2 := hL (i % n) (Nat.mod_lt _ hn)
  rw [begN_succ] at h1; omega
theorem begN_le {L : Nat → Nat} {n i j : Nat} (h : i ≤ j) : begN L n i ≤ begN L n j := sumN_mono _ h
theorem ownN_le {O : Nat → Int} {n : Nat} {who : Int} {i j : Nat} (h : i ≤ j) : ownN O n who i ≤ ownN O n who j := sumN_mono _ h
theorem begN_ge {L : Nat → Nat} {n : Nat} (hn : 0 < n) (hL : ∀ i, i < n → 0 < L i) : ∀ i, i ≤ begN L n i
  | 0 => Nat.zero_le _
  | i + 1 => by have := begN_ge hn hL i; have := begN_lt hn hL (show i < i + 1 by omega); omega

/-- The slot of a tick. -/
theorem slot_at {L : Nat → Nat} {n : Nat} (hn : 0 < n) (hL : ∀ i, i < n → 0 < L i) : ∀ x, ∃ i, begN L n i ≤ x ∧ x < begN L n (i + 1)
  | 0 => ⟨0, Nat.le_refl _, by have h := begN_lt hn hL (show 0 < 0 + 1 by omega); have h0 : begN L n 0 = 0 := rfl; omega⟩
  | x + 1 => by
    obtain ⟨i, h1, h2⟩ := slot_at hn hL x
    by_cases h : x + 1 < begN L n (i + 1)
    · exact ⟨i, by omega, h⟩
    · exact ⟨i + 1, by omega, by have := begN_lt hn hL (show i + 1 < i + 1 + 1 by omega); omega⟩
theorem slot_one {L : Nat → Nat} {n : Nat} (hn : 0 < n) (hL : ∀ i, i < n → 0 < L i) {x i j : Nat} (h1 : begN L n i ≤ x) (h2 : x < begN L n (i + 1)) (h3 : begN L n j ≤ x) (h4 : x < begN L n (j + 1)) : i = j := by
  rcases Nat.lt_trichotomy i j with h | h | h
  · have := begN_le (L := L) (n := n) (show i + 1 ≤ j by omega); omega
  · exact h
  · have := begN_le (L := L) (n := n) (show j + 1 ≤ i by omega); omega
theorem slots_at {L : Nat → Nat} {n : Nat} (hn : 0 < n) (hL : ∀ i, i < n → 0 < L i) : ∃ sl : Nat → Nat, ∀ x, begN L n (sl x) ≤ x ∧ x < begN L n (sl x + 1) :=
  ⟨fun x => Classical.choose (slot_at hn hL x), fun x => Classical.choose_spec (slot_at hn hL x)⟩

/-- The first slot that begins no earlier. -/
theorem first_atP {L : Nat → Nat} {n : Nat} (hn : 0 < n) (hL : ∀ i, i < n → 0 < L i) (t : Nat) : ∃ i, t ≤ begN L n i ∧ ∀ j, j < i → begN L n j < t := by
  cases t with
  | zero => exact ⟨0, Nat.zero_le _, fun j hj => absurd hj (by omega)⟩
  | succ x =>
    obtain ⟨i, h1, h2⟩ := slot_at hn hL x
    exact ⟨i + 1, by omega, fun j hj => by have := begN_le (L := L) (n := n) (show j ≤ i by omega); omega⟩

theorem own_before (O : Nat → Int) (n : Nat) (who : Int) (r : Nat) : ∀ N, r < ownN O n who N → ∃ i, i < N ∧ O (i % n) = who ∧ ownN O n who i = r
  | 0, h => absurd h (by simp [ownN, sumN])
  | N + 1, h => by
    by_cases h1 : r < ownN O n who N
    · obtain ⟨i, hi, h2⟩ := own_before O n who r N h1
      exact ⟨i, by omega, h2⟩
    · rw [ownN_succ] at h
      by_cases h2 : O (N % n) = who
      · rw [if_pos h2] at h
        exact ⟨N, by omega, h2, by omega⟩
      · rw [if_neg h2] at h; omega
theorem own_at {O : Nat → Int} {n : Nat} {who : Int} (he : 0 < ownN O n who n) (r : Nat) : ∃ i, O (i % n) = who ∧ ownN O n who i = r := by
  have h := ownN_on O n who 0 (r + 1)
  have h2 : (r + 1) * 1 ≤ (r + 1) * ownN O n who n := Nat.mul_le_mul_left _ he
  obtain ⟨i, _, h3⟩ := own_before O n who r (0 + (r + 1) * n) (by omega)
  exact ⟨i, h3⟩
theorem own_lt {O : Nat → Int} {n : Nat} {who : Int} {i j : Nat} (h : O (i % n) = who) (hij : i < j) : ownN O n who i < ownN O n who j := by
  have h1 : ownN O n who (i + 1) ≤ ownN O n who j := ownN_le (by omega)
  rw [ownN_succ, if_pos h] at h1; omega
theorem own_one {O : Nat → Int} {n : Nat} {who : Int} {i j : Nat} (h : O (i % n) = who) (h' : O (j % n) = who) (e : ownN O n who i = ownN O n who j) : i = j := by
  rcases Nat.lt_trichotomy i j with h1 | h1 | h1
  · have := own_lt h h1; omega
  · exact h1
  · have := own_lt h' h1; omega

/-- The slots of one tenant, counted: the r-th begins at P r and ends at E r; m t of them begin ahead of t. -/
structure Turns (P E m : Nat → Nat) (each C : Nat) : Prop where
  pos : 0 < each
  rise : ∀ r, P r < P (r + 1)
  ends : ∀ r, P r < E r ∧ E r ≤ P (r + 1)
  perP : ∀ r, P (r + each) = P r + C
  perE : ∀ r, E (r + each) = E r + C
  low : ∀ r, r < each → P r < C
  mem : ∀ t r, P r < t ↔ r < m t

structure TurnsOf (O : Nat → Int) (L : Nat → Nat) (n : Nat) (who : Int) (P E m : Nat → Nat) : Prop where
  t : Turns P E m (ownN O n who n) (sumN L n)
  is : ∀ i, O (i % n) = who → P (ownN O n who i) = begN L n i ∧ E (ownN O n who i) = begN L n (i + 1)

theorem turns_of {O : Nat → Int} {L : Nat → Nat} {n : Nat} (who : Int) (hn : 0 < n) (hL : ∀ i, i < n → 0 < L i) (he : 0 < ownN O n who n) : ∃ P E m, TurnsOf O L n who P E m := by
  let pos : Nat → Nat := fun r => Classical.choose (own_at he r)
  have hp : ∀ r, O (pos r % n) = who ∧ ownN O n who (pos r) = r := fun r => Classical.choose_spec (own_at he r)
  let idx : Nat → Nat := fun t => Classical.choose (first_atP hn hL t)
  have hi : ∀ t, t ≤ begN L n (idx t) ∧ ∀ j, j < idx t → begN L n j < t := fun t => Classical.choose_spec (first_atP hn hL t)
  have hlt : ∀ r s, r < s → pos r < pos s := fun r s h => by
    rcases Nat.lt_or_ge (pos r) (pos s) with h1 | h1
    · exact h1
    · have := ownN_le (O := O) (n := n) (who := who) h1
      rw [(hp r).2, (hp s).2] at this; omega
  have hon : ∀ r, pos (r + ownN O n who n) = pos r + n := fun r => by
    apply own_one (hp _).1 (by simpa using (hp r).1)
    have := ownN_on O n who (pos r) 1
    simp only [Nat.one_mul] at this
    rw [(hp _).2, this, (hp r).2]
  refine ⟨fun r => begN L n (pos r), fun r => begN L n (pos r + 1), fun t => ownN O n who (idx t), ⟨he, fun r => ?_, fun r => ⟨?_, ?_⟩, fun r => ?_, fun r => ?_, fun r hr => ?_, fun t r => ⟨fun h => ?_, fun h => ?_⟩⟩, fun i h => ?_⟩
  · exact begN_lt hn hL (hlt _ _ (by omega))
  · exact begN_lt hn hL (by omega)
  · exact begN_le (hlt r (r + 1) (by omega))
  · show begN L n (pos (r + ownN O n who n)) = _
    rw [hon]
    simpa using begN_on L n (pos r) 1
  · show begN L n (pos (r + ownN O n who n) + 1) = _
    rw [hon, show pos r + n + 1 = pos r + 1 + n by omega]
    simpa using begN_on L n (pos r + 1) 1
  · obtain ⟨i, h1, h2, h3⟩ := own_before O n who r n hr
    have h4 : pos r = i := own_one (hp r).1 h2 (by rw [(hp r).2, h3])
    show begN L n (pos r) < _
    rw [h4, ← begN_low L n n (Nat.le_refl _)]
    exact begN_lt hn hL h1
  · have h1 : pos r < idx t := by
      rcases Nat.lt_or_ge (pos r) (idx t) with h1 | h1
      · exact h1
      · have := begN_le (L := L) (n := n) h1
        have := (hi t).1
        have h : begN L n (pos r) < t := h
        omega
    have := own_lt (hp r).1 h1
    rw [(hp r).2] at this; exact this
  · have h1 : pos r < idx t := by
      rcases Nat.lt_or_ge (pos r) (idx t) with h1 | h1
      · exact h1
      · have := ownN_le (O := O) (n := n) (who := who) h1
        rw [(hp r).2] at this
        have h : r < ownN O n who (idx t) := h
        omega
    exact (hi t).2 _ h1
  · have : pos (ownN O n who i) = i := own_one (hp _).1 h (hp _).2
    show begN L n (pos (ownN O n who i)) = _ ∧ begN L n (pos (ownN O n who i) + 1) = _
    rw [this]; exact ⟨rfl, rfl⟩

theorem TurnsOf.at {O : Nat → Int} {L : Nat → Nat} {n : Nat} {who : Int} {P E m : Nat → Nat} (T : TurnsOf O L n who P E m) (r : Nat) : ∃ i, O (i % n) = who ∧ ownN O n who i = r ∧ P r = begN L n i ∧ E r = begN L n (i + 1) := by
  obtain ⟨i, h1, h2⟩ := own_at T.t.pos r
  have := T.is i h1
  rw [h2] at this
  exact ⟨i, h1, h2, this.1, this.2⟩

namespace Turns
variable {P E m : Nat → Nat} {each C : Nat} (T : Turns P E m each C)
include T
theorem le {r s : Nat} (h : r ≤ s) : P r ≤ P s := by
  obtain ⟨d, rfl⟩ := Nat.exists_eq_add_of_le h
  induction d with
  | zero => exact Nat.le_refl _
  | succ d ih => have := ih (by omega); have := T.rise (r + d); rw [← Nat.add_assoc]; omega
theorem lt {r s : Nat} (h : r < s) : P r < P s := by have := T.rise r; have := T.le (show r + 1 ≤ s by omega); omega
theorem elt {r s : Nat} (h : r < s) : E r < E s := by have := T.ends r; have := T.ends s; have := T.le (show r + 1 ≤ s by omega); omega
theorem m_le {r t : Nat} : m t ≤ r ↔ t ≤ P r := by have := T.mem t r; omega
theorem m_at (r : Nat) : m (P r) = r := by
  have h1 := (T.m_le (r := r) (t := P r)).2 (Nat.le_refl _)
  rcases Nat.lt_or_ge (m (P r)) r with h | h
  · have h2 := (T.m_le (r := m (P r)) (t := P r)).1 (Nat.le_refl _)
    have := T.lt h; omega
  · omega
theorem m_next (r : Nat) : m (P r + 1) = r + 1 := by
  have h1 := (T.m_le (r := r + 1) (t := P r + 1)).2 (T.rise r)
  have h2 := (T.mem (P r + 1) r).1 (by omega)
  omega
theorem m_mono {s t : Nat} (h : s ≤ t) : m s ≤ m t := by
  have := (T.m_le (r := m t) (t := t)).1 (Nat.le_refl _)
  exact T.m_le.2 (by omega)
theorem m_ge (t : Nat) : t ≤ P (m t) := T.m_le.1 (Nat.le_refl _)
theorem m_same {s t : Nat} (h1 : t ≤ s) (h2 : s ≤ P (m t)) : m s = m t := by
  have := T.m_mono h1
  have := T.m_le.2 h2
  omega
theorem perPs (r q : Nat) : P (r + q * each) = P r + q * C := by
  induction q with
  | zero => simp
  | succ q ih => rw [show r + (q + 1) * each = (r + q * each) + each by rw [Nat.add_mul]; omega, T.perP, ih, Nat.add_mul]; omega
theorem perEs (r q : Nat) : E (r + q * each) = E r + q * C := by
  induction q with
  | zero => simp
  | succ q ih => rw [show r + (q + 1) * each = (r + q * each) + each by rw [Nat.add_mul]; omega, T.perE, ih, Nat.add_mul]; omega
theorem m_one (s : Nat) : m (s + C) = m s + each := by
  have h1 : m (s + C) ≤ m s + each := T.m_le.2 (by have := T.perP (m s); have := T.m_ge s; omega)
  rcases Nat.lt_or_ge (m (s + C)) (m s + each) with h | h
  · exfalso
    have h2 := T.m_ge (s + C)
    rcases Nat.lt_or_ge (m (s + C)) each with h6 | h6
    · have := T.low _ h6; omega
    · have h4 := T.perP (m (s + C) - each)
      rw [Nat.sub_add_cancel h6] at h4
      have h8 := (T.mem s (m (s + C) - each)).2 (by omega)
      omega
  · omega
theorem m_on (t : Nat) : ∀ q, m (t + q * C) = m t + q * each
  | 0 => by simp
  | q + 1 => by
    rw [show t + (q + 1) * C = (t + q * C) + C by rw [Nat.add_mul]; omega, T.m_one, m_on t q, Nat.add_mul]; omega
theorem split (t k : Nat) : P (m t + k) = P (m (t % C) + k % each) + (t / C * C + k / each * C) ∧ E (m t + k) = E (m (t % C) + k % each) + (t / C * C + k / each * C) := by
  have h1 : t = t % C + t / C * C := by have := Nat.mod_add_div t C; rw [Nat.mul_comm C] at this; omega
  have h2 : k = k % each + k / each * each := by have := Nat.mod_add_div k each; rw [Nat.mul_comm each] at this; omega
  have h3 : m t + k = m (t % C) + k % each + (t / C + k / each) * each := by
    rw [Nat.add_mul]
    have := T.m_on (t % C) (t / C)
    rw [← h1] at this
    omega
  rw [h3, T.perPs, T.perEs, Nat.add_mul]; exact ⟨rfl, rfl⟩
theorem e_last : E (each - 1) < 2 * C := by
  have h := T.ends (each - 1)
  have h1 := T.pos
  rw [Nat.sub_add_cancel h1] at h
  have h2 := T.perP 0
  rw [Nat.zero_add] at h2
  have h3 := T.low 0 h1
  omega
theorem m_low (s : Nat) (hs : s < C) : m s ≤ each := T.m_le.2 (by have := T.perP 0; rw [Nat.zero_add] at this; omega)
theorem bound (t k : Nat) : E (m t + k) < t + (k + 3) * C := by
  have hC : 0 < C := by have := T.low 0 T.pos; omega
  have h1 := (T.split t k).2
  have h2 := T.m_low (t % C) (Nat.mod_lt _ hC)
  have h3 : k % each < each := Nat.mod_lt _ T.pos
  have h4 : E (m (t % C) + k % each) ≤ E (each - 1 + each) := by
    rcases Nat.lt_or_ge (m (t % C) + k % each) (each - 1 + each) with h | h
    · exact Nat.le_of_lt (T.elt h)
    · have : m (t % C) + k % each = each - 1 + each := by omega
      rw [this]; exact Nat.le_refl _
  rw [T.perE] at h4
  have h5 := T.e_last
  have h6 : t / C * C ≤ t := Nat.div_mul_le_self _ _
  have h7 : k / each * C ≤ k * C := Nat.mul_le_mul_right _ (Nat.div_le_self _ _)
  rw [Nat.add_mul]
  omega
end Turns
end Go.Proofs.YtkkodhjolgcokaaDoor
