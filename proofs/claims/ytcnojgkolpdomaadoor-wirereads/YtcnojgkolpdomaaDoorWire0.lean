/-
  Calls and entries as plain numbers, and their bytes; scripts read and written, over plain lists. (No program is run here.)
-/
import Derived.Test.YtcnojgkolpdomaaDoorRows
namespace Go.Proofs.YtcnojgkolpdomaaDoor
set_option linter.unusedVariables false
/-- A call as plain numbers. -/
structure Cl where
  op : Int
  a : Nat
  b : Nat
  c : Nat
/-- An entry as plain numbers. -/
structure En where
  kind : Int
  who : Int
  n : Int
  call : Cl
  dev : Int
  mask : Int
def nArgs : Nat → Nat
  | 0 => 1 | 1 => 0 | 2 => 2 | 3 => 1 | 4 => 3 | 5 => 1 | 6 => 1 | 7 => 3 | 8 => 1 | 9 => 1 | 10 => 2 | 11 => 1 | _ => 0
def okC (x : Cl) : Bool :=
  decide (0 ≤ x.op) && decide (x.op < 13) && (decide (1 ≤ nArgs x.op.toNat) || decide (x.a = 0)) && (decide (2 ≤ nArgs x.op.toNat) || decide (x.b = 0)) && (decide (3 ≤ nArgs x.op.toNat) || decide (x.c = 0))
def smC (x : Cl) : Prop := x.a < 18446744073709551616 ∧ x.b < 18446744073709551616 ∧ x.c < 18446744073709551616
def isZ (x : Cl) : Bool := decide (x.op = 0) && decide (x.a = 0) && decide (x.b = 0) && decide (x.c = 0)
def zC : Cl := ⟨0, 0, 0, 0⟩
def zE : En := ⟨0, 0, 0, zC, 0, 0⟩
theorem isZ_iff (x : Cl) : isZ x = true ↔ x = zC := by
  cases x; simp [isZ, zC, and_assoc]
def okE (e : En) : Bool :=
  (decide (e.kind = 0) && decide (1 ≤ e.n) && decide (e.n ≤ 100) && decide (e.who = 0) && isZ e.call && decide (e.dev = 0) && decide (e.mask = 0)) ||
  (decide (e.kind = 1) && decide (0 ≤ e.who) && decide (e.who < 256) && okC e.call && decide (e.n = 0) && decide (e.dev = 0) && decide (e.mask = 0)) ||
  (decide (e.kind = 2) && decide (0 ≤ e.who) && decide (e.who < 256) && decide (0 ≤ e.dev) && decide (e.dev < 256) && decide (1 ≤ e.mask) && decide (e.mask ≤ 7) && decide (e.n = 0) && isZ e.call)

/-! Numbers as bytes, the lowest one first. -/
def nb : Nat → Nat → List Nat
  | 0, _ => []
  | k + 1, n => n % 256 :: nb k (n / 256)
def num : List Nat → Nat
  | [] => 0
  | b :: r => b + 256 * num r
def isB (F : List Nat) : Prop := ∀ x ∈ F, x < 256
theorem nb_len : ∀ k n : Nat, (nb k n).length = k
  | 0, _ => rfl
  | k + 1, n => by simp [nb, nb_len k]
theorem nb_isB : ∀ k n : Nat, isB (nb k n)
  | 0, _ => by simp [isB, nb]
  | k + 1, n => by
    have := nb_isB k (n / 256)
    intro x hx
    simp only [nb, List.mem_cons] at hx
    rcases hx with rfl | hx
    · omega
    · exact this x hx
theorem num_nb : ∀ k n : Nat, n < 256 ^ k → num (nb k n) = n
  | 0, n, h => by simp at h; subst h; rfl
  | k + 1, n, h => by
    rw [nb, num, num_nb k (n / 256) (by rw [Nat.pow_succ] at h; omega)]
    omega
theorem nb_num : ∀ F : List Nat, isB F → nb F.length (num F) = F
  | [], _ => rfl
  | b :: r, h => by
    have hb : b < 256 := h b (by simp)
    have ih := nb_num r (fun x hx => h x (by simp [hx]))
    simp only [List.length_cons, num, nb]
    rw [show (b + 256 * num r) % 256 = b by omega, show (b + 256 * num r) / 256 = num r by omega, ih]
theorem num_lt : ∀ F : List Nat, isB F → num F < 256 ^ F.length
  | [], _ => by decide
  | b :: r, h => by
    have hb : b < 256 := h b (by simp)
    have ih := num_lt r (fun x hx => h x (by simp [hx]))
    simp only [List.length_cons, num, Nat.pow_succ]
    omega
theorem num_append : ∀ F G : List Nat, num (F ++ G) = num F + 256 ^ F.length * num G
  | [], G => by simp [num]
  | b :: r, G => by
    simp only [List.cons_append, num, num_append r G, List.length_cons, Nat.pow_succ, Nat.mul_add]
    rw [show 256 * (256 ^ r.length * num G) = 256 ^ r.length * 256 * num G by rw [← Nat.mul_assoc, Nat.mul_comm 256]]
    omega
theorem nb_append (n : Nat) : ∀ k m : Nat, nb (k + m) n = nb k n ++ nb m (n / 256 ^ k)
  := by
  intro k
  induction k generalizing n with
  | zero => intro m; simp [nb]
  | succ k ih =>
    intro m
    rw [show k + 1 + m = (k + m) + 1 by omega, nb, nb, ih (n / 256), List.cons_append, Nat.div_div_eq_div_mul, Nat.pow_succ, Nat.mul_comm]
theorem nb_snoc (k n : Nat) : nb (k + 1) n = nb k n ++ [n / 256 ^ k % 256] := by rw [nb_append n k 1]; rfl

/-! Calls. -/
def cb (x : Cl) : List Nat := x.op.toNat :: (nb 8 x.a ++ (nb 8 x.b ++ nb 8 x.c))
def clOf (F : List Nat) : Cl := ⟨(F.getD 0 0 : Nat), num ((F.drop 1).take 8), num ((F.drop 9).take 8), num ((F.drop 17).take 8)⟩
def cr (F : List Nat) : Option Cl := if F.length = 25 ∧ okC (clOf F) = true then some (clOf F) else none
theorem cb_len (x : Cl) : (cb x).length = 25 := by simp [cb, nb_len]
theorem okC_op {x : Cl} (h : okC x = true) : 0 ≤ x.op ∧ x.op < 13 := by
  simp only [okC, Bool.and_eq_true, decide_eq_true_eq] at h
  exact ⟨h.1.1.1.1, h.1.1.1.2⟩
theorem cb_isB {x : Cl} (h : okC x = true) : isB (cb x) := by
  intro y hy
  have := okC_op h
  simp only [cb, List.mem_cons, List.mem_append] at hy
  rcases hy with rfl | hy | hy | hy
  · omega
  · exact nb_isB _ _ _ hy
  · exact nb_isB _ _ _ hy
  · exact nb_isB _ _ _ hy
theorem clOf_cb {x : Cl} (h0 : 0 ≤ x.op) (hs : smC x) : clOf (cb x) = x := by
  obtain ⟨op, a, b, c⟩ := x
  obtain ⟨ha, hb, hc⟩ := hs
  simp only at ha hb hc h0
  have e1 : ((cb ⟨op, a, b, c⟩).drop 1).take 8 = nb 8 a := by
    simp only [cb, List.drop_succ_cons, List.drop_zero]
    rw [List.take_append_of_le_length (by rw [nb_len]; exact Nat.le_refl _), List.take_of_length_le (by rw [nb_len]; exact Nat.le_refl _)]
  have e2 : ((cb ⟨op, a, b, c⟩).drop 9).take 8 = nb 8 b := by
    simp only [cb, List.drop_succ_cons]
    rw [show nb 8 a ++ (nb 8 b ++ nb 8 c) = nb 8 a ++ (nb 8 b ++ nb 8 c) from rfl, List.drop_append, nb_len, List.drop_of_length_le (by rw [nb_len]; exact Nat.le_refl _)]
    simp only [Nat.sub_self, List.drop_zero, List.nil_append]
    rw [List.take_append_of_le_length (by rw [nb_len]; exact Nat.le_refl _), List.take_of_length_le (by rw [nb_len]; exact Nat.le_refl _)]
  have e3 : ((cb ⟨op, a, b, c⟩).drop 17).take 8 = nb 8 c := by
    simp only [cb, List.drop_succ_cons]
    rw [List.drop_append, nb_len, List.drop_of_length_le (by rw [nb_len]; omega), List.nil_append, List.drop_append, nb_len, List.drop_of_length_le (by rw [nb_len]; omega), List.nil_append]
    simp only [List.drop_zero, show 16 - 8 - 8 = 0 from rfl]
    rw [List.take_of_length_le (by rw [nb_len]; exact Nat.le_refl _)]
  simp only [clOf, e1, e2, e3, Cl.mk.injEq]
  refine ⟨?_, num_nb 8 a (by omega), num_nb 8 b (by omega), num_nb 8 c (by omega)⟩
  simp [cb]; omega
theorem cr_cb {x : Cl} (h : okC x = true) (hs : smC x) : cr (cb x) = some x := by
  rw [cr, clOf_cb (okC_op h).1 hs, if_pos ⟨cb_len x, h⟩]
theorem isB_drop {F : List Nat} (h : isB F) (k : Nat) : isB (F.drop k) := fun x hx => h x (List.mem_of_mem_drop hx)
theorem isB_take {F : List Nat} (h : isB F) (k : Nat) : isB (F.take k) := fun x hx => h x (List.mem_of_mem_take hx)
theorem cr_some {F : List Nat} {x : Cl} (h : cr F = some x) : F.length = 25 ∧ x = clOf F ∧ okC x = true := by
  unfold cr at h
  split at h
  · next hc =>
    injection h with h
    subst h
    exact ⟨hc.1, rfl, hc.2⟩
  · exact absurd h (by simp)
theorem clOf_sm {F : List Nat} (hB : isB F) (hl : F.length = 25) : smC (clOf F) := by
  refine ⟨?_, ?_, ?_⟩
  · have := num_lt _ (isB_take (isB_drop hB 1) 8)
    rw [List.length_take, List.length_drop, hl] at this
    exact this
  · have := num_lt _ (isB_take (isB_drop hB 9) 8)
    rw [List.length_take, List.length_drop, hl] at this
    exact this
  · have := num_lt _ (isB_take (isB_drop hB 17) 8)
    rw [List.length_take, List.length_drop, hl] at this
    exact this
theorem cb_clOf {F : List Nat} (hB : isB F) (hl : F.length = 25) : cb (clOf F) = F := by
  have l1 : ((F.drop 1).take 8).length = 8 := by rw [List.length_take, List.length_drop, hl]; rfl
  have l2 : ((F.drop 9).take 8).length = 8 := by rw [List.length_take, List.length_drop, hl]; rfl
  have l3 : ((F.drop 17).take 8).length = 8 := by rw [List.length_take, List.length_drop, hl]; rfl
  have e1 := nb_num _ (isB_take (isB_drop hB 1) 8)
  have e2 := nb_num _ (isB_take (isB_drop hB 9) 8)
  have e3 := nb_num _ (isB_take (isB_drop hB 17) 8)
  rw [l1] at e1; rw [l2] at e2; rw [l3] at e3
  rw [cb, clOf]
  simp only [e1, e2, e3]
  rw [List.take_of_length_le (show (F.drop 17).length ≤ 8 by rw [List.length_drop, hl]; decide)]
  rw [show F.drop 17 = (F.drop 9).drop 8 by rw [List.drop_drop], List.take_append_drop, show F.drop 9 = (F.drop 1).drop 8 by rw [List.drop_drop], List.take_append_drop]
  cases F with
  | nil => simp at hl
  | cons f r => simp
theorem cb_cr {F : List Nat} {x : Cl} (hB : isB F) (h : cr F = some x) : cb x = F ∧ okC x = true ∧ smC x := by
  obtain ⟨hl, rfl, ho⟩ := cr_some h
  exact ⟨cb_clOf hB hl, ho, clOf_sm hB hl⟩

/-! Entries. -/
def eb (e : En) : List Nat :=
  if e.kind = 0 then [0, e.n.toNat % 256, e.n.toNat / 256] else if e.kind = 1 then 1 :: e.who.toNat :: cb e.call else [2, e.who.toNat, e.dev.toNat, e.mask.toNat]
def ew (e : En) : List Nat := (eb e).length :: eb e
def rawE (F : List Nat) : En :=
  if F.length = 3 ∧ F.getD 0 0 = 0 then ⟨0, 0, (F.getD 1 0 + 256 * F.getD 2 0 : Nat), zC, 0, 0⟩
  else if F.length = 4 ∧ F.getD 0 0 = 2 then ⟨2, (F.getD 1 0 : Nat), 0, zC, (F.getD 2 0 : Nat), (F.getD 3 0 : Nat)⟩
  else if F.length = 27 ∧ F.getD 0 0 = 1 ∧ (cr (F.drop 2)).isSome = true then ⟨1, (F.getD 1 0 : Nat), 0, (cr (F.drop 2)).getD zC, 0, 0⟩
  else zE
def er (F : List Nat) : Option En := if okE (rawE F) = true then some (rawE F) else none
theorem okE_cases {e : En} (h : okE e = true) :
    (e.kind = 0 ∧ 1 ≤ e.n ∧ e.n ≤ 100 ∧ e.who = 0 ∧ e.call = zC ∧ e.dev = 0 ∧ e.mask = 0) ∨ (e.kind = 1 ∧ 0 ≤ e.who ∧ e.who < 256 ∧ okC e.call = true ∧ e.n = 0 ∧ e.dev = 0 ∧ e.mask = 0) ∨
      (e.kind = 2 ∧ 0 ≤ e.who ∧ e.who < 256 ∧ 0 ≤ e.dev ∧ e.dev < 256 ∧ 1 ≤ e.mask ∧ e.mask ≤ 7 ∧ e.n = 0 ∧ e.call = zC) := by
  simp only [okE, Bool.or_eq_true, Bool.and_eq_true, decide_eq_true_eq, isZ_iff, and_assoc, or_assoc] at h
  exact h
theorem okE_of {e : En} (h : (e.kind = 0 ∧ 1 ≤ e.n ∧ e.n ≤ 100 ∧ e.who = 0 ∧ e.call = zC ∧ e.dev = 0 ∧ e.mask = 0) ∨ (e.kind = 1 ∧ 0 ≤ e.who ∧ e.who < 256 ∧ okC e.call = true ∧ e.n = 0 ∧ e.dev = 0 ∧ e.mask = 0) ∨
      (e.kind = 2 ∧ 0 ≤ e.who ∧ e.who < 256 ∧ 0 ≤ e.dev ∧ e.dev < 256 ∧ 1 ≤ e.mask ∧ e.mask ≤ 7 ∧ e.n = 0 ∧ e.call = zC)) : okE e = true := by
  simp only [okE, Bool.or_eq_true, Bool.and_eq_true, decide_eq_true_eq, isZ_iff, and_assoc, or_assoc]
  exact h
theorem zE_no : okE zE = false := by decide
theorem eb_len {e : En} (h : okE e = true) : (eb e).length = 3 ∨ (eb e).length = 4 ∨ (eb e).length = 27 := by
  rcases okE_cases h with ⟨hk, _⟩ | ⟨hk, _⟩ | ⟨hk, _⟩ <;> simp [eb, hk, cb_len]
theorem eb_isB {e : En} (h : okE e = true) : isB (eb e) := by
  rcases okE_cases h with ⟨hk, h1, h2, h3⟩ | ⟨hk, h1, h2, h3, h4⟩ | ⟨hk, h1, h2, h3, h4, h5, h6, h7⟩
  · intro x hx; simp [eb, hk] at hx; rcases hx with rfl | rfl | rfl <;> omega
  · intro x hx; simp only [eb, hk, if_neg (show ¬ (1 : Int) = 0 by decide), if_true, List.mem_cons] at hx
    rcases hx with rfl | rfl | hx
    · decide
    · omega
    · exact cb_isB h3 x hx
  · intro x hx; simp [eb, hk] at hx; rcases hx with rfl | rfl | rfl | rfl <;> omega
theorem ew_isB {e : En} (h : okE e = true) : isB (ew e) := by
  intro x hx
  simp only [ew, List.mem_cons] at hx
  rcases hx with rfl | hx
  · rcases eb_len h with h | h | h <;> omega
  · exact eb_isB h x hx
theorem rawE_eb {e : En} (h : okE e = true) (hs : smC e.call) : rawE (eb e) = e := by
  obtain ⟨k, w, n, c, d, m⟩ := e
  rcases okE_cases h with ⟨hk, h1, h2, h3, h4, h5, h6⟩ | ⟨hk, h1, h2, h3, h4, h5, h6⟩ | ⟨hk, h1, h2, h3, h4, h5, h6, h7, h8⟩
  · simp only at hk h1 h2 h3 h4 h5 h6
    subst hk h3 h4 h5 h6
    simp [eb, rawE]
    omega
  · simp only at hk h1 h2 h3 h4 h5 h6 hs
    subst hk h4 h5 h6
    have := cr_cb h3 hs
    simp [eb, rawE, cb_len, this]
    omega
  · simp only at hk h1 h2 h3 h4 h5 h6 h7 h8
    subst hk h7 h8
    simp [eb, rawE]
    omega
theorem er_eb {e : En} (h : okE e = true) (hs : smC e.call) : er (eb e) = some e := by
  rw [er, rawE_eb h hs, if_pos h]
theorem er_some {F : List Nat} {e : En} (h : er F = some e) : e = rawE F ∧ okE e = true := by
  unfold er at h
  split at h
  · next hc => injection h with h; subst h; exact ⟨rfl, hc⟩
  · exact absurd h (by simp)
theorem eb_er {F : List Nat} {e : En} (hB : isB F) (h : er F = some e) : eb e = F ∧ okE e = true ∧ smC e.call := by
  obtain ⟨rfl, ho⟩ := er_some h
  have sz : smC zC := ⟨by decide, by decide, by decide⟩
  unfold rawE at ho ⊢
  split
  · next hc =>
    match F, hc with
    | [a, b, c], hc =>
      simp at hc
      subst hc
      have hb : b < 256 := hB b (by simp)
      refine ⟨?_, by simpa using ho, sz⟩
      simp [eb]; omega
  · split
    · next hc =>
      match F, hc with
      | [a, b, c, d], hc =>
        simp at hc
        subst hc
        exact ⟨by simp [eb], by simpa using ho, sz⟩
    · split
      · next hc =>
        obtain ⟨hl, h0, hi⟩ := hc
        obtain ⟨x, hx⟩ := Option.isSome_iff_exists.1 hi
        have := cb_cr (isB_drop hB 2) hx
        match F, hl with
        | a :: b :: r, hl =>
          simp only [List.drop_succ_cons, List.drop_zero] at hx this
          simp at h0
          subst h0
          refine ⟨by simp [eb, hx, this.1], ?_, by simpa [hx] using this.2.2⟩
          simpa [hx, hl] using ho
      · next h1 h2 h3 =>
        rw [if_neg h1, if_neg h2, if_neg h3] at ho
        exact absurd ho (by rw [zE_no]; simp)

/-! Scripts. -/
def rdN : Nat → List Nat → List En
  | 0, _ => []
  | _ + 1, [] => []
  | m + 1, k :: t => if t.length < k then [] else (er (t.take k)).toList ++ rdN m (t.drop k)
def rd (F : List Nat) : List En := rdN F.length F
theorem rdN_any : ∀ (m : Nat) (F : List Nat), F.length ≤ m → rdN m F = rd F := by
  intro m
  induction m using Nat.strongRecOn with
  | ind m ih =>
    intro F hF
    match m, F, hF with
    | 0, [], _ => rfl
    | m + 1, [], _ => rfl
    | m + 1, k :: t, hF =>
      rw [rd, List.length_cons, rdN, rdN]
      have ht : t.length ≤ m := by simpa using hF
      by_cases hk : t.length < k
      · rw [if_pos hk, if_pos hk]
      · rw [if_neg hk, if_neg hk, ih m (by omega) (t.drop k) (by rw [List.length_drop]; omega)]
        by_cases hm : t.length < m + 1
        · rw [ih t.length hm (t.drop k) (by rw [List.length_drop]; omega)]
        · omega
theorem rd_nil : rd [] = [] := rfl
theorem rd_few {k : Nat} {t : List Nat} (h : t.length < k) : rd (k :: t) = [] := by
  rw [rd, List.length_cons, rdN, if_pos h]
theorem rd_step {k : Nat} {t : List Nat} (h : k ≤ t.length) : rd (k :: t) = (er (t.take k)).toList ++ rd (t.drop k) := by
  rw [rd, List.length_cons, rdN, if_neg (by omega), rdN_any _ _ (by rw [List.length_drop]; omega)]
theorem rd_piece (J G : List Nat) : rd (J.length :: (J ++ G)) = (er J).toList ++ rd G := by
  rw [rd_step (by simp), List.take_left, List.drop_left]
theorem rd_ew {e : En} (h : okE e = true) (hs : smC e.call) (G : List Nat) : rd (ew e ++ G) = e :: rd G := by
  rw [ew, List.cons_append, rd_piece, er_eb h hs]
  rfl
theorem rd_pass {J : List Nat} (h : er J = none) (G : List Nat) : rd (J.length :: (J ++ G)) = rd G := by
  rw [rd_piece, h]; rfl
def okL (l : List En) : Prop := ∀ e ∈ l, okE e = true ∧ smC e.call
theorem rd_all : ∀ (l : List En) (G : List Nat), okL l → rd (l.flatMap ew ++ G) = l ++ rd G
  | [], G, _ => rfl
  | e :: l, G, h => by
    rw [List.flatMap_cons, List.append_assoc, rd_ew (h e (by simp)).1 (h e (by simp)).2, rd_all l G (fun x hx => h x (by simp [hx]))]
    rfl
theorem rd_write (l : List En) (h : okL l) : rd (l.flatMap ew) = l := by
  have := rd_all l [] h
  simpa [rd_nil] using this
theorem rd_props : ∀ (m : Nat) (F : List Nat), F.length ≤ m → isB F → okL (rd F) ∧ ((rd F).flatMap ew).length ≤ F.length ∧ ∀ c, ∃ r, rd F = rd (F.take c) ++ r := by
  intro m
  induction m with
  | zero =>
    intro F hF hB
    have : F = [] := List.eq_nil_of_length_eq_zero (by omega)
    subst this
    exact ⟨fun e he => absurd he (by simp [rd_nil]), by simp [rd_nil], fun c => ⟨[], by simp [rd_nil]⟩⟩
  | succ m ih =>
    intro F hF hB
    match F, hF, hB with
    | [], _, _ => exact ⟨fun e he => absurd he (by simp [rd_nil]), by simp [rd_nil], fun c => ⟨[], by simp [rd_nil]⟩⟩
    | k :: t, hF, hB =>
      have ht : t.length ≤ m := by simpa using hF
      have hBt : isB t := fun x hx => hB x (by simp [hx])
      by_cases hk : t.length < k
      · refine ⟨?_, ?_, fun c => ?_⟩
        · rw [rd_few hk]; intro e he; exact absurd he (by simp)
        · rw [rd_few hk]; simp
        · match c with
          | 0 => exact ⟨[], by rw [rd_few hk]; simp [rd_nil]⟩
          | c + 1 => exact ⟨[], by rw [rd_few hk, List.take_succ_cons, rd_few (by rw [List.length_take]; omega)]; rfl⟩
      · have hk' : k ≤ t.length := by omega
        obtain ⟨h1, h2, h3⟩ := ih (t.drop k) (by rw [List.length_drop]; omega) (isB_drop hBt k)
        rw [rd_step hk']
        have hlen : ((er (t.take k)).toList.flatMap ew).length ≤ k + 1 := by
          cases he : er (t.take k) with
          | none => simp
          | some e =>
            have := (eb_er (isB_take hBt k) he).1
            simp only [Option.toList_some, List.flatMap_cons, List.flatMap_nil, List.append_nil, ew, List.length_cons, this, List.length_take]
            omega
        refine ⟨?_, ?_, fun c => ?_⟩
        · intro e he
          rcases List.mem_append.1 he with he | he
          · cases hx : er (t.take k) with
            | none => rw [hx] at he; exact absurd he (by simp)
            | some x =>
              rw [hx] at he
              simp at he
              subst he
              exact (eb_er (isB_take hBt k) hx).2
          · exact h1 e he
        · rw [List.flatMap_append, List.length_append]
          rw [List.length_drop] at h2
          rw [List.length_cons]
          omega
        · match c with
          | 0 => exact ⟨_, rfl⟩
          | c + 1 =>
            rw [List.take_succ_cons]
            by_cases hc : c < k
            · exact ⟨_, by rw [rd_few (by rw [List.length_take]; omega)]; rfl⟩
            · obtain ⟨r, hr⟩ := h3 (c - k)
              refine ⟨r, ?_⟩
              rw [rd_step (by rw [List.length_take]; omega), List.take_take, Nat.min_eq_left (by omega), List.drop_take, hr, List.append_assoc]
end Go.Proofs.YtcnojgkolpdomaaDoor
