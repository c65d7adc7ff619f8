/-
  Rows of numbers that are linked both ways, told without the program: what is put to the end, and taken off. (No condition.)
-/
import Derived.Test.YtkkodhjolgcokaaDoorFrame
namespace Go.Proofs.YtkkodhjolgcokaaDoor

/-- Each of the row's numbers has the next one behind it, by N, and that has it ahead, by P. -/
def Linked (N P : Nat → Nat) : List Nat → Prop
  | [] => True
  | [_] => True
  | a :: b :: r => N a = b ∧ P b = a ∧ Linked N P (b :: r)

theorem linked_append {N P : Nat → Nat} : ∀ {x : List Nat} {a b : Nat} {y : List Nat}, Linked N P (x ++ a :: b :: y) ↔ Linked N P (x ++ [a]) ∧ N a = b ∧ P b = a ∧ Linked N P (b :: y)
  | [], a, b, y => by simp [Linked]
  | [c], a, b, y => by simp [Linked]; constructor <;> (intro h; obtain ⟨h1, h2, h3⟩ := h; simp_all)
  | c :: d :: x, a, b, y => by
    have ih := linked_append (N := N) (P := P) (x := d :: x) (a := a) (b := b) (y := y)
    simp only [List.cons_append, Linked] at ih ⊢
    rw [ih]
    constructor
    · rintro ⟨h1, h2, h3, h4, h5, h6⟩; exact ⟨⟨h1, h2, h3⟩, h4, h5, h6⟩
    · rintro ⟨⟨h1, h2, h3⟩, h4, h5, h6⟩; exact ⟨h1, h2, h3, h4, h5, h6⟩

theorem linked_congr {N P N' P' : Nat → Nat} : ∀ {l : List Nat}, (∀ a ∈ l.dropLast, N' a = N a) → (∀ b ∈ l.tail, P' b = P b) → Linked N P l → Linked N' P' l
  | [], _, _, _ => trivial
  | [_], _, _, _ => trivial
  | a :: b :: r, hN, hP, h => by
    refine ⟨(hN a (by simp)).trans h.1, (hP b (by simp)).trans h.2.1, linked_congr (l := b :: r) (fun c hc => hN c ?_) (fun c hc => hP c ?_) h.2.2⟩
    · simp only [List.dropLast_cons_cons]; exact List.mem_cons_of_mem _ hc
    · exact List.mem_cons_of_mem _ hc

theorem linked_at {N P : Nat → Nat} : ∀ {l : List Nat} (j : Nat) (h : j + 1 < l.length), Linked N P l → N l[j] = l[j + 1] ∧ P l[j + 1] = l[j]
  | [], j, h, _ => absurd h (by simp)
  | [_], j, h, _ => absurd h (by simp)
  | a :: b :: r, 0, _, hl => ⟨hl.1, hl.2.1⟩
  | a :: b :: r, j + 1, h, hl => by
    have := linked_at (l := b :: r) j (by simp at h ⊢; omega) hl.2.2
    simpa using this

/-- A function that is otherwise at one place. -/
def upN (f : Nat → Nat) (k v : Nat) : Nat → Nat := fun i => if i = k then v else f i
def upI (f : Nat → Int) (k : Nat) (v : Int) : Nat → Int := fun i => if i = k then v else f i
def upL (f : Nat → List Nat) (k : Nat) (v : List Nat) : Nat → List Nat := fun i => if i = k then v else f i
theorem upN_same (f : Nat → Nat) (k v : Nat) : upN f k v k = v := by simp [upN]
theorem upN_other (f : Nat → Nat) (k v i : Nat) (h : i ≠ k) : upN f k v i = f i := by simp [upN, h]
theorem upI_same (f : Nat → Int) (k : Nat) (v : Int) : upI f k v k = v := by simp [upI]
theorem upI_other (f : Nat → Int) (k : Nat) (v : Int) (i : Nat) (h : i ≠ k) : upI f k v i = f i := by simp [upI, h]
theorem upL_same (f : Nat → List Nat) (k : Nat) (v : List Nat) : upL f k v k = v := by simp [upL]
theorem upL_other (f : Nat → List Nat) (k : Nat) (v : List Nat) (i : Nat) (h : i ≠ k) : upL f k v i = f i := by simp [upL, h]

/-- n numbers on m lists, each a ring with a knot of its own. -/
structure Good (n m : Nat) (N P : Nat → Nat) (O : Nat → Int) (L : Nat → List Nat) : Prop where
  ring : ∀ i, i < m → Linked N P ((n + i) :: L i ++ [n + i])
  on : ∀ k i, k < n → i < m → (k ∈ L i ↔ O k = (i : Int))
  offs : ∀ k, k < n → O k = -1 ∨ (0 ≤ O k ∧ O k < (m : Int))
  bound : ∀ i, i < m → ∀ k ∈ L i, k < n
  nodup : ∀ i, i < m → (L i).Nodup

/-- The last one of a ring: the one ahead of the knot. -/
def lastOf (n i : Nat) (l : List Nat) : Nat := (((n + i) :: l).getLast (by simp))
theorem lastOf_split (n i : Nat) (l : List Nat) : ∃ x, (n + i) :: l = x ++ [lastOf n i l] := ⟨_, (List.dropLast_concat_getLast (l := (n + i) :: l) (by simp)).symm⟩
theorem lastOf_mem (n i : Nat) (l : List Nat) : lastOf n i l ∈ (n + i) :: l := List.getLast_mem _

theorem good_last {n m : Nat} {N P : Nat → Nat} {O : Nat → Int} {L : Nat → List Nat} (h : Good n m N P O L) (i : Nat) (hi : i < m) : P (n + i) = lastOf n i (L i) ∧ lastOf n i (L i) < n + m := by
  have hr := h.ring i hi
  obtain ⟨x, hx⟩ := lastOf_split n i (L i)
  have hm := lastOf_mem n i (L i)
  constructor
  · rw [hx, List.append_assoc] at hr
    exact (linked_append.1 hr).2.2.1
  · rcases List.mem_cons.1 hm with e | e
    · omega
    · have := h.bound i hi _ e; omega

theorem good_push {n m : Nat} {N P : Nat → Nat} {O : Nat → Int} {L : Nat → List Nat} (h : Good n m N P O L) (i k : Nat) (hi : i < m) (hk : k < n) (ho : O k = -1) :
    Good n m (upN (upN N (lastOf n i (L i)) k) k (n + i)) (upN (upN P k (lastOf n i (L i))) (n + i) k) (upI O k i) (upL L i (L i ++ [k])) := by
  obtain ⟨x, hx⟩ := lastOf_split n i (L i)
  have hlm := lastOf_mem n i (L i)
  have hno : ∀ j, j < m → k ∉ L j := fun j hj hm => by have := (h.on k j hk hj).1 hm; omega
  have hnd : ((n + i) :: L i).Nodup := List.nodup_cons.2 ⟨fun hm => by have := h.bound i hi _ hm; omega, h.nodup i hi⟩
  have hlk : lastOf n i (L i) ≠ k := by
    intro e
    rw [e] at hlm
    rcases List.mem_cons.1 hlm with e | e
    · omega
    · exact hno i hi e
  generalize hg : lastOf n i (L i) = la at *
  refine ⟨fun j hj => ?_, fun a j ha hj => ?_, fun a ha => ?_, fun j hj a ha => ?_, fun j hj => ?_⟩
  · by_cases e : j = i
    · subst e
      rw [upL_same]
      have hr := h.ring j hj
      rw [show (n + j) :: (L j ++ [k]) ++ [n + j] = x ++ la :: k :: [n + j] by rw [← List.cons_append, hx]; simp]
      rw [show (n + j) :: L j ++ [n + j] = x ++ la :: (n + j) :: [] by rw [hx]; simp] at hr
      have h1 := (linked_append.1 hr).1
      rw [hx] at hnd
      refine linked_append.2 ⟨?_, ?_, ?_, ?_⟩
      · refine linked_congr (fun a ha => ?_) (fun b hb => ?_) h1
        · have ha1 : a ∈ x := by simpa using ha
          have ha2 : a ∈ (n + j) :: L j := by rw [hx]; exact List.mem_append_left _ ha1
          have e1 : a ≠ k := by
            rintro rfl
            rcases List.mem_cons.1 ha2 with e | e
            · omega
            · exact hno j hj e
          have e2 : a ≠ la := fun e => (List.nodup_append.1 hnd).2.2 a ha1 la (by simp) e
          rw [upN_other _ _ _ _ e1, upN_other _ _ _ _ e2]
        · have hb1 : b ∈ L j := by
            rw [← hx] at hb
            exact hb
          have e1 : b ≠ n + j := fun e => by have := h.bound j hj b hb1; omega
          have e2 : b ≠ k := fun e => hno j hj (e ▸ hb1)
          rw [upN_other _ _ _ _ e1, upN_other _ _ _ _ e2]
      · rw [upN_other _ _ _ _ hlk, upN_same]
      · rw [upN_other _ _ _ _ (by omega), upN_same]
      · refine ⟨upN_same _ _ _, upN_same _ _ _, trivial⟩
    · rw [upL_other _ _ _ _ e]
      have hla : ∀ a ∈ (n + j) :: L j, a ≠ la := by
        rintro a ha rfl
        rcases List.mem_cons.1 hlm with e1 | e1
        · rcases List.mem_cons.1 ha with e2 | e2
          · omega
          · have := h.bound j hj _ e2; omega
        · rcases List.mem_cons.1 ha with e2 | e2
          · have := h.bound i hi _ e1; omega
          · have h1 := (h.on a i (h.bound i hi _ e1) hi).1 e1
            have h2 := (h.on a j (h.bound i hi _ e1) hj).1 e2
            omega
      have hak : ∀ a ∈ (n + j) :: L j, a ≠ k := by
        rintro a ha rfl
        rcases List.mem_cons.1 ha with e2 | e2
        · omega
        · exact hno j hj e2
      refine linked_congr (fun a ha => ?_) (fun b hb => ?_) (h.ring j hj)
      · have ha1 : a ∈ (n + j) :: L j := by rw [List.dropLast_concat] at ha; exact ha
        rw [upN_other _ _ _ _ (hak a ha1), upN_other _ _ _ _ (hla a ha1)]
      · have hb1 : b ∈ (n + j) :: L j := by
          rw [List.cons_append, List.tail_cons] at hb
          rcases List.mem_append.1 hb with hb | hb
          · exact List.mem_cons_of_mem _ hb
          · simp at hb; rw [hb]; exact List.mem_cons_self
        have e1 : b ≠ n + i := by
          rintro rfl
          rcases List.mem_cons.1 hb1 with e2 | e2
          · omega
          · have := h.bound j hj _ e2; omega
        rw [upN_other _ _ _ _ e1, upN_other _ _ _ _ (hak b hb1)]
  · by_cases e : j = i
    · subst e
      rw [upL_same]
      by_cases ek : a = k
      · subst ek; rw [upI_same]; simp
      · rw [upI_other _ _ _ _ ek, ← h.on a j ha hj]; simp [ek]
    · rw [upL_other _ _ _ _ e]
      by_cases ek : a = k
      · subst ek; rw [upI_same]
        exact ⟨fun hm => absurd hm (hno j hj), fun h2 => by omega⟩
      · rw [upI_other _ _ _ _ ek, ← h.on a j ha hj]
  · by_cases ek : a = k
    · subst ek; rw [upI_same]; omega
    · rw [upI_other _ _ _ _ ek]; exact h.offs a ha
  · by_cases e : j = i
    · subst e
      rw [upL_same] at ha
      rcases List.mem_append.1 ha with ha | ha
      · exact h.bound j hj a ha
      · simp at ha; omega
    · rw [upL_other _ _ _ _ e] at ha; exact h.bound j hj a ha
  · by_cases e : j = i
    · subst e
      rw [upL_same]
      refine List.nodup_append.2 ⟨h.nodup j hj, by simp, fun a ha b hb e => ?_⟩
      simp at hb; subst hb; subst e; exact hno j hj ha
    · rw [upL_other _ _ _ _ e]; exact h.nodup j hj

/-- The one behind a number of a ring, and the one ahead of it. -/
theorem good_pull {n m : Nat} {N P : Nat → Nat} {O : Nat → Int} {L : Nat → List Nat} (h : Good n m N P O L) (i k : Nat) (hi : i < m) (hk : k < n) (ho : O k = (i : Int)) :
    P k < n + m ∧ N k < n + m ∧ Good n m (upN N (P k) (N k)) (upN P (N k) (P k)) (upI O k (-1)) (upL L i ((L i).erase k)) := by
  have hm := (h.on k i hk hi).2 ho
  obtain ⟨A, B, hAB⟩ := List.append_of_mem hm
  have hnd := h.nodup i hi
  have hkA : k ∉ A := by
    rw [hAB] at hnd
    exact fun ha => (List.nodup_append.1 hnd).2.2 k ha k (by simp) rfl
  have hkB : k ∉ B := by
    rw [hAB] at hnd
    exact (List.nodup_cons.1 (List.nodup_append.1 hnd).2.1).1
  have her : (L i).erase k = A ++ B := by
    rw [hAB, List.erase_append_right _ hkA, List.erase_cons_head]
  have hr := h.ring i hi
  obtain ⟨x, hx⟩ := lastOf_split n i A
  have hpm := lastOf_mem n i A
  generalize hgp : lastOf n i A = pa at *
  obtain ⟨nb, y, hy⟩ : ∃ nb y, B ++ [n + i] = nb :: y := by cases B with
    | nil => exact ⟨_, _, rfl⟩
    | cons c B => exact ⟨_, _, rfl⟩
  have hseq : (n + i) :: L i ++ [n + i] = x ++ pa :: k :: (nb :: y) := by
    rw [hAB, ← hy, show (n + i) :: (A ++ k :: B) ++ [n + i] = ((n + i) :: A) ++ (k :: (B ++ [n + i])) by simp, hx]; simp
  rw [hseq] at hr
  obtain ⟨r1, hNp, hPk, r2⟩ := linked_append.1 hr
  obtain ⟨hNk, hPn, r3⟩ := r2
  rw [hPk, hNk]
  have hpaL : pa ∈ (n + i) :: L i := by
    rcases List.mem_cons.1 hpm with e | e
    · rw [e]; exact List.mem_cons_self
    · rw [hAB]; exact List.mem_cons_of_mem _ (List.mem_append_left _ e)
  have hnbL : nb ∈ (n + i) :: L i := by
    have : nb ∈ B ++ [n + i] := by rw [hy]; exact List.mem_cons_self
    rcases List.mem_append.1 this with e | e
    · rw [hAB]; exact List.mem_cons_of_mem _ (List.mem_append_right _ (List.mem_cons_of_mem _ e))
    · simp at e; rw [e]; exact List.mem_cons_self
  have hlt : ∀ a ∈ (n + i) :: L i, a < n + m := by
    intro a ha
    rcases List.mem_cons.1 ha with e | e
    · omega
    · have := h.bound i hi a e; omega
  have hfar : ∀ j, j < m → j ≠ i → ∀ a ∈ (n + j) :: L j, ∀ b ∈ (n + i) :: L i, a ≠ b := by
    rintro j hj hne a ha b hb rfl
    rcases List.mem_cons.1 hb with e1 | e1
    · rcases List.mem_cons.1 ha with e2 | e2
      · omega
      · have := h.bound j hj _ e2; omega
    · rcases List.mem_cons.1 ha with e2 | e2
      · have := h.bound i hi _ e1; omega
      · have h1 := (h.on a i (h.bound i hi _ e1) hi).1 e1
        have h2 := (h.on a j (h.bound i hi _ e1) hj).1 e2
        omega
  have hnd2 : ((n + i) :: (A ++ B)).Nodup := by
    refine List.nodup_cons.2 ⟨fun hm => ?_, ?_⟩
    · have : n + i ∈ L i := by
        rw [hAB]
        rcases List.mem_append.1 hm with e | e
        · exact List.mem_append_left _ e
        · exact List.mem_append_right _ (List.mem_cons_of_mem _ e)
      have := h.bound i hi _ this; omega
    · rw [← her]; exact hnd.erase k
  refine ⟨hlt _ hpaL, hlt _ hnbL, fun j hj => ?_, fun a j ha hj => ?_, fun a ha => ?_, fun j hj a ha => ?_, fun j hj => ?_⟩
  · by_cases e : j = i
    · subst e
      rw [upL_same, her, show (n + j) :: (A ++ B) ++ [n + j] = x ++ pa :: nb :: y by rw [← hy, show (n + j) :: (A ++ B) ++ [n + j] = ((n + j) :: A) ++ (B ++ [n + j]) by simp, hx]; simp]
      have hnd3 : ((n + j) :: A).Nodup := by
        rw [← List.cons_append] at hnd2
        exact (List.nodup_append.1 hnd2).1
      refine linked_append.2 ⟨?_, upN_same _ _ _, upN_same _ _ _, ?_⟩
      · refine linked_congr (fun a ha => ?_) (fun b hb => ?_) r1
        · have ha1 : a ∈ x := by simpa using ha
          rw [hx] at hnd3
          have e2 : a ≠ pa := fun e => (List.nodup_append.1 hnd3).2.2 a ha1 pa (by simp) e
          rw [upN_other _ _ _ _ e2]
        · have hb1 : b ∈ A := by rw [← hx] at hb; exact hb
          have e2 : b ≠ nb := by
            rintro rfl
            have hbm : b ∈ B ++ [n + j] := by rw [hy]; exact List.mem_cons_self
            rcases List.mem_append.1 hbm with e | e
            · rw [List.nodup_cons] at hnd2
              exact (List.nodup_append.1 hnd2.2).2.2 b hb1 b e rfl
            · simp at e
              have := h.bound j hj b (by rw [hAB]; exact List.mem_append_left _ hb1)
              omega
          rw [upN_other _ _ _ _ e2]
      · refine linked_congr (fun a ha => ?_) (fun b hb => ?_) r3
        · have ha1 : a ∈ B := by rw [← hy, List.dropLast_concat] at ha; exact ha
          have e2 : a ≠ pa := by
            rintro rfl
            rcases List.mem_cons.1 hpm with e | e
            · have := h.bound j hj a (by rw [hAB]; exact List.mem_append_right _ (List.mem_cons_of_mem _ ha1))
              omega
            · rw [List.nodup_cons] at hnd2
              exact (List.nodup_append.1 hnd2.2).2.2 a e a ha1 rfl
          rw [upN_other _ _ _ _ e2]
        · have hb1 : b ∈ y := hb
          have e2 : b ≠ nb := by
            rintro rfl
            have hn4 : (B ++ [n + j]).Nodup := by
              rw [List.nodup_cons] at hnd2
              refine List.nodup_append.2 ⟨(List.nodup_append.1 hnd2.2).2.1, by simp, fun a ha b hb e => ?_⟩
              simp at hb; subst hb; subst e
              exact hnd2.1 (List.mem_append_right _ ha)
            rw [hy] at hn4
            exact (List.nodup_cons.1 hn4).1 hb1
          rw [upN_other _ _ _ _ e2]
    · rw [upL_other _ _ _ _ e]
      refine linked_congr (fun a ha => ?_) (fun b hb => ?_) (h.ring j hj)
      · have ha1 : a ∈ (n + j) :: L j := by rw [List.dropLast_concat] at ha; exact ha
        rw [upN_other _ _ _ _ (hfar j hj e a ha1 pa hpaL)]
      · have hb1 : b ∈ (n + j) :: L j := by
          rw [List.cons_append, List.tail_cons] at hb
          rcases List.mem_append.1 hb with hb | hb
          · exact List.mem_cons_of_mem _ hb
          · simp at hb; rw [hb]; exact List.mem_cons_self
        rw [upN_other _ _ _ _ (hfar j hj e b hb1 nb hnbL)]
  · by_cases e : j = i
    · subst e
      rw [upL_same, her]
      by_cases ek : a = k
      · subst ek; rw [upI_same]
        exact ⟨fun hm => absurd (List.mem_append.1 hm) (by simp [hkA, hkB]), fun h2 => by omega⟩
      · rw [upI_other _ _ _ _ ek, ← h.on a j ha hj, hAB]; simp [ek]
    · rw [upL_other _ _ _ _ e]
      by_cases ek : a = k
      · subst ek; rw [upI_same]
        exact ⟨fun hm2 => by have := (h.on a j ha hj).1 hm2; omega, fun h2 => by omega⟩
      · rw [upI_other _ _ _ _ ek, ← h.on a j ha hj]
  · by_cases ek : a = k
    · subst ek; rw [upI_same]; omega
    · rw [upI_other _ _ _ _ ek]; exact h.offs a ha
  · by_cases e : j = i
    · subst e
      rw [upL_same] at ha
      exact h.bound j hj a (List.mem_of_mem_erase ha)
    · rw [upL_other _ _ _ _ e] at ha; exact h.bound j hj a ha
  · by_cases e : j = i
    · subst e
      rw [upL_same]; exact hnd.erase k
    · rw [upL_other _ _ _ _ e]; exact h.nodup j hj

end Go.Proofs.YtkkodhjolgcokaaDoor
