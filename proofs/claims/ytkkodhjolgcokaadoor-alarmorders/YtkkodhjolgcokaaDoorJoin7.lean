/-
  Texts of one claim, joined, one behind the other.
-/
import Derived.Test.YtkkodhjolgcokaaDoorJoin4
import Derived.Test.YtkkodhjolgcokaaDoorJoin5
/-
  Rows of numbers that are linked both ways, told without the program: what is put to the end, and taken off. (No condition.)
-/
namespace Go.Proofs.YtkkodhjolgcokaaDoor

/-- Each of the row's numbers has the next one behind it, by N, and that has it ahead, by P. -/
def Linked (N P : Nat → Nat) : List Nat → Prop
  | [] => True
  | [_] => True
  | a :: b :: r => N a = b ∧ P b = a ∧ Linked N P (b :: r)

theorem linked_append {N P : Nat → Nat} : ∀ {x : List Nat} {a b : Nat} {y : List Nat}, Linked N P (x ++ a :: b :: y) ↔ Linked N P (x ++ [a]) ∧ N a = b ∧ P b = a ∧ Linked N P (b :: y)
  | [], a, b, y => by simp [Linked]
  | [c], a, b, y => by simp [Linked]; constructor <;> (intro h; obtain ⟨h1, h2, h3⟩ := h; simp_all)
  | c :: d :: x, a, b, y => by
    have ih := linked_append (N := N) (P := P) (x := d :: x) (a := a) (b := b) (y := y)
    simp only [List.cons_append, Linked] at ih ⊢
    rw [ih]
    constructor
    · rintro ⟨h1, h2, h3, h4, h5, h6⟩; exact ⟨⟨h1, h2, h3⟩, h4, h5, h6⟩
    · rintro ⟨⟨h1, h2, h3⟩, h4, h5, h6⟩; exact ⟨h1, h2, h3, h4, h5, h6⟩

theorem linked_congr {N P N' P' : Nat → Nat} : ∀ {l : List Nat}, (∀ a ∈ l.dropLast, N' a = N a) → (∀ b ∈ l.tail, P' b = P b) → Linked N P l → Linked N' P' l
  | [], _, _, _ => trivial
  | [_], _, _, _ => trivial
  | a :: b :: r, hN, hP, h => by
    refine ⟨(hN a (by simp)).trans h.1, (hP b (by simp)).trans h.2.1, linked_congr (l := b :: r) (fun c hc => hN c ?_) (fun c hc => hP c ?_) h.2.2⟩
    · simp only [List.dropLast_cons_cons]; exact List.mem_cons_of_mem _ hc
    · exact List.mem_cons_of_mem _ hc

theorem linked_at {N P : Nat → Nat} : ∀ {l : List Nat} (j : Nat) (h : j + 1 < l.length), Linked N P l → N l[j] = l[j + 1] ∧ P l[j + 1] = l[j]
  | [], j, h, _ => absurd h (by simp)
  | [_], j, h, _ => absurd h (by simp)
  | a :: b :: r, 0, _, hl => ⟨hl.1, hl.2.1⟩
  | a :: b :: r, j + 1, h, hl => by
    have := linked_at (l := b :: r) j (by simp at h ⊢; omega) hl.2.2
    simpa using this

/-- A function that is otherwise at one place. -/
def upN (f : Nat → Nat) (k v : Nat) : Nat → Nat := fun i => if i = k then v else f i
def upI (f : Nat → Int) (k : Nat) (v : Int) : Nat → Int := fun i => if i = k then v else f i
def upL (f : Nat → List Nat) (k : Nat) (v : List Nat) : Nat → List Nat := fun i => if i = k then v else f i
theorem upN_same (f : Nat → Nat) (k v : Nat) : upN f k v k = v := by simp [upN]
theorem upN_other (f : Nat → Nat) (k v i : Nat) (h : i ≠ k) : upN f k v i = f i := by simp [upN, h]
theorem upI_same (f : Nat → Int) (k : Nat) (v : Int) : upI f k v k = v := by simp [upI]
theorem upI_other (f : Nat → Int) (k : Nat) (v : Int) (i : Nat) (h : i ≠ k) : upI f k v i = f i := by simp [upI, h]
theorem upL_same (f : Nat → List Nat) (k : Nat) (v : List Nat) : upL f k v k = v := by simp [upL]
theorem upL_other (f : Nat → List Nat) (k : Nat) (v : List Nat) (i : Nat) (h : i ≠ k) : upL f k v i = f i := by simp [upL, h]

/-- n numbers on m lists, each a ring with a knot of its own. -/
structure Good (n m : Nat) (N P : Nat → Nat) (O : Nat → Int) (L : Nat → List Nat) : Prop where
  ring : ∀ i, i < m → Linked N P ((n + i) :: L i ++ [n + i])
  on : ∀ k i, k < n → i < m → (k ∈ L i ↔ O k = (i : Int))
  offs : ∀ k, k < n → O k = -1 ∨ (0 ≤ O k ∧ O k < (m : Int))
  bound : ∀ i, i < m → ∀ k ∈ L i, k < n
  nodup : ∀ i, i < m → (L i).Nodup

/-- The last one of a ring: the one ahead of the knot. -/
def lastOf (n i : Nat) (l : List Nat) : Nat := (((n + i) :: l).getLast (by simp))
theorem lastOf_split (n i : Nat) (l : List Nat) : ∃ x, (n + i) :: l = x ++ [lastOf n i l] := ⟨_, (List.dropLast_concat_getLast (l := (n + i) :: l) (by simp)).symm⟩
theorem lastOf_mem (n i : Nat) (l : List Nat) : lastOf n i l ∈ (n + i) :: l := List.getLast_mem _

theorem good_last {n m : Nat} {N P : Nat → Nat} {O : Nat → Int} {L : Nat → List Nat} (h : Good n m N P O L) (i : Nat) (hi : i < m) : P (n + i) = lastOf n i (L i) ∧ lastOf n i (L i) < n + m := by
  have hr := h.ring i hi
  obtain ⟨x, hx⟩ := lastOf_split n i (L i)
  have hm := lastOf_mem n i (L i)
  constructor
  · rw [hx, List.append_assoc] at hr
    exact (linked_append.1 hr).2.2.1
  · rcases List.mem_cons.1 hm with e | e
    · omega
    · have := h.bound i hi _ e; omega

theorem good_push {n m : Nat} {N P : Nat → Nat} {O : Nat → Int} {L : Nat → List Nat} (h : Good n m N P O L) (i k : Nat) (hi : i < m) (hk : k < n) (ho : O k = -1) :
    Good n m (upN (upN N (lastOf n i (L i)) k) k (n + i)) (upN (upN P k (lastOf n i (L i))) (n + i) k) (upI O k i) (upL L i (L i ++ [k])) := by
  obtain ⟨x, hx⟩ := lastOf_split n i (L i)
  have hlm := lastOf_mem n i (L i)
  have hno : ∀ j, j < m → k ∉ L j := fun j hj hm => by have := (h.on k j hk hj).1 hm; omega
  have hnd : ((n + i) :: L i).Nodup := List.nodup_cons.2 ⟨fun hm => by have := h.bound i hi _ hm; omega, h.nodup i hi⟩
  have hlk : lastOf n i (L i) ≠ k := by
    intro e
    rw [e] at hlm
    rcases List.mem_cons.1 hlm with e | e
    · omega
    · exact hno i hi e
  generalize hg : lastOf n i (L i) = la at *
  refine ⟨fun j hj => ?_, fun a j ha hj => ?_, fun a ha => ?_, fun j hj a ha => ?_, fun j hj => ?_⟩
  · by_cases e : j = i
    · subst e
      rw [upL_same]
      have hr := h.ring j hj
      rw [show (n + j) :: (L j ++ [k]) ++ [n + j] = x ++ la :: k :: [n + j] by rw [← List.cons_append, hx]; simp]
      rw [show (n + j) :: L j ++ [n + j] = x ++ la :: (n + j) :: [] by rw [hx]; simp] at hr
      have h1 := (linked_append.1 hr).1
      rw [hx] at hnd
      refine linked_append.2 ⟨?_, ?_, ?_, ?_⟩
      · refine linked_congr (fun a ha => ?_) (fun b hb => ?_) h1
        · have ha1 : a ∈ x := by simpa using ha
          have ha2 : a ∈ (n + j) :: L j := by rw [hx]; exact List.mem_append_left _ ha1
          have e1 : a ≠ k := by
            rintro rfl
            rcases List.mem_cons.1 ha2 with e | e
            · omega
            · exact hno j hj e
          have e2 : a ≠ la := fun e => (List.nodup_append.1 hnd).2.2 a ha1 la (by simp) e
          rw [upN_other _ _ _ _ e1, upN_other _ _ _ _ e2]
        · have hb1 : b ∈ L j := by
            rw [← hx] at hb
            exact hb
          have e1 : b ≠ n + j := fun e => by have := h.bound j hj b hb1; omega
          have e2 : b ≠ k := fun e => hno j hj (e ▸ hb1)
          rw [upN_other _ _ _ _ e1, upN_other _ _ _ _ e2]
      · rw [upN_other _ _ _ _ hlk, upN_same]
      · rw [upN_other _ _ _ _ (by omega), upN_same]
      · refine ⟨upN_same _ _ _, upN_same _ _ _, trivial⟩
    · rw [upL_other _ _ _ _ e]
      have hla : ∀ a ∈ (n + j) :: L j, a ≠ la := by
        rintro a ha rfl
        rcases List.mem_cons.1 hlm with e1 | e1
        · rcases List.mem_cons.1 ha with e2 | e2
          · omega
          · have := h.bound j hj _ e2; omega
        · rcases List.mem_cons.1 ha with e2 | e2
          · have := h.bound i hi _ e1; omega
          · have h1 := (h.on a i (h.bound i hi _ e1) hi).1 e1
            have h2 := (h.on a j (h.bound i hi _ e1) hj).1 e2
            omega
      have hak : ∀ a ∈ (n + j) :: L j, a ≠ k := by
        rintro a ha rfl
        rcases List.mem_cons.1 ha with e2 | e2
        · omega
        · exact hno j hj e2
      refine linked_congr (fun a ha => ?_) (fun b hb => ?_) (h.ring j hj)
      · have ha1 : a ∈ (n + j) :: L j := by rw [List.dropLast_concat] at ha; exact ha
        rw [upN_other _ _ _ _ (hak a ha1), upN_other _ _ _ _ (hla a ha1)]
      · have hb1 : b ∈ (n + j) :: L j := by
          rw [List.cons_append, List.tail_cons] at hb
          rcases List.mem_append.1 hb with hb | hb
          · exact List.mem_cons_of_mem _ hb
          · simp at hb; rw [hb]; exact List.mem_cons_self
        have e1 : b ≠ n + i := by
          rintro rfl
          rcases List.mem_cons.1 hb1 with e2 | e2
          · omega
          · have := h.bound j hj _ e2; omega
        rw [upN_other _ _ _ _ e1, upN_other _ _ _ _ (hak b hb1)]
  · by_cases e : j = i
    · subst e
      rw [upL_same]
      by_cases ek : a = k
      · subst ek; rw [upI_same]; simp
      · rw [upI_other _ _ _ _ ek, ← h.on a j ha hj]; simp [ek]
    · rw [upL_other _ _ _ _ e]
      by_cases ek : a = k
      · subst ek; rw [upI_same]
        exact ⟨fun hm => absurd hm (hno j hj), fun h2 => by omega⟩
      · rw [upI_other _ _ _ _ ek, ← h.on a j ha hj]
  · by_cases ek : a = k
    · subst ek; rw [upI_same]; omega
    · rw [upI_other _ _ _ _ ek]; exact h.offs a ha
  · by_cases e : j = i
    · subst e
      rw [upL_same] at ha
      rcases List.mem_append.1 ha with ha | ha
      · exact h.bound j hj a ha
      · simp at ha; omega
    · rw [upL_other _ _ _ _ e] at ha; exact h.bound j hj a ha
  · by_cases e : j = i
    · subst e
      rw [upL_same]
      refine List.nodup_append.2 ⟨h.nodup j hj, by simp, fun a ha b hb e => ?_⟩
      simp at hb; subst hb; subst e; exact hno j hj ha
    · rw [upL_other _ _ _ _ e]; exact h.nodup j hj

/-- The one behind a number of a ring, and the one ahead of it. -/
theorem good_pull {n m : Nat} {N P : Nat → Nat} {O : Nat → Int} {L : Nat → List Nat} (h : Good n m N P O L) (i k : Nat) (hi : i < m) (hk : k < n) (ho : O k = (i : Int)) :
    P k < n + m ∧ N k < n + m ∧ Good n m (upN N (P k) (N k)) (upN P (N k) (P k)) (upI O k (-1)) (upL L i ((L i).erase k)) := by
  have hm := (h.on k i hk hi).2 ho
  obtain ⟨A, B, hAB⟩ := List.append_of_mem hm
  have hnd := h.nodup i hi
  have hkA : k ∉ A := by
    rw [hAB] at hnd
    exact fun ha => (List.nodup_append.1 hnd).2.2 k ha k (by simp) rfl
  have hkB : k ∉ B := by
    rw [hAB] at hnd
    exact (List.nodup_cons.1 (List.nodup_append.1 hnd).2.1).1
  have her : (L i).erase k = A ++ B := by
    rw [hAB, List.erase_append_right _ hkA, List.erase_cons_head]
  have hr := h.ring i hi
  obtain ⟨x, hx⟩ := lastOf_split n i A
  have hpm := lastOf_mem n i A
  generalize hgp : lastOf n i A = pa at *
  obtain ⟨nb, y, hy⟩ : ∃ nb y, B ++ [n + i] = nb :: y := by cases B with
    | nil => exact ⟨_, _, rfl⟩
    | cons c B => exact ⟨_, _, rfl⟩
  have hseq : (n + i) :: L i ++ [n + i] = x ++ pa :: k :: (nb :: y) := by
    rw [hAB, ← hy, show (n + i) :: (A ++ k :: B) ++ [n + i] = ((n + i) :: A) ++ (k :: (B ++ [n + i])) by simp, hx]; simp
  rw [hseq] at hr
  obtain ⟨r1, hNp, hPk, r2⟩ := linked_append.1 hr
  obtain ⟨hNk, hPn, r3⟩ := r2
  rw [hPk, hNk]
  have hpaL : pa ∈ (n + i) :: L i := by
    rcases List.mem_cons.1 hpm with e | e
    · rw [e]; exact List.mem_cons_self
    · rw [hAB]; exact List.mem_cons_of_mem _ (List.mem_append_left _ e)
  have hnbL : nb ∈ (n + i) :: L i := by
    have : nb ∈ B ++ [n + i] := by rw [hy]; exact List.mem_cons_self
    rcases List.mem_append.1 this with e | e
    · rw [hAB]; exact List.mem_cons_of_mem _ (List.mem_append_right _ (List.mem_cons_of_mem _ e))
    · simp at e; rw [e]; exact List.mem_cons_self
  have hlt : ∀ a ∈ (n + i) :: L i, a < n + m := by
    intro a ha
    rcases List.mem_cons.1 ha with e | e
    · omega
    · have := h.bound i hi a e; omega
  have hfar : ∀ j, j < m → j ≠ i → ∀ a ∈ (n + j) :: L j, ∀ b ∈ (n + i) :: L i, a ≠ b := by
    rintro j hj hne a ha b hb rfl
    rcases List.mem_cons.1 hb with e1 | e1
    · rcases List.mem_cons.1 ha with e2 | e2
      · omega
      · have := h.bound j hj _ e2; omega
    · rcases List.mem_cons.1 ha with e2 | e2
      · have := h.bound i hi _ e1; omega
      · have h1 := (h.on a i (h.bound i hi _ e1) hi).1 e1
        have h2 := (h.on a j (h.bound i hi _ e1) hj).1 e2
        omega
  have hnd2 : ((n + i) :: (A ++ B)).Nodup := by
    refine List.nodup_cons.2 ⟨fun hm => ?_, ?_⟩
    · have : n + i ∈ L i := by
        rw [hAB]
        rcases List.mem_append.1 hm with e | e
        · exact List.mem_append_left _ e
        · exact List.mem_append_right _ (List.mem_cons_of_mem _ e)
      have := h.bound i hi _ this; omega
    · rw [← her]; exact hnd.erase k
  refine ⟨hlt _ hpaL, hlt _ hnbL, fun j hj => ?_, fun a j ha hj => ?_, fun a ha => ?_, fun j hj a ha => ?_, fun j hj => ?_⟩
  · by_cases e : j = i
    · subst e
      rw [upL_same, her, show (n + j) :: (A ++ B) ++ [n + j] = x ++ pa :: nb :: y by rw [← hy, show (n + j) :: (A ++ B) ++ [n + j] = ((n + j) :: A) ++ (B ++ [n + j]) by simp, hx]; simp]
      have hnd3 : ((n + j) :: A).Nodup := by
        rw [← List.cons_append] at hnd2
        exact (List.nodup_append.1 hnd2).1
      refine linked_append.2 ⟨?_, upN_same _ _ _, upN_same _ _ _, ?_⟩
      · refine linked_congr (fun a ha => ?_) (fun b hb => ?_) r1
        · have ha1 : a ∈ x := by simpa using ha
          rw [hx] at hnd3
          have e2 : a ≠ pa := fun e => (List.nodup_append.1 hnd3).2.2 a ha1 pa (by simp) e
          rw [upN_other _ _ _ _ e2]
        · have hb1 : b ∈ A := by rw [← hx] at hb; exact hb
          have e2 : b ≠ nb := by
            rintro rfl
            have hbm : b ∈ B ++ [n + j] := by rw [hy]; exact List.mem_cons_self
            rcases List.mem_append.1 hbm with e | e
            · rw [List.nodup_cons] at hnd2
              exact (List.nodup_append.1 hnd2.2).2.2 b hb1 b e rfl
            · simp at e
              have := h.bound j hj b (by rw [hAB]; exact List.mem_append_left _ hb1)
              omega
          rw [upN_other _ _ _ _ e2]
      · refine linked_congr (fun a ha => ?_) (fun b hb => ?_) r3
        · have ha1 : a ∈ B := by rw [← hy, List.dropLast_concat] at ha; exact ha
          have e2 : a ≠ pa := by
            rintro rfl
            rcases List.mem_cons.1 hpm with e | e
            · have := h.bound j hj a (by rw [hAB]; exact List.mem_append_right _ (List.mem_cons_of_mem _ ha1))
              omega
            · rw [List.nodup_cons] at hnd2
              exact (List.nodup_append.1 hnd2.2).2.2 a e a ha1 rfl
          rw [upN_other _ _ _ _ e2]
        · have hb1 : b ∈ y := hb
          have e2 : b ≠ nb := by
            rintro rfl
            have hn4 : (B ++ [n + j]).Nodup := by
              rw [List.nodup_cons] at hnd2
              refine List.nodup_append.2 ⟨(List.nodup_append.1 hnd2.2).2.1, by simp, fun a ha b hb e => ?_⟩
              simp at hb; subst hb; subst e
              exact hnd2.1 (List.mem_append_right _ ha)
            rw [hy] at hn4
            exact (List.nodup_cons.1 hn4).1 hb1
          rw [upN_other _ _ _ _ e2]
    · rw [upL_other _ _ _ _ e]
      refine linked_congr (fun a ha => ?_) (fun b hb => ?_) (h.ring j hj)
      · have ha1 : a ∈ (n + j) :: L j := by rw [List.dropLast_concat] at ha; exact ha
        rw [upN_other _ _ _ _ (hfar j hj e a ha1 pa hpaL)]
      · have hb1 : b ∈ (n + j) :: L j := by
          rw [List.cons_append, List.tail_cons] at hb
          rcases List.mem_append.1 hb with hb | hb
          · exact List.mem_cons_of_mem _ hb
          · simp at hb; rw [hb]; exact List.mem_cons_self
        rw [upN_other _ _ _ _ (hfar j hj e b hb1 nb hnbL)]
  · by_cases e : j = i
    · subst e
      rw [upL_same, her]
      by_cases ek : a = k
      · subst ek; rw [upI_same]
        exact ⟨fun hm => absurd (List.mem_append.1 hm) (by simp [hkA, hkB]), fun h2 => by omega⟩
      · rw [upI_other _ _ _ _ ek, ← h.on a j ha hj, hAB]; simp [ek]
    · rw [upL_other _ _ _ _ e]
      by_cases ek : a = k
      · subst ek; rw [upI_same]
        exact ⟨fun hm2 => by have := (h.on a j ha hj).1 hm2; omega, fun h2 => by omega⟩
      · rw [upI_other _ _ _ _ ek, ← h.on a j ha hj]
  · by_cases ek : a = k
    · subst ek; rw [upI_same]; omega
    · rw [upI_other _ _ _ _ ek]; exact h.offs a ha
  · by_cases e : j = i
    · subst e
      rw [upL_same] at ha
      exact h.bound j hj a (List.mem_of_mem_erase ha)
    · rw [upL_other _ _ _ _ e] at ha; exact h.bound j hj a ha
  · by_cases e : j = i
    · subst e
      rw [upL_same]; exact hnd.erase k
    · rw [upL_other _ _ _ _ e]; exact h.nodup j hj

end Go.Proofs.YtkkodhjolgcokaaDoor
/-
  Small laws on worlds that have only grown, and on endings. (For a seat without package bits, whose texts have them; no condition.)
-/
namespace Go.Proofs.YtkkodhjolgcokaaDoor
open Go.RowKit Go.Lib

theorem grow_drawC (w : World) (row : Option Nat) (m : Nat) : w.grownBy (w.drewN m) row := ⟨rfl, rfl, rfl, Nat.le_refl _, fun _ _ _ => rfl⟩
theorem grow_onC {W w w' : World} {g : Nat} (h : W.grownBy w none) (k : w.grownBy w' (some g)) (hg : W.heap.size ≤ g) : W.grownBy w' none :=
  ⟨k.os.trans h.os, k.tape.trans h.tape, k.output.trans h.output, Nat.le_trans h.size k.size, fun i hi _ => (k.block i (Nat.lt_of_lt_of_le hi h.size) (by intro e; cases e; omega)).trans (h.block i hi (by simp))⟩
theorem grow_toC {W w w' : World} (h : W.grownBy w none) (k : w.grownBy w' none) : W.grownBy w' none := h.trans k
theorem grow_refl (w : World) : w.grownBy w none := ⟨rfl, rfl, rfl, Nat.le_refl _, fun _ _ _ => rfl⟩
theorem ret_intC {k : IntKind} {a b : Int} (h : a = b) : Ending.returned (.int k a) = .returned (.int k b) := by rw [h]
theorem ret_boolC {a b : Bool} (h : a = b) : Ending.returned (.bool a) = .returned (.bool b) := by rw [h]

end Go.Proofs.YtkkodhjolgcokaaDoor
/-
  Contracts of package chain, over this seat's translation: how lists lie in memory, and what each call answers and leaves.
-/
namespace Go.Proofs.YtkkodhjolgcokaaDoor
open Go.RowKit Go.Lib
set_option maxRecDepth 100000

/-- How lists lie: the struct in block lo + 4; its four slices in the four blocks ahead of it, in whichever order. -/
structure LinksMem (w : World) (lo bn bp bo bl n m : Nat) (N P : Nat → Nat) (O : Nat → Int) (Z : Nat → Nat) : Prop where
  hn : n ≤ 4096
  hm : m ≤ 4096
  c0 : w.cell? ⟨lo + 4, 0, none⟩ = some (.slice (some ⟨bn, 0, none⟩) (n + m) (n + m))
  c1 : w.cell? ⟨lo + 4, 1, none⟩ = some (.slice (some ⟨bp, 0, none⟩) (n + m) (n + m))
  c2 : w.cell? ⟨lo + 4, 2, none⟩ = some (.slice (some ⟨bo, 0, none⟩) n n)
  c3 : w.cell? ⟨lo + 4, 3, none⟩ = some (.slice (some ⟨bl, 0, none⟩) m m)
  cn : ∀ j, j < n + m → w.cell? ⟨bn, j, none⟩ = some (.int .i64 (N j : Nat))
  cp : ∀ j, j < n + m → w.cell? ⟨bp, j, none⟩ = some (.int .i64 (P j : Nat))
  co : ∀ j, j < n → w.cell? ⟨bo, j, none⟩ = some (.int .i64 (O j))
  cl : ∀ j, j < m → w.cell? ⟨bl, j, none⟩ = some (.int .i64 (Z j : Nat))
  fn : ∀ j, j < n + m → w.frozen? ⟨bn, j, none⟩ = false
  fp : ∀ j, j < n + m → w.frozen? ⟨bp, j, none⟩ = false
  fo : ∀ j, j < n → w.frozen? ⟨bo, j, none⟩ = false
  fl : ∀ j, j < m → w.frozen? ⟨bl, j, none⟩ = false
  rn : lo ≤ bn ∧ bn < lo + 4
  rp : lo ≤ bp ∧ bp < lo + 4
  ro : lo ≤ bo ∧ bo < lo + 4
  rl : lo ≤ bl ∧ bl < lo + 4
  dif : bn ≠ bp ∧ bn ≠ bo ∧ bn ≠ bl ∧ bp ≠ bo ∧ bp ≠ bl ∧ bo ≠ bl
  sz : lo + 5 ≤ w.heap.size

variable {w : World} {lo bn bp bo bl n m : Nat} {N P : Nat → Nat} {O : Nat → Int} {Z : Nat → Nat}

theorem LinksMem.kept {w' : World} {l h : Nat} (H : LinksMem w lo bn bp bo bl n m N P O Z) (k : Only l h w w') (hd : lo + 5 ≤ l ∨ h ≤ lo) : LinksMem w' lo bn bp bo bl n m N P O Z := by
  have hz := H.sz
  have r1 := H.rn
  have r2 := H.rp
  have r3 := H.ro
  have r4 := H.rl
  have cc : ∀ b j, lo ≤ b → b < lo + 5 → w'.cell? ⟨b, j, none⟩ = w.cell? ⟨b, j, none⟩ := fun b j h1 h2 => k.cell ⟨b, j, none⟩ (show b < _ by omega) (show b < l ∨ h ≤ b by omega)
  have ff : ∀ b j, lo ≤ b → b < lo + 5 → w'.frozen? ⟨b, j, none⟩ = w.frozen? ⟨b, j, none⟩ := fun b j h1 h2 => k.frozen ⟨b, j, none⟩ (show b < _ by omega) (show b < l ∨ h ≤ b by omega)
  exact ⟨H.hn, H.hm, (cc _ _ (by omega) (by omega)).trans H.c0, (cc _ _ (by omega) (by omega)).trans H.c1, (cc _ _ (by omega) (by omega)).trans H.c2, (cc _ _ (by omega) (by omega)).trans H.c3,
    fun j hj => (cc _ _ (by omega) (by omega)).trans (H.cn j hj), fun j hj => (cc _ _ (by omega) (by omega)).trans (H.cp j hj), fun j hj => (cc _ _ (by omega) (by omega)).trans (H.co j hj), fun j hj => (cc _ _ (by omega) (by omega)).trans (H.cl j hj),
    fun j hj => (ff _ _ (by omega) (by omega)).trans (H.fn j hj), fun j hj => (ff _ _ (by omega) (by omega)).trans (H.fp j hj), fun j hj => (ff _ _ (by omega) (by omega)).trans (H.fo j hj), fun j hj => (ff _ _ (by omega) (by omega)).trans (H.fl j hj),
    r1, r2, r3, r4, H.dif, Nat.le_trans hz k.size⟩

theorem size_setC (w : World) (a : Addr) (v : Value) : (w.setCell a v).heap.size = w.heap.size := by simp [World.setCell]

theorem LinksMem.setN (H : LinksMem w lo bn bp bo bl n m N P O Z) (a c : Nat) (ha : a < n + m) : LinksMem (w.setCell ⟨bn, a, none⟩ (.int .i64 (c : Nat))) lo bn bp bo bl n m (upN N a c) P O Z := by
  obtain ⟨d1, d2, d3, d4, d5, d6⟩ := H.dif
  have r1 := H.rn
  have r2 := H.rp
  have r3 := H.ro
  have r4 := H.rl
  have ot : ∀ b j, b ≠ bn → (w.setCell ⟨bn, a, none⟩ (.int .i64 (c : Nat))).cell? ⟨b, j, none⟩ = w.cell? ⟨b, j, none⟩ := fun b j hb => World.cell?_setCell_other _ _ _ _ (by intro e; cases e; exact hb rfl)
  refine ⟨H.hn, H.hm, (ot _ _ (by omega)).trans H.c0, (ot _ _ (by omega)).trans H.c1, (ot _ _ (by omega)).trans H.c2, (ot _ _ (by omega)).trans H.c3, fun j hj => ?_, fun j hj => (ot _ _ (by omega)).trans (H.cp j hj), fun j hj => (ot _ _ (by omega)).trans (H.co j hj), fun j hj => (ot _ _ (by omega)).trans (H.cl j hj),
    fun j hj => (World.frozen?_setCell ..).trans (H.fn j hj), fun j hj => (World.frozen?_setCell ..).trans (H.fp j hj), fun j hj => (World.frozen?_setCell ..).trans (H.fo j hj), fun j hj => (World.frozen?_setCell ..).trans (H.fl j hj), r1, r2, r3, r4, H.dif, by rw [size_setC]; exact H.sz⟩
  by_cases e : j = a
  · subst e; rw [upN_same]; exact World.cell?_setCell_same _ _ _ (H.cn j hj)
  · rw [upN_other _ _ _ _ e, World.cell?_setCell_other _ _ _ _ (by intro e'; cases e'; exact e rfl)]; exact H.cn j hj

theorem LinksMem.setP (H : LinksMem w lo bn bp bo bl n m N P O Z) (a c : Nat) (ha : a < n + m) : LinksMem (w.setCell ⟨bp, a, none⟩ (.int .i64 (c : Nat))) lo bn bp bo bl n m N (upN P a c) O Z := by
  obtain ⟨d1, d2, d3, d4, d5, d6⟩ := H.dif
  have r1 := H.rn
  have r2 := H.rp
  have r3 := H.ro
  have r4 := H.rl
  have ot : ∀ b j, b ≠ bp → (w.setCell ⟨bp, a, none⟩ (.int .i64 (c : Nat))).cell? ⟨b, j, none⟩ = w.cell? ⟨b, j, none⟩ := fun b j hb => World.cell?_setCell_other _ _ _ _ (by intro e; cases e; exact hb rfl)
  refine ⟨H.hn, H.hm, (ot _ _ (by omega)).trans H.c0, (ot _ _ (by omega)).trans H.c1, (ot _ _ (by omega)).trans H.c2, (ot _ _ (by omega)).trans H.c3, fun j hj => (ot _ _ (by omega)).trans (H.cn j hj), fun j hj => ?_, fun j hj => (ot _ _ (by omega)).trans (H.co j hj), fun j hj => (ot _ _ (by omega)).trans (H.cl j hj),
    fun j hj => (World.frozen?_setCell ..).trans (H.fn j hj), fun j hj => (World.frozen?_setCell ..).trans (H.fp j hj), fun j hj => (World.frozen?_setCell ..).trans (H.fo j hj), fun j hj => (World.frozen?_setCell ..).trans (H.fl j hj), r1, r2, r3, r4, H.dif, by rw [size_setC]; exact H.sz⟩
  by_cases e : j = a
  · subst e; rw [upN_same]; exact World.cell?_setCell_same _ _ _ (H.cp j hj)
  · rw [upN_other _ _ _ _ e, World.cell?_setCell_other _ _ _ _ (by intro e'; cases e'; exact e rfl)]; exact H.cp j hj

theorem LinksMem.setO (H : LinksMem w lo bn bp bo bl n m N P O Z) (a : Nat) (c : Int) (ha : a < n) : LinksMem (w.setCell ⟨bo, a, none⟩ (.int .i64 c)) lo bn bp bo bl n m N P (upI O a c) Z := by
  obtain ⟨d1, d2, d3, d4, d5, d6⟩ := H.dif
  have r1 := H.rn
  have r2 := H.rp
  have r3 := H.ro
  have r4 := H.rl
  have ot : ∀ b j, b ≠ bo → (w.setCell ⟨bo, a, none⟩ (.int .i64 c)).cell? ⟨b, j, none⟩ = w.cell? ⟨b, j, none⟩ := fun b j hb => World.cell?_setCell_other _ _ _ _ (by intro e; cases e; exact hb rfl)
  refine ⟨H.hn, H.hm, (ot _ _ (by omega)).trans H.c0, (ot _ _ (by omega)).trans H.c1, (ot _ _ (by omega)).trans H.c2, (ot _ _ (by omega)).trans H.c3, fun j hj => (ot _ _ (by omega)).trans (H.cn j hj), fun j hj => (ot _ _ (by omega)).trans (H.cp j hj), fun j hj => ?_, fun j hj => (ot _ _ (by omega)).trans (H.cl j hj),
    fun j hj => (World.frozen?_setCell ..).trans (H.fn j hj), fun j hj => (World.frozen?_setCell ..).trans (H.fp j hj), fun j hj => (World.frozen?_setCell ..).trans (H.fo j hj), fun j hj => (World.frozen?_setCell ..).trans (H.fl j hj), r1, r2, r3, r4, H.dif, by rw [size_setC]; exact H.sz⟩
  by_cases e : j = a
  · subst e; rw [upI_same]; exact World.cell?_setCell_same _ _ _ (H.co j hj)
  · rw [upI_other _ _ _ _ e, World.cell?_setCell_other _ _ _ _ (by intro e'; cases e'; exact e rfl)]; exact H.co j hj

theorem LinksMem.setZ (H : LinksMem w lo bn bp bo bl n m N P O Z) (a c : Nat) (ha : a < m) : LinksMem (w.setCell ⟨bl, a, none⟩ (.int .i64 (c : Nat))) lo bn bp bo bl n m N P O (upN Z a c) := by
  obtain ⟨d1, d2, d3, d4, d5, d6⟩ := H.dif
  have r1 := H.rn
  have r2 := H.rp
  have r3 := H.ro
  have r4 := H.rl
  have ot : ∀ b j, b ≠ bl → (w.setCell ⟨bl, a, none⟩ (.int .i64 (c : Nat))).cell? ⟨b, j, none⟩ = w.cell? ⟨b, j, none⟩ := fun b j hb => World.cell?_setCell_other _ _ _ _ (by intro e; cases e; exact hb rfl)
  refine ⟨H.hn, H.hm, (ot _ _ (by omega)).trans H.c0, (ot _ _ (by omega)).trans H.c1, (ot _ _ (by omega)).trans H.c2, (ot _ _ (by omega)).trans H.c3, fun j hj => (ot _ _ (by omega)).trans (H.cn j hj), fun j hj => (ot _ _ (by omega)).trans (H.cp j hj), fun j hj => (ot _ _ (by omega)).trans (H.co j hj), fun j hj => ?_,
    fun j hj => (World.frozen?_setCell ..).trans (H.fn j hj), fun j hj => (World.frozen?_setCell ..).trans (H.fp j hj), fun j hj => (World.frozen?_setCell ..).trans (H.fo j hj), fun j hj => (World.frozen?_setCell ..).trans (H.fl j hj), r1, r2, r3, r4, H.dif, by rw [size_setC]; exact H.sz⟩
  by_cases e : j = a
  · subst e; rw [upN_same]; exact World.cell?_setCell_same _ _ _ (H.cl j hj)
  · rw [upN_other _ _ _ _ e, World.cell?_setCell_other _ _ _ _ (by intro e'; cases e'; exact e rfl)]; exact H.cl j hj

theorem LinksMem.drew (H : LinksMem w lo bn bp bo bl n m N P O Z) : LinksMem w.drew lo bn bp bo bl n m N P O Z := H.kept (Only.drew 0 0 w) (Or.inr (by omega))
theorem LinksMem.drewN (H : LinksMem w lo bn bp bo bl n m N P O Z) (k : Nat) : LinksMem (w.drewN k) lo bn bp bo bl n m N P O Z := H.kept (Only.drewN 0 0 w k) (Or.inr (by omega))

set_option maxHeartbeats 400000 in
theorem clamp_anyC (n lo hi : Int) (w : World) :
    Calls Tryd.prog 58 #[.int .i64 n, .int .i64 lo, .int .i64 hi] w fun e w' => e = .returned (.int .i64 (max lo (min n hi))) ∧ w = w' := by
  go_enter Tryd.func58, Tryd.ntmps58
  go_wp2
  all_goals
    go_ret
    exact ⟨ret_intC (by omega), rfl⟩

/-- Is a number one of the first n? -/
def isIn (k : Int) (n : Nat) : Bool := decide (0 ≤ k ∧ k < (n : Int))
theorem isIn_yes {k : Nat} {n : Nat} (h : k < n) : isIn (k : Int) n = true := by simp [isIn, h]
theorem isIn_no {k : Int} {n : Nat} (h : k < 0 ∨ (n : Int) ≤ k) : isIn k n = false := by simp [isIn]; omega

theorem isNumber_any (k : Int) (H : LinksMem w lo bn bp bo bl n m N P O Z) :
    Calls Tryd.prog 64 #[.pointer (some ⟨lo + 4, 0, none⟩), .int .i64 k] w fun e w' => e = .returned (.bool (isIn k n)) ∧ w = w' := by
  have h2 := H.c2
  clear H
  by_cases h0 : k < 0
  · have hr := isIn_no (k := k) (n := n) (Or.inl h0)
    rw [hr]
    clear hr
    go_enter Tryd.func64, Tryd.ntmps64
    go_wp2
    go_ret
    exact ⟨rfl, rfl⟩
  · have h0' : 0 ≤ k := by omega
    by_cases h1 : k < (n : Int)
    · have hr : isIn k n = true := by simp [isIn, h0', h1]
      rw [hr]
      clear hr h0
      go_enter Tryd.func64, Tryd.ntmps64
      go_wp2
      go_ret
      exact ⟨rfl, rfl⟩
    · have hr : isIn k n = false := isIn_no (Or.inr (by omega))
      rw [hr]
      clear hr h0
      go_enter Tryd.func64, Tryd.ntmps64
      go_wp2
      go_ret
      exact ⟨rfl, rfl⟩

theorem isList_any (k : Int) (H : LinksMem w lo bn bp bo bl n m N P O Z) :
    Calls Tryd.prog 67 #[.pointer (some ⟨lo + 4, 0, none⟩), .int .i64 k] w fun e w' => e = .returned (.bool (isIn k m)) ∧ w = w' := by
  have h2 := H.c3
  clear H
  by_cases h0 : k < 0
  · have hr := isIn_no (k := k) (n := m) (Or.inl h0)
    rw [hr]
    clear hr
    go_enter Tryd.func67, Tryd.ntmps67
    go_wp2
    go_ret
    exact ⟨rfl, rfl⟩
  · have h0' : 0 ≤ k := by omega
    by_cases h1 : k < (m : Int)
    · have hr : isIn k m = true := by simp [isIn, h0', h1]
      rw [hr]
      clear hr h0
      go_enter Tryd.func67, Tryd.ntmps67
      go_wp2
      go_ret
      exact ⟨rfl, rfl⟩
    · have hr : isIn k m = false := isIn_no (Or.inr (by omega))
      rw [hr]
      clear hr h0
      go_enter Tryd.func67, Tryd.ntmps67
      go_wp2
      go_ret
      exact ⟨rfl, rfl⟩

theorem knot_any (i : Nat) (H : LinksMem w lo bn bp bo bl n m N P O Z) (hi : i < m) :
    Calls Tryd.prog 68 #[.pointer (some ⟨lo + 4, 0, none⟩), .int .i64 i] w fun e w' => e = .returned (.int .i64 ((n + i : Nat) : Int)) ∧ w = w' := by
  have h2 := H.c2
  have h3 := H.hn
  have h4 := H.hm
  clear H
  go_enter Tryd.func68, Tryd.ntmps68
  go_wp2
  go_ret
  exact ⟨ret_intC (by simp), rfl⟩

theorem join_any (a c : Nat) (H : LinksMem w lo bn bp bo bl n m N P O Z) (ha : a < n + m) (hc : c < n + m) :
    Calls Tryd.prog 65 #[.pointer (some ⟨lo + 4, 0, none⟩), .int .i64 a, .int .i64 c] w fun e w' => e = .returned (.tuple #[]) ∧ Only lo (lo + 5) w w' ∧ LinksMem w' lo bn bp bo bl n m (upN N a c) (upN P c a) O Z := by
  have h0 := H.c0
  have h2 := H.cn a ha
  have h3 := H.fn a ha
  have h4 := H.hn
  have h5 := H.hm
  have H1 := H.setN a c ha
  have k1 := H1.c1
  have k2 := H1.cp c hc
  have k3 := H1.fp c hc
  have H2 := Lib.hid (H1.setP c a hc)
  have r1 := Lib.hid (Only.set (lo := lo) (hi := lo + 5) w ⟨bn, a, none⟩ (.int .i64 (c : Nat)) H.rn.1 (by have := H.rn.2; simp; omega))
  have r2 := Lib.hid (Only.set (lo := lo) (hi := lo + 5) (w.setCell ⟨bn, a, none⟩ (.int .i64 (c : Nat))) ⟨bp, c, none⟩ (.int .i64 (a : Nat)) H.rp.1 (by have := H.rp.2; simp; omega))
  clear H H1
  have e1 : (a : Int) < (n : Int) + m := by omega
  have e2 : (c : Int) < (n : Int) + m := by omega
  go_enter Tryd.func65, Tryd.ntmps65
  go_wp2
  go_end0
  exact ⟨rfl, r1.out.trans r2.out, H2.out⟩

end Go.Proofs.YtkkodhjolgcokaaDoor
/-
  Contracts of package chain, over this seat's translation, told by the lists alone: On, Push, Pull, First, Len, All, Numbers, Lists.
-/
namespace Go.Proofs.YtkkodhjolgcokaaDoor
open Go.RowKit Go.Lib
set_option maxRecDepth 100000

/-- Lists in memory: n numbers, m lists, the numbers on each. -/
def LinksAt (w : World) (lo n m : Nat) (L : Nat → List Nat) : Prop :=
  ∃ bn bp bo bl N P O, LinksMem w lo bn bp bo bl n m N P O (fun i => (L i).length) ∧ Good n m N P O L

theorem LinksAt.kept {w w' : World} {lo n m l h : Nat} {L : Nat → List Nat} (H : LinksAt w lo n m L) (k : Only l h w w') (hd : lo + 5 ≤ l ∨ h ≤ lo) : LinksAt w' lo n m L := by
  obtain ⟨bn, bp, bo, bl, N, P, O, H1, H2⟩ := H
  exact ⟨bn, bp, bo, bl, N, P, O, H1.kept k hd, H2⟩
theorem LinksAt.sz {w : World} {lo n m : Nat} {L : Nat → List Nat} (H : LinksAt w lo n m L) : lo + 5 ≤ w.heap.size := by
  obtain ⟨bn, bp, bo, bl, N, P, O, H1, H2⟩ := H
  exact H1.sz
theorem LinksAt.hn {w : World} {lo n m : Nat} {L : Nat → List Nat} (H : LinksAt w lo n m L) : n ≤ 4096 ∧ m ≤ 4096 := by
  obtain ⟨bn, bp, bo, bl, N, P, O, H1, H2⟩ := H
  exact ⟨H1.hn, H1.hm⟩
theorem LinksAt.bound {w : World} {lo n m : Nat} {L : Nat → List Nat} (H : LinksAt w lo n m L) : ∀ i, i < m → ∀ k ∈ L i, k < n := by
  obtain ⟨bn, bp, bo, bl, N, P, O, H1, H2⟩ := H
  exact H2.bound
theorem LinksAt.nodup {w : World} {lo n m : Nat} {L : Nat → List Nat} (H : LinksAt w lo n m L) : ∀ i, i < m → (L i).Nodup := by
  obtain ⟨bn, bp, bo, bl, N, P, O, H1, H2⟩ := H
  exact H2.nodup
theorem LinksAt.once {w : World} {lo n m : Nat} {L : Nat → List Nat} (H : LinksAt w lo n m L) (i j k : Nat) (hi : i < m) (hj : j < m) (h1 : k ∈ L i) (h2 : k ∈ L j) : i = j := by
  obtain ⟨bn, bp, bo, bl, N, P, O, H1, H2⟩ := H
  have a := (H2.on k i (H2.bound i hi k h1) hi).1 h1
  have b := (H2.on k j (H2.bound i hi k h1) hj).1 h2
  omega

theorem few_of_nodup : ∀ (n : Nat) (l : List Nat), l.Nodup → (∀ x ∈ l, x < n) → l.length ≤ n
  | 0, l, _, h => by
    cases l with
    | nil => simp
    | cons a l => exact absurd (h a (by simp)) (by omega)
  | n + 1, l, hd, h => by
    by_cases hm : n ∈ l
    · have := few_of_nodup n (l.erase n) (hd.erase n) (fun x hx => by
        have h1 := h x (List.mem_of_mem_erase hx)
        have h2 : x ≠ n := fun e => by
          subst e
          exact (List.Nodup.mem_erase_iff hd).1 hx |>.1 rfl
        omega)
      rw [List.length_erase_of_mem hm] at this
      omega
    · have := few_of_nodup n l hd (fun x hx => by
        have h1 := h x hx
        have h2 : x ≠ n := fun e => hm (e ▸ hx)
        omega)
      omega

theorem LinksAt.few {w : World} {lo n m : Nat} {L : Nat → List Nat} (H : LinksAt w lo n m L) (i : Nat) (hi : i < m) : (L i).length ≤ n :=
  few_of_nodup n (L i) (H.nodup i hi) (H.bound i hi)

section
variable {w : World} {lo n m : Nat} {L : Nat → List Nat}

theorem numbers_any (H : LinksAt w lo n m L) : Calls Tryd.prog 60 #[.pointer (some ⟨lo + 4, 0, none⟩)] w fun e w' => e = .returned (.int .i64 (n : Int)) ∧ w = w' := by
  obtain ⟨bn, bp, bo, bl, N, P, O, H1, H2⟩ := H
  have h2 := H1.c2
  clear H1 H2
  go_enter Tryd.func60, Tryd.ntmps60
  go_wp2
  go_ret
  exact ⟨rfl, rfl⟩
set_option maxHeartbeats 400000 in
theorem on_some (k i : Nat) (H : LinksAt w lo n m L) (hi : i < m) (hk : k ∈ L i) :
    Calls Tryd.prog 40 #[.pointer (some ⟨lo + 4, 0, none⟩), .int .i64 k] w fun e w' => e = .returned (.tuple #[.int .i64 i, .bool true]) ∧ w = w' := by
  obtain ⟨bn, bp, bo, bl, N, P, O, H1, H2⟩ := H
  have hkn := H2.bound i hi k hk
  have hO := (H2.on k i hkn hi).1 hk
  have c := isNumber_any k H1
  rw [isIn_yes hkn] at c
  have C := Lib.hid c
  have h2 := H1.c2
  have h3 := H1.co k hkn
  have h4 := H1.hn
  rw [hO] at h3
  have hne : ((i : Int) == -1) = false := by rw [beq_eq_false_iff_ne]; omega
  clear H1 H2 c hO hk
  go_enter Tryd.func40, Tryd.ntmps40
  go_wp2_with fail
  refine (C.out).mono ?_
  rintro e w' ⟨rfl, rfl⟩
  go_wp2
  go_ret2
  exact ⟨rfl, rfl⟩

set_option maxHeartbeats 400000 in
theorem on_none (k : Int) (H : LinksAt w lo n m L) (hk : ∀ i, i < m → ∀ x ∈ L i, (x : Int) ≠ k) :
    Calls Tryd.prog 40 #[.pointer (some ⟨lo + 4, 0, none⟩), .int .i64 k] w fun e w' => e = .returned (.tuple #[.int .i64 0, .bool false]) ∧ w = w' := by
  obtain ⟨bn, bp, bo, bl, N, P, O, H1, H2⟩ := H
  by_cases hin : 0 ≤ k ∧ k < n
  · obtain ⟨k, rfl⟩ := Int.eq_ofNat_of_zero_le hin.1
    have hkn : k < n := by omega
    have hO : O k = -1 := by
      rcases H2.offs k hkn with h | ⟨h1, h2⟩
      · exact h
      · obtain ⟨i, hi⟩ := Int.eq_ofNat_of_zero_le h1
        have him : i < m := by omega
        exact absurd rfl (hk i him k ((H2.on k i hkn him).2 hi))
    have c := isNumber_any k H1
    rw [isIn_yes hkn] at c
    have C := Lib.hid c
    have h2 := H1.c2
    have h3 := H1.co k hkn
    have h4 := H1.hn
    rw [hO] at h3
    clear H1 H2 c hO hk hin
    go_enter Tryd.func40, Tryd.ntmps40
    go_wp2_with fail
    refine (C.out).mono ?_
    rintro e w' ⟨rfl, rfl⟩
    go_wp2
    go_ret2
    exact ⟨rfl, rfl⟩
  · have c := isNumber_any k H1
    rw [isIn_no (by omega)] at c
    have C := Lib.hid c
    clear H1 H2 c hk hin
    go_enter Tryd.func40, Tryd.ntmps40
    go_wp2_with fail
    refine (C.out).mono ?_
    rintro e w' ⟨rfl, rfl⟩
    go_wp2
    go_ret2
    exact ⟨rfl, rfl⟩

end
end Go.Proofs.YtkkodhjolgcokaaDoor
/-
  Contracts of package chain, over this seat's translation, told by the lists alone: Push, Pull, All.
-/
namespace Go.Proofs.YtkkodhjolgcokaaDoor
open Go.RowKit Go.Lib
set_option maxRecDepth 100000

section
variable {w : World} {lo n m : Nat} {L : Nat → List Nat}

set_option maxHeartbeats 1000000 in
theorem push_ok (i k : Nat) (H : LinksAt w lo n m L) (hi : i < m) (hk : k < n) (ho : ∀ j, j < m → k ∉ L j) :
    Calls Tryd.prog 43 #[.pointer (some ⟨lo + 4, 0, none⟩), .int .i64 i, .int .i64 k] w fun e w' => e = .returned (.bool true) ∧ Only lo (lo + 5) w w' ∧ LinksAt w' lo n m (upL L i (L i ++ [k])) := by
  have hfew := H.few i hi
  obtain ⟨bn, bp, bo, bl, N, P, O, H1, H2⟩ := H
  have hO : O k = -1 := by
    rcases H2.offs k hk with h | ⟨h1, h2⟩
    · exact h
    · obtain ⟨j, hj⟩ := Int.eq_ofNat_of_zero_le h1
      have hjm : j < m := by omega
      exact absurd ((H2.on k j hk hjm).2 hj) (ho j hjm)
  have HG := Lib.hid (good_push H2 i k hi hk hO)
  obtain ⟨hP, hla⟩ := good_last H2 i hi
  generalize lastOf n i (L i) = la at *
  have c1 := isList_any i H1
  rw [isIn_yes hi] at c1
  have c2 := isNumber_any k H1
  rw [isIn_yes hk] at c2
  have C1 := Lib.hid c1
  have C2 := Lib.hid c2
  have C3 := Lib.hid (knot_any i H1 hi)
  have C4 := Lib.hid (join_any la k H1 hla (by omega))
  have h2 := H1.c2
  have h3 := H1.co k hk
  rw [hO] at h3
  have h4 := H1.hn
  have h5 := H1.hm
  have h6 := H1.c1
  have h7 := H1.cp (n + i) (by omega)
  rw [hP] at h7
  clear H1 H2 c1 c2 hO hP ho
  go_enter Tryd.func43, Tryd.ntmps43
  go_wp2_with fail
  refine (C1.out).mono ?_
  rintro e w' ⟨rfl, rfl⟩
  go_wp2_with fail
  refine (C2.out).mono ?_
  rintro e w' ⟨rfl, rfl⟩
  go_wp2_with fail
  refine (C3.out).mono ?_
  rintro e w' ⟨rfl, rfl⟩
  have hx : ((n + i : Nat) : Int) < ((n + m : Nat) : Int) := by omega
  go_wp2_with fail
  refine C4.out.mono ?_
  rintro e w1 ⟨rfl, k1, M1⟩
  clear h2 h3 h6 h7 C1 C2 C3 C4
  have C5 := Lib.hid (join_any k (n + i) M1 (by omega) (by omega))
  clear M1
  go_wp2_with fail
  refine C5.out.mono ?_
  rintro e w2 ⟨rfl, k2, M2⟩
  clear C5
  have g2 := M2.c2
  have g3 := M2.co k hk
  have g4 := M2.fo k hk
  have M3 := M2.setO k i hk
  have g5 := M3.c3
  have g6 := M3.cl i hi
  have g7 := M3.fl i hi
  have M4 := Lib.hid (M3.setZ i ((L i).length + 1) hi)
  have K3 := Lib.hid (Only.set (lo := lo) (hi := lo + 5) w2 ⟨bo, k, none⟩ (.int .i64 (i : Nat)) M2.ro.1 (by have := M2.ro.2; simp; omega))
  have K4 := Lib.hid (Only.set (lo := lo) (hi := lo + 5) (w2.setCell ⟨bo, k, none⟩ (.int .i64 (i : Nat))) ⟨bl, i, none⟩ (.int .i64 ((L i).length + 1 : Nat)) M2.rl.1 (by have := M2.rl.2; simp; omega))
  have HL := Lib.hid (show (fun j => (upL L i (L i ++ [k]) j).length) = upN (fun i => (L i).length) i ((L i).length + 1) from by
    funext j
    by_cases e : j = i
    · subst e; rw [upL_same, upN_same]; simp
    · rw [upL_other _ _ _ _ e, upN_other _ _ _ _ e])
  have K2 := Lib.hid (k1.trans k2)
  clear M2 M3 k1 k2
  generalize hz : (L i).length = z at *
  have HZ := Lib.hid hz
  clear hz
  go_wp2
  go_ret
  refine ⟨rfl, (K2.out.trans K3.out).trans K4.out, bn, bp, bo, bl, _, _, _, ?_, HG.out⟩
  rw [HL.out]
  exact M4.out

set_option maxHeartbeats 1000000 in
theorem push_no (i k : Int) (H : LinksAt w lo n m L) (h : (i < 0 ∨ (m : Int) ≤ i) ∨ (k < 0 ∨ (n : Int) ≤ k) ∨ ∃ j, j < m ∧ k.toNat ∈ L j) :
    Calls Tryd.prog 43 #[.pointer (some ⟨lo + 4, 0, none⟩), .int .i64 i, .int .i64 k] w fun e w' => e = .returned (.bool false) ∧ w = w' := by
  obtain ⟨bn, bp, bo, bl, N, P, O, H1, H2⟩ := H
  by_cases hi : i < 0 ∨ (m : Int) ≤ i
  · have c1 := isList_any i H1
    rw [isIn_no hi] at c1
    have C1 := Lib.hid c1
    clear H1 H2 h hi c1
    go_enter Tryd.func43, Tryd.ntmps43
    go_wp2_with fail
    refine (C1.out).mono ?_
    rintro e w' ⟨rfl, rfl⟩
    go_wp2
    go_ret
    exact ⟨rfl, rfl⟩
  · obtain ⟨i, rfl⟩ := Int.eq_ofNat_of_zero_le (show 0 ≤ i by omega)
    have him : i < m := by omega
    have c1 := isList_any i H1
    rw [isIn_yes him] at c1
    have C1 := Lib.hid c1
    by_cases hk : k < 0 ∨ (n : Int) ≤ k
    · have c2 := isNumber_any k H1
      rw [isIn_no hk] at c2
      have C2 := Lib.hid c2
      clear H1 H2 h hi c1 c2 hk
      go_enter Tryd.func43, Tryd.ntmps43
      go_wp2_with fail
      refine (C1.out).mono ?_
      rintro e w' ⟨rfl, rfl⟩
      go_wp2_with fail
      refine (C2.out).mono ?_
      rintro e w' ⟨rfl, rfl⟩
      go_wp2
      go_ret
      exact ⟨rfl, rfl⟩
    · obtain ⟨k, rfl⟩ := Int.eq_ofNat_of_zero_le (show 0 ≤ k by omega)
      have hkn : k < n := by omega
      have c2 := isNumber_any k H1
      rw [isIn_yes hkn] at c2
      have C2 := Lib.hid c2
      obtain ⟨j, hj, hmem⟩ : ∃ j, j < m ∧ k ∈ L j := by
        rcases h with h | h | h
        · exact absurd h hi
        · exact absurd h hk
        · simpa using h
      have hO := (H2.on k j hkn hj).1 hmem
      have h2 := H1.c2
      have h3 := H1.co k hkn
      rw [hO] at h3
      have h4 := H1.hn
      have hne : ((j : Int) != -1) = true := by rw [bne_iff_ne]; omega
      clear H1 H2 h hi c1 c2 hk hmem hO
      go_enter Tryd.func43, Tryd.ntmps43
      go_wp2_with fail
      refine (C1.out).mono ?_
      rintro e w' ⟨rfl, rfl⟩
      go_wp2_with fail
      refine (C2.out).mono ?_
      rintro e w' ⟨rfl, rfl⟩
      go_wp2
      go_ret
      exact ⟨rfl, rfl⟩

theorem pull_no (k : Int) (H : LinksAt w lo n m L) (hk : ∀ i, i < m → ∀ x ∈ L i, (x : Int) ≠ k) :
    Calls Tryd.prog 41 #[.pointer (some ⟨lo + 4, 0, none⟩), .int .i64 k] w fun e w' => e = .returned (.bool false) ∧ w = w' := by
  have C := Lib.hid (on_none k H hk)
  clear H hk
  go_enter Tryd.func41, Tryd.ntmps41
  go_wp2_with fail
  refine (C.out).mono ?_
  rintro e w' ⟨rfl, rfl⟩
  go_wp2
  go_ret
  exact ⟨rfl, rfl⟩

set_option maxHeartbeats 1000000 in
theorem pull_ok (k i : Nat) (H : LinksAt w lo n m L) (hi : i < m) (hk : k ∈ L i) :
    Calls Tryd.prog 41 #[.pointer (some ⟨lo + 4, 0, none⟩), .int .i64 k] w fun e w' => e = .returned (.bool true) ∧ Only lo (lo + 5) w w' ∧ LinksAt w' lo n m (upL L i ((L i).erase k)) := by
  have hfew := H.few i hi
  have C := Lib.hid (on_some k i H hi hk)
  obtain ⟨bn, bp, bo, bl, N, P, O, H1, H2⟩ := H
  have hkn := H2.bound i hi k hk
  obtain ⟨hp, hq, hg⟩ := good_pull H2 i k hi hkn ((H2.on k i hkn hi).1 hk)
  have HG := Lib.hid hg
  have HL := Lib.hid (show (fun j => (upL L i ((L i).erase k) j).length) = upN (fun i => (L i).length) i ((L i).length - 1) from by
    funext j
    by_cases e : j = i
    · subst e; rw [upL_same, upN_same, List.length_erase_of_mem hk]
    · rw [upL_other _ _ _ _ e, upN_other _ _ _ _ e])
  have hz1 : 0 < (L i).length := List.length_pos_of_mem hk
  have HM := Lib.hid H1.drew
  clear H2 hk hg H1
  go_enter Tryd.func41, Tryd.ntmps41
  go_wp2_with fail
  refine (C.out).mono ?_
  rintro e w' ⟨rfl, rfl⟩
  go_wp2_with fail
  refine wp_region_still_tail 15 (by kernel_rfl) (by kernel_rfl) ?_
  simp only [List.take_succ_cons, List.take_zero, List.drop_succ_cons, List.drop_zero]
  change wpStill _ _ w.drew (fun a' => wpList _ _ _ _ a' w.drew) _ _
  have hg2 : Only lo (lo + 5) w w.drew := Only.drew _ _ w
  have M0 := HM.out
  generalize w.drew = w2 at M0 hg2 ⊢
  clear HM C
  have h0 := M0.c0
  have h1 := M0.c1
  have h2 := M0.cn k (by omega)
  have h3 := M0.cp k (by omega)
  have h4 := M0.hn
  have h5 := M0.hm
  have hx : (k : Int) < (n : Int) + (m : Int) := by omega
  have hx0 : 0 ≤ (k : Int) := by omega
  have hx1 : (k : Int) < ((n + m : Nat) : Int) := by omega
  have C4 := Lib.hid (join_any (P k) (N k) M0 hp hq)
  clear M0
  generalize hPk : P k = pk at *
  generalize hNk : N k = nk at *
  repeat still_step
  refine wpStill_nil ?_
  go_wp2_with fail
  refine C4.out.mono ?_
  rintro e w3 ⟨rfl, k1, M2⟩
  clear h0 h1 h2 h3 C4 hPk hNk
  have g2 := M2.c2
  have g3 := M2.co k hkn
  have g4 := M2.fo k hkn
  have M3 := M2.setO k (-1) hkn
  have g5 := M3.c3
  have g6 := M3.cl i hi
  have g7 := M3.fl i hi
  have M4 := Lib.hid (M3.setZ i ((L i).length - 1) hi)
  have K3 := Lib.hid (Only.set (lo := lo) (hi := lo + 5) w3 ⟨bo, k, none⟩ (.int .i64 (-1)) M2.ro.1 (by have := M2.ro.2; simp; omega))
  have K4 := Lib.hid (Only.set (lo := lo) (hi := lo + 5) (w3.setCell ⟨bo, k, none⟩ (.int .i64 (-1))) ⟨bl, i, none⟩ (.int .i64 ((L i).length - 1 : Nat)) M2.rl.1 (by have := M2.rl.2; simp; omega))
  have K2 := Lib.hid (hg2.trans k1)
  clear M2 M3 k1 hg2
  generalize (L i).length = z at *
  obtain ⟨z, rfl⟩ : ∃ y, z = y + 1 := ⟨z - 1, by omega⟩
  have e1 : ((z + 1 : Nat) : Int) - 1 = (z : Int) := by omega
  simp only [Nat.add_sub_cancel] at M4 K4 HL
  go_wp2
  go_ret
  refine ⟨rfl, (K2.out.trans K3.out).trans K4.out, bn, bp, bo, bl, _, _, _, ?_, HG.out⟩
  rw [HL.out]
  exact M4.out

end
end Go.Proofs.YtkkodhjolgcokaaDoor
/-
  Contracts of package chain, over this seat's translation: All and New.
-/
namespace Go.Proofs.YtkkodhjolgcokaaDoor
open Go.RowKit Go.Lib
set_option maxRecDepth 100000

/-- What stands at the j-th place behind a list's knot: a number, or the knot again. -/
def ringAt (n i : Nat) (l : List Nat) (j : Nat) : Nat := if h : j < l.length then l[j] else n + i
theorem ringAt_in (n i : Nat) (l : List Nat) (j : Nat) (h : j < l.length) : ringAt n i l j = l[j] := by simp [ringAt, h]
theorem ringAt_end (n i : Nat) (l : List Nat) : ringAt n i l l.length = n + i := by simp [ringAt]
theorem ringAt_get (n i : Nat) (l : List Nat) (j : Nat) (h : j ≤ l.length) : ((n + i) :: l ++ [n + i])[j + 1]'(by simp; omega) = ringAt n i l j := by
  by_cases hj : j < l.length
  · rw [ringAt_in _ _ _ _ hj]; simp [hj]
  · have : j = l.length := by omega
    subst this
    rw [ringAt_end]; simp

section
variable {w : World} {lo n m : Nat} {L : Nat → List Nat}

theorem all_out (i : Int) (H : LinksAt w lo n m L) (hi : i < 0 ∨ (m : Int) ≤ i) :
    Calls Tryd.prog 47 #[.pointer (some ⟨lo + 4, 0, none⟩), .int .i64 i] w fun e w' => e = .returned (.slice none 0 0) ∧ w = w' := by
  obtain ⟨bn, bp, bo, bl, N, P, O, H1, H2⟩ := H
  have c := isList_any i H1
  rw [isIn_no hi] at c
  have C := Lib.hid c
  clear H1 H2 c hi
  go_enter Tryd.func47, Tryd.ntmps47
  go_wp2_with fail
  refine (C.out).mono ?_
  rintro e w' ⟨rfl, rfl⟩
  go_wp2
  go_ret
  exact ⟨rfl, rfl⟩

set_option maxHeartbeats 2000000 in
theorem all_in (i : Nat) (H : LinksAt w lo n m L) (hi : i < m) :
    Calls Tryd.prog 47 #[.pointer (some ⟨lo + 4, 0, none⟩), .int .i64 i] w fun e w' => ∃ r cp, e = .returned (.slice (some ⟨r, 0, none⟩) (L i).length cp) ∧ w.grownBy w' none ∧ RowOf w' w.heap.size r cp (L i) := by
  have hfew := H.few i hi
  obtain ⟨bn, bp, bo, bl, N, P, O, H1, H2⟩ := H
  have c := isList_any i H1
  rw [isIn_yes hi] at c
  have C := Lib.hid c
  have hring := H2.ring i hi
  have hN0 : N (n + i) = ringAt n i (L i) 0 := by
    have h := (linked_at 0 (by simp) hring).1
    rw [ringAt_get n i (L i) 0 (by omega)] at h
    exact h
  have hNj : Hid (∀ j, j < (L i).length → N (ringAt n i (L i) j) = ringAt n i (L i) (j + 1)) := Lib.hid fun j hj => by
    have h := (linked_at (j + 1) (by simp; omega) hring).1
    rw [ringAt_get n i (L i) (j + 1) (by omega), ringAt_get n i (L i) j (by omega)] at h
    exact h
  have hlt : Hid (∀ j, j < (L i).length → ringAt n i (L i) j < n) := Lib.hid fun j hj => by
    rw [ringAt_in _ _ _ _ hj]; exact H2.bound i hi _ (List.getElem_mem hj)
  have hend := Lib.hid (ringAt_end n i (L i))
  have htk : Hid (∀ j, j < (L i).length → (L i).take (j + 1) = (L i).take j ++ [ringAt n i (L i) j]) := Lib.hid fun j hj => by
    rw [ringAt_in _ _ _ _ hj, List.take_succ_eq_append_getElem hj]
  have HCELL : Hid (∀ wr : World, w.grownBy wr none → wr.cell? ⟨lo + 4, 0, none⟩ = some (.slice (some ⟨bn, 0, none⟩) (n + m) (n + m)) ∧ ∀ j, j < n + m → wr.cell? ⟨bn, j, none⟩ = some (.int .i64 (N j : Nat))) := Lib.hid fun wr hg =>
    have K := H1.kept (Only.of_none (lo := 0) (hi := 0) hg) (Or.inr (by omega))
    ⟨K.c0, K.cn⟩
  have h3 := H1.c3
  have h4 := H1.cl i hi
  have hn4 := H1.hn
  have hm4 := H1.hm
  have hmk : ∀ W : World, (Instr.makeSlice 30 (.int .i64 0) (.int .i64 ((L i).length : Nat))).run Tryd.prog W = _ := fun W => make_ints 0 (L i).length (by omega) (by omega) W
  have k0 := World.grownBy_alloc w (.cells (madeCells #[.int .i64 0] (L i).length) 3) none
  have hR0 := make_room w w.heap.size (L i).length (Nat.le_refl _) (by omega)
  have KN := Lib.hid (knot_any i (H1.kept (Only.of_none (lo := 0) (hi := 0) k0) (Or.inr (by omega))) hi)
  obtain ⟨d0, d1⟩ := HCELL.out _ k0
  have d2 := d1 (n + i) (by omega)
  rw [hN0] at d2
  clear d1 H1 H2 c hring hN0
  obtain ⟨i0, hi0, hz0, hz1, hz2⟩ := int_info
  have I0 := Lib.hid hi0
  have I1 := Lib.hid hz0
  have I2 := Lib.hid hz1
  have I3 := Lib.hid hz2
  clear hi0 hz0 hz1 hz2
  go_enter Tryd.func47, Tryd.ntmps47
  go_wp2_with fail
  refine (C.out).mono ?_
  rintro e w' ⟨rfl, rfl⟩
  go_wp2_with fail
  refine (KN.out).mono ?_
  rintro e w' ⟨rfl, rfl⟩
  have hx : ((n + i : Nat) : Int) < ((n + m : Nat) : Int) := by omega
  obtain ⟨B, hB⟩ : ∃ B, B = w.heap.size := ⟨_, rfl⟩
  have HB := Lib.hid hB
  rw [← hB] at hR0 ⊢
  have hle : B ≤ (w.alloc (.cells (madeCells #[.int .i64 0] (L i).length) 3)).heap.size := by rw [hB]; exact k0.size
  go_wp2
  clear h3 h4 hB hmk
  generalize w.alloc (.cells (madeCells #[.int .i64 0] (L i).length) 3) = w1 at hR0 k0 d0 d2 hle ⊢
  go_loopw [5, 7] (fun av kv wr => ∃ j r cp : Nat, j ≤ (L i).length ∧ kv = .int .i64 (ringAt n i (L i) j : Nat) ∧ av = .slice (some ⟨r, 0, none⟩) j cp ∧ RowOf wr B r cp ((L i).take j) ∧ w.grownBy wr none ∧ B ≤ wr.heap.size)
    (fun av _ _ => (L i).length - (match av with | .slice _ k _ => k | _ => 0))
  case atStart => exact ⟨0, B, (L i).length, Nat.zero_le _, rfl, by rw [HB.out], hR0, k0, hle⟩
  case round =>
    obtain ⟨j, r, cp, hj, rfl, rfl, hown, hG, hBr⟩ := hrel
    clear hR0 k0 d0 d2 hle
    by_cases hlt2 : j < (L i).length
    · have hk := hlt.out j hlt2
      have hnx := hNj.out j hlt2
      have htk2 := htk.out j hlt2
      generalize ringAt n i (L i) j = k at *
      generalize hnk : ringAt n i (L i) (j + 1) = nk at *
      have hne : ((k : Int) != ((n + i : Nat) : Int)) = true := by rw [bne_iff_ne]; omega
      have hlen : ((L i).take j).length = j := by simp; omega
      have hrr := hown.lt
      unfold RowOf at hown
      rw [hlen] at hown
      go_wp2_with (
      at_builtin
      refine wpList_append_own_at _ rfl _ _ 30 rfl B 3 i0 (.int .i64 0) 1 8 Tryd.underlying30 I0.out I1.out I2.out I3.out rfl (by decide) _ _ _ rfl (World.ownsRow.alloc hown _) ⟨wr.heap.size, 0, none⟩ 1 1 [.int .i64 (k : Int)] rfl rfl (cell_one_new _ _ _) (fun x hx => by simp at hx; subst hx; rfl) (by unfold maxLen; omega) (by omega) (by simp; omega) ?_
      intro v' w5 hown' hgrow3 hnil3 hat0
      have hgr : (wr.alloc (.cells #[.int .i64 (k : Int)] 3)).grownBy w5 (some r) := hgrow3
      have hnn : v' ≠ .slice none 0 0 := fun h => absurd (hnil3.1 h).2 (by decide)
      have k4 := World.grownBy_alloc wr (.cells #[.int .i64 (k : Int)] 3) none
      have hat1 : v'.ownBlock = some r ∨ v'.ownBlock = some (wr.alloc (.cells #[.int .i64 (k : Int)] 3)).heap.size := hat0
      clear hgrow3 hnil3 hat0
      have hG5 : w.grownBy w5 none := grow_onC (grow_toC hG k4) hgr (by rw [← HB.out]; omega)
      have hB5 : B ≤ w5.heap.size := Nat.le_trans hBr (Nat.le_trans k4.size hgr.size)
      obtain ⟨r', cp', rfl, hown5⟩ := row_of_owns hown' (F := (L i).take (j + 1)) (by simp; omega) (by rw [htk2, ints_snoc]) hnn
      clear hgr hown' hnn k4 hG hBr hown
      obtain ⟨d0, d1⟩ := HCELL.out _ hG5
      have d2 := d1 k (by omega)
      rw [hnx] at d2
      clear d1
      have hx2 : (k : Int) < ((n + m : Nat) : Int) := by omega
      have hlen2 : ((L i).take (j + 1)).length = j + 1 := by simp; omega
      rw [hlen2]
      )
      go_roundw
      case rel => exact ⟨j + 1, r', cp', by omega, by rw [hnk], rfl, hown5, hG5, hB5⟩
      case measure => simp; omega
    · have he : j = (L i).length := by omega
      subst he
      have hkk := hend.out
      generalize ringAt n i (L i) (L i).length = k at *
      subst hkk
      go_wp2
      go_ret
      rw [List.take_length] at hown
      exact ⟨r, cp, rfl, hG, HB.out ▸ hown⟩
end
end Go.Proofs.YtkkodhjolgcokaaDoor
