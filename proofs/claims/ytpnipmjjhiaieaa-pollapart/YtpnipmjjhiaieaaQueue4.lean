/-
  A queue as an object: All, Pop, New; rows of things of two ints.
-/
import Derived.Test.YtpnipmjjhiaieaaQueue3
import Derived.Test.YtpnipmjjhiaieaaAppSrc
import Derived.Test.YtpnipmjjhiaieaaPlain
namespace Go.Proofs.Ytpnipmjjhiaieaa
open Go.RowKit Go.Lib
set_option maxRecDepth 100000
set_option linter.unusedVariables false

/-- Pairs as the cells of a row. -/
def cellsP (F : List (Int × Int)) : List Value := F.flatMap fun v => [Value.int .i64 v.1, Value.int .i64 v.2]
theorem cellsP_add (F G : List (Int × Int)) : cellsP F ++ cellsP G = cellsP (F ++ G) := by simp [cellsP]
theorem cellsP_len (F : List (Int × Int)) : (cellsP F).length = F.length * 2 := by
  induction F with
  | nil => rfl
  | cons a l ih => simp only [cellsP, List.flatMap_cons, List.length_append, List.length_cons, List.length_nil] at *; omega
theorem cellsP_one (F : List (Int × Int)) : ∀ u ∈ cellsP F, u.oneCell' = true := by
  intro u hu
  simp only [cellsP, List.mem_flatMap] at hu
  obtain ⟨v, _, hv⟩ := hu
  simp at hv
  rcases hv with rfl | rfl <;> rfl
theorem cellsP_at : ∀ (F : List (Int × Int)) (k : Nat) (v : Int × Int), F[k]? = some v → (cellsP F)[k * 2]? = some (.int .i64 v.1) ∧ (cellsP F)[k * 2 + 1]? = some (.int .i64 v.2)
  | [], _, _, h => by simp at h
  | a :: l, 0, v, h => by simp at h; subst h; exact ⟨rfl, rfl⟩
  | a :: l, k + 1, v, h => by
    have ih := cellsP_at l k v (by simpa using h)
    have e1 : (k + 1) * 2 = k * 2 + 1 + 1 := by omega
    have e2 : (k + 1) * 2 + 1 = k * 2 + 1 + 1 + 1 := by omega
    rw [e1]
    exact ih
theorem thing_info : ∃ i : TypeInfo, Try.prog.info? 46 = some i ∧ i.zero = some (.agg #[.int .i64 0, .int .i64 0]) ∧ i.size = 2 ∧ i.bytes = 16 := ⟨_, rfl, rfl, rfl, rfl⟩
section
variable {w w' : World}
theorem own_blkP {B n size : Nat} {e : TypeId} {v : Value} {xs : List Value} (h : w.ownsRow B e size v n xs) (k : ∀ g, v.ownBlock = some g → w'.heap[g]? = w.heap[g]?) : w'.ownsRow B e size v n xs := by
  obtain ⟨h1, h2⟩ := h
  refine ⟨h1, ?_⟩
  rcases h2 with h2 | ⟨g, cap, cur, hv, hb, hg, hr⟩
  · exact Or.inl h2
  · refine Or.inr ⟨g, cap, cur, hv, hb, ?_, hr⟩
    rw [← hg]
    exact k g (by rw [hv]; rfl)
theorem own_keepP {B n size : Nat} {e : TypeId} {v : Value} {xs : List Value} (h : w.ownsRow B e size v n xs) (k : w.grownBy w' none) : w'.ownsRow B e size v n xs :=
  own_blkP h fun g hg => k.block g (h.lt g hg).2 (by simp)
theorem own_onlyP {B n size lo hi : Nat} {e : TypeId} {v : Value} {xs : List Value} (h : w.ownsRow B e size v n xs) (k : Only lo hi w w') (hB : hi ≤ B) : w'.ownsRow B e size v n xs :=
  own_blkP h fun g hg => k.block g (h.lt g hg).2 (Or.inr (Nat.le_trans hB (h.lt g hg).1))
theorem own_formP {B n size : Nat} {e : TypeId} {v : Value} {xs : List Value} (h : w.ownsRow B e size v n xs) : ∃ sa cap, v = .slice sa n cap ∧ (v.ownBlock = none → n = 0) ∧ ∀ g, v.ownBlock = some g → sa = some ⟨g, 0, none⟩ := by
  rcases h.2 with ⟨h0, hn⟩ | ⟨g, cap, cur, hv, _⟩
  · exact ⟨none, 0, by rw [h0, hn], fun _ => hn, fun g hg => by rw [h0] at hg; cases hg⟩
  · refine ⟨some ⟨g, 0, none⟩, cap, hv, (fun e => by rw [hv] at e; cases e), fun g' hg => ?_⟩
    rw [hv] at hg
    have hg : some g = some g' := hg
    injection hg with hg
    rw [hg]
theorem own_cellP {B n size : Nat} {e : TypeId} {v : Value} {xs : List Value} (h : w.ownsRow B e size v n xs) {j : Nat} {u : Value} (hu : xs[j]? = some u) {g : Nat} (hg : v.ownBlock = some g) : w.cell? ⟨g, j, none⟩ = some u := by
  have := h.cells hg j u hu
  by_cases hj : j = 0
  · subst hj; simpa [Addr.add] using this
  · simpa [Addr.add, hj] using this
theorem src_P (w : World) (a b : Int) (T : TypeId) : SrcAt (w.alloc (.cells #[.int .i64 a, .int .i64 b] T)) 2 (.slice (some ⟨w.heap.size, 0, none⟩) 1 1) 1 (cellsP [(a, b)]) := by
  refine Or.inl ⟨_, 1, rfl, rfl, fun j x hx => ?_, cellsP_one _⟩
  match j with
  | 0 =>
    simp [cellsP] at hx
    subst hx
    exact World.cell?_alloc_at _ T _ 0 rfl
  | 1 =>
    simp [cellsP] at hx
    subst hx
    exact World.cell?_alloc_at _ T _ 1 rfl
  | j + 2 => simp [cellsP] at hx
end

/-- The things of the numbers. -/
def thQ (T : Nat) (Q : List Nat) : List (Int × Int) := Q.map fun k => (thK T k, thI T k)
theorem thQ_len (T : Nat) (Q : List Nat) : (thQ T Q).length = Q.length := by simp [thQ]

section
variable {w w' : World} {lo hi qb lb T D d : Nat} {M : Int} {Q : List Nat}
end
end Go.Proofs.Ytpnipmjjhiaieaa
