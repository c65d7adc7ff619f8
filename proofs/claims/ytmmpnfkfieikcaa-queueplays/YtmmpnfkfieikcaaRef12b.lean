/-
  The document's answers for queue (nightjarref12): Is, Push, Drop, Pop.
-/
import Derived.Test.YtmmpnfkfieikcaaRef12
import Derived.Deep.RegionHeld3
namespace Go.Proofs.Ytmmpnfkfieikcaa
open Go.RowKit Go.Lib
set_option maxRecDepth 100000
set_option linter.unusedVariables false
theorem litR (w : World) (B : Nat) (hB : B ≤ w.heap.size) : (w.alloc (.cells #[] 35)).ownsRow B 35 2 (.slice (some ⟨w.heap.size, 0, none⟩) 0 0) 0 (cellsP []) :=
  World.ownsRow_made w #[] 0 hB (by decide) rfl
theorem src_ownP {w : World} {B : Nat} {e : TypeId} {v : Value} {F : List (Int × Int)} (h : w.ownsRow B e 2 v F.length (cellsP F)) : SrcAt w 2 v F.length (cellsP F) := by
  rcases h.2 with ⟨h0, hn⟩ | ⟨r, cap, cur, hv, hb, hg, rest⟩
  · refine Or.inr ⟨0, by rw [h0], hn, ?_⟩
    have : F = [] := List.length_eq_zero_iff.1 hn
    rw [this]; rfl
  · subst hv
    exact Or.inl ⟨_, cap, rfl, cellsP_len F, fun j u hu => h.cells rfl j u hu, cellsP_one F⟩
theorem own_mono {w : World} {B B' n size : Nat} {e : TypeId} {v : Value} {xs : List Value} (h : w.ownsRow B e size v n xs) (hB : B' ≤ B) : w.ownsRow B' e size v n xs := World.ownsRow.mono h hB
theorem own_only2P {w w' : World} {B n size lo hi : Nat} {e : TypeId} {v : Value} {xs : List Value} (h : w.ownsRow B e size v n xs) (k : Only lo hi w w') (hB : hi ≤ B) : w'.ownsRow B e size v n xs := own_onlyP h k hB
theorem src_pair {w : World} {p : Nat} {a b : Int} (h0 : w.cell? ⟨p, 0, none⟩ = some (.int .i64 a)) (h1 : w.cell? ⟨p, 1, none⟩ = some (.int .i64 b)) : SrcAt w 2 (.slice (some ⟨p, 0, none⟩) 1 1) 1 (cellsP [(a, b)]) := by
  refine Or.inl ⟨_, 1, rfl, rfl, fun j x hx => ?_, cellsP_one _⟩
  match j with
  | 0 =>
    simp [cellsP] at hx
    subst hx
    exact h0
  | 1 =>
    simp [cellsP] at hx
    subst hx
    exact h1
  | j + 2 => simp [cellsP] at hx
theorem step_append_run {P : Program} {ops : Array Oper} {o : Oper} {a : Act} {w : World} {K : Act → World → Prop} {Q : Exit → Act → World → Prop} {E : Prop}
    (hg : o.guard = none) (s x : Operand) (t : TypeId) (hop : o.op = Op.call { callee := Callee.builtin Builtin.append, args := #[s, x], argTypes := #[t, t] })
    (v xv v' : Value) (w' : World) (hs : a.eval s = v) (hx : a.eval x = xv) (hrun : (Builtin.append_ #[t, t] o.type #[v, xv]).run P w = .ok v' w') (hK : K (a.put o.dst v') w') :
    if Region.wanted o (yielded ops a.tmps) = true then Oper.wp P o a w K Q else E := by
  have hw : Region.wanted o (yielded ops a.tmps) = true := by simp [Region.wanted, hg]
  rw [if_pos hw]
  unfold Oper.wp execOp
  simp only [hop, resolve, invoke, builtin, Sem.run_bind, Sem.run_pure, Result.andThen_ok, List.map_toArray, List.map_cons, List.map_nil, hs, hx, hrun]
  exact hK
theorem thingR_info : ∃ i : TypeInfo, Try.prog.info? 35 = some i ∧ i.zero = some (.agg #[.int .i64 0, .int .i64 0]) ∧ i.size = 2 ∧ i.bytes = 16 := ⟨_, rfl, rfl, rfl, rfl⟩
section
variable {w w' : World} {B : Nat} {v : Value} {F : List (Int × Int)}
/-- Is there such a thing? -/
def isT (T D k i : Int) : Bool := decide (0 ≤ i ∧ (k = 1 ∧ i < T ∨ k = 2 ∧ i < D))
set_option maxHeartbeats 4000000 in
theorem ref_is (T D M k i : Int) (v : Value) (hv : v.oneCell' = true) (w : World) :
    Calls Try.prog 21 #[.agg #[.int .i64 T, .int .i64 D, .int .i64 M, v], .agg #[.int .i64 k, .int .i64 i]] w fun e w' => e = .returned (.bool (isT T D k i)) ∧ w.grownBy w' none := by
  have ka := World.grownBy_alloc w (.cells #[.int .i64 T, .int .i64 D, .int .i64 M, v] 30) none
  have kb := World.grownBy_alloc (w.alloc (.cells #[.int .i64 T, .int .i64 D, .int .i64 M, v] 30)) (.cells #[.int .i64 k, .int .i64 i] 35) none
  have KK := Lib.hid (ka.trans kb)
  clear ka kb
  by_cases e0 : i < 0
  · skip
    have hI : isT T D k i = false := by unfold isT; simp; omega
    have d0 : decide (0 ≤ i) = false := by rw [decide_eq_false_iff_not]; omega
    clear e0
    rw [hI]
    go_enter Try.func21, Try.ntmps21
    go_wp2
    go_ret
    exact ⟨rfl, KK.out⟩
  have d0 : decide (0 ≤ i) = true := by rw [decide_eq_true_iff]; omega
  have d0' : 0 ≤ i := by omega
  by_cases e1 : k = 1
  · subst e1
    by_cases e2 : i < T
    · skip
      have hI : isT T D 1 i = true := by unfold isT; simp; omega
      have d1 : decide (i < T) = true := by rw [decide_eq_true_iff]; omega
      clear e0
      rw [hI]
      go_enter Try.func21, Try.ntmps21
      go_wp2
      go_ret
      exact ⟨rfl, KK.out⟩
    · skip
      have hI : isT T D 1 i = false := by unfold isT; simp; omega
      have d1 : decide (i < T) = false := by rw [decide_eq_false_iff_not]; omega
      clear e0
      rw [hI]
      go_enter Try.func21, Try.ntmps21
      go_wp2
      go_ret
      exact ⟨rfl, KK.out⟩
  by_cases e3 : k = 2
  · subst e3
    by_cases e2 : i < D
    · skip
      have hI : isT T D 2 i = true := by unfold isT; simp; omega
      have d1 : decide (i < D) = true := by rw [decide_eq_true_iff]; omega
      clear e0 e1
      rw [hI]
      go_enter Try.func21, Try.ntmps21
      go_wp2
      go_ret
      exact ⟨rfl, KK.out⟩
    · skip
      have hI : isT T D 2 i = false := by unfold isT; simp; omega
      have d1 : decide (i < D) = false := by rw [decide_eq_false_iff_not]; omega
      clear e0 e1
      rw [hI]
      go_enter Try.func21, Try.ntmps21
      go_wp2
      go_ret
      exact ⟨rfl, KK.out⟩
  · skip
    have hI : isT T D k i = false := by unfold isT; simp; omega
    have d1 : (k == 1) = false := by simpa using e1
    have d2 : (k == 2) = false := by simpa using e3
    have d3 : decide (k = 1) = false := by simpa using e1
    have d4 : decide (k = 2) = false := by simpa using e3
    clear e0 e1 e3
    rw [hI]
    go_enter Try.func21, Try.ntmps21
    go_wp2
    go_ret
    exact ⟨rfl, KK.out⟩

theorem set4 {w : World} {b : Nat} {u0 u1 u2 u3 : Value} (v0 v1 v2 v3 : Value) (h0 : w.cell? ⟨b, 0, none⟩ = some u0) (h1 : w.cell? ⟨b, 1, none⟩ = some u1) (h2 : w.cell? ⟨b, 2, none⟩ = some u2) (h3 : w.cell? ⟨b, 3, none⟩ = some u3) :
    ((((w.setCell ⟨b, 0, none⟩ v0).setCell ⟨b, 1, none⟩ v1).setCell ⟨b, 2, none⟩ v2).setCell ⟨b, 3, none⟩ v3).cell? ⟨b, 0, none⟩ = some v0 ∧ ((((w.setCell ⟨b, 0, none⟩ v0).setCell ⟨b, 1, none⟩ v1).setCell ⟨b, 2, none⟩ v2).setCell ⟨b, 3, none⟩ v3).cell? ⟨b, 1, none⟩ = some v1 ∧ ((((w.setCell ⟨b, 0, none⟩ v0).setCell ⟨b, 1, none⟩ v1).setCell ⟨b, 2, none⟩ v2).setCell ⟨b, 3, none⟩ v3).cell? ⟨b, 2, none⟩ = some v2 ∧ ((((w.setCell ⟨b, 0, none⟩ v0).setCell ⟨b, 1, none⟩ v1).setCell ⟨b, 2, none⟩ v2).setCell ⟨b, 3, none⟩ v3).cell? ⟨b, 3, none⟩ = some v3 := by
  have e : ∀ (w : World) (i j : Nat) (v : Value), i ≠ j → (w.setCell ⟨b, i, none⟩ v).cell? ⟨b, j, none⟩ = w.cell? ⟨b, j, none⟩ := fun w i j v h => World.cell?_setCell_other _ ⟨b, i, none⟩ ⟨b, j, none⟩ _ (by simp [h])
  refine ⟨?_, ?_, ?_, ?_⟩
  · rw [e _ 3 0 _ (by decide), e _ 2 0 _ (by decide), e _ 1 0 _ (by decide)]; exact World.cell?_setCell_same _ _ _ h0
  · rw [e _ 3 1 _ (by decide), e _ 2 1 _ (by decide)]; exact World.cell?_setCell_same _ _ _ ((e _ 0 1 _ (by decide)).trans h1)
  · rw [e _ 3 2 _ (by decide)]; exact World.cell?_setCell_same _ _ _ ((e _ 1 2 _ (by decide)).trans ((e _ 0 2 _ (by decide)).trans h2))
  · exact World.cell?_setCell_same _ _ _ ((e _ 2 3 _ (by decide)).trans ((e _ 1 3 _ (by decide)).trans ((e _ 0 3 _ (by decide)).trans h3)))
theorem facts12 (T D M k i : Int) (sa : Option Addr) (n cap : Nat) (w : World) : ∀ x : World, (((w.alloc (.cells #[.int .i64 T, .int .i64 D, .int .i64 M, .slice sa n cap] 30)).alloc (.cells #[.int .i64 k, .int .i64 i] 35)).alloc (.cells #[.int .i64 0, .int .i64 0, .int .i64 0, .slice none 0 0] 30)).grownBy x none → (x.cell? ⟨w.heap.size, 0, none⟩ = some (.int .i64 T) ∧ x.cell? ⟨w.heap.size, 1, none⟩ = some (.int .i64 D) ∧ x.cell? ⟨w.heap.size, 2, none⟩ = some (.int .i64 M) ∧ x.cell? ⟨w.heap.size, 3, none⟩ = some (.slice sa n cap) ∧ x.cell? ⟨w.heap.size + 1, 0, none⟩ = some (.int .i64 k) ∧ x.cell? ⟨w.heap.size + 1, 1, none⟩ = some (.int .i64 i)) ∧ (x.cell? ⟨w.heap.size + 2, 0, none⟩ = some (.int .i64 0) ∧ x.cell? ⟨w.heap.size + 2, 1, none⟩ = some (.int .i64 0) ∧ x.cell? ⟨w.heap.size + 2, 2, none⟩ = some (.int .i64 0) ∧ x.cell? ⟨w.heap.size + 2, 3, none⟩ = some (.slice none 0 0)) ∧ (x.frozen? ⟨w.heap.size + 2, 0, none⟩ = false ∧ x.frozen? ⟨w.heap.size + 2, 1, none⟩ = false ∧ x.frozen? ⟨w.heap.size + 2, 2, none⟩ = false ∧ x.frozen? ⟨w.heap.size + 2, 3, none⟩ = false ∧ x.frozen? ⟨w.heap.size, 3, none⟩ = false) := by
  intro x kx
  have k1 := World.grownBy_alloc (w.alloc (.cells #[.int .i64 T, .int .i64 D, .int .i64 M, .slice sa n cap] 30)) (.cells #[.int .i64 k, .int .i64 i] 35) none
  have k2 := World.grownBy_alloc ((w.alloc (.cells #[.int .i64 T, .int .i64 D, .int .i64 M, .slice sa n cap] 30)).alloc (.cells #[.int .i64 k, .int .i64 i] 35)) (.cells #[.int .i64 0, .int .i64 0, .int .i64 0, .slice none 0 0] 30) none
  have s1 : (w.alloc (.cells #[.int .i64 T, .int .i64 D, .int .i64 M, .slice sa n cap] 30)).heap.size = w.heap.size + 1 := World.size_alloc ..
  have s2 : ((w.alloc (.cells #[.int .i64 T, .int .i64 D, .int .i64 M, .slice sa n cap] 30)).alloc (.cells #[.int .i64 k, .int .i64 i] 35)).heap.size = w.heap.size + 2 := by rw [World.size_alloc, s1]
  have s3 : (((w.alloc (.cells #[.int .i64 T, .int .i64 D, .int .i64 M, .slice sa n cap] 30)).alloc (.cells #[.int .i64 k, .int .i64 i] 35)).alloc (.cells #[.int .i64 0, .int .i64 0, .int .i64 0, .slice none 0 0] 30)).heap.size = w.heap.size + 3 := by rw [World.size_alloc, s2]
  have ka := (k1.trans k2).trans kx
  have kb := k2.trans kx
  have b0 : ((w.alloc (.cells #[.int .i64 T, .int .i64 D, .int .i64 M, .slice sa n cap] 30)).alloc (.cells #[.int .i64 k, .int .i64 i] 35)).cell? ⟨w.heap.size + 1, 0, none⟩ = some (.int .i64 k) := by rw [← s1]; exact World.cell?_alloc_at _ _ _ 0 rfl
  have b1 : ((w.alloc (.cells #[.int .i64 T, .int .i64 D, .int .i64 M, .slice sa n cap] 30)).alloc (.cells #[.int .i64 k, .int .i64 i] 35)).cell? ⟨w.heap.size + 1, 1, none⟩ = some (.int .i64 i) := by rw [← s1]; exact World.cell?_alloc_at _ _ _ 1 rfl
  have c0 : (((w.alloc (.cells #[.int .i64 T, .int .i64 D, .int .i64 M, .slice sa n cap] 30)).alloc (.cells #[.int .i64 k, .int .i64 i] 35)).alloc (.cells #[.int .i64 0, .int .i64 0, .int .i64 0, .slice none 0 0] 30)).cell? ⟨w.heap.size + 2, 0, none⟩ = some (.int .i64 0) := by rw [← s2]; exact World.cell?_alloc_at _ _ _ 0 rfl
  have c1 : (((w.alloc (.cells #[.int .i64 T, .int .i64 D, .int .i64 M, .slice sa n cap] 30)).alloc (.cells #[.int .i64 k, .int .i64 i] 35)).alloc (.cells #[.int .i64 0, .int .i64 0, .int .i64 0, .slice none 0 0] 30)).cell? ⟨w.heap.size + 2, 1, none⟩ = some (.int .i64 0) := by rw [← s2]; exact World.cell?_alloc_at _ _ _ 1 rfl
  have c2 : (((w.alloc (.cells #[.int .i64 T, .int .i64 D, .int .i64 M, .slice sa n cap] 30)).alloc (.cells #[.int .i64 k, .int .i64 i] 35)).alloc (.cells #[.int .i64 0, .int .i64 0, .int .i64 0, .slice none 0 0] 30)).cell? ⟨w.heap.size + 2, 2, none⟩ = some (.int .i64 0) := by rw [← s2]; exact World.cell?_alloc_at _ _ _ 2 rfl
  have c3 : (((w.alloc (.cells #[.int .i64 T, .int .i64 D, .int .i64 M, .slice sa n cap] 30)).alloc (.cells #[.int .i64 k, .int .i64 i] 35)).alloc (.cells #[.int .i64 0, .int .i64 0, .int .i64 0, .slice none 0 0] 30)).cell? ⟨w.heap.size + 2, 3, none⟩ = some (.slice none 0 0) := by rw [← s2]; exact World.cell?_alloc_at _ _ _ 3 rfl
  have fz : ∀ o, x.frozen? ⟨w.heap.size + 2, o, none⟩ = false := fun o => (kx.frozen_far ⟨w.heap.size + 2, o, none⟩ (by show w.heap.size + 2 < _; omega) (by simp)).trans (by rw [← s2]; try simp [go_sem])
  have fz1 : x.frozen? ⟨w.heap.size, 3, none⟩ = false := (ka.frozen_far ⟨w.heap.size, 3, none⟩ (by show w.heap.size < _; omega) (by simp)).trans (by simp [go_sem])
  exact ⟨⟨ka.cell (World.cell?_alloc_at _ _ _ 0 rfl) (by simp), ka.cell (World.cell?_alloc_at _ _ _ 1 rfl) (by simp), ka.cell (World.cell?_alloc_at _ _ _ 2 rfl) (by simp), ka.cell (World.cell?_alloc_at _ _ _ 3 rfl) (by simp), kb.cell b0 (by simp), kb.cell b1 (by simp)⟩, ⟨kx.cell c0 (by simp), kx.cell c1 (by simp), kx.cell c2 (by simp), kx.cell c3 (by simp)⟩, fz 0, fz 1, fz 2, fz 3, fz1⟩
set_option maxHeartbeats 8000000 in
theorem ref_push_no1 (T D M k i : Int) (h : w.ownsRow B 35 2 v F.length (cellsP F)) (hF : F.length ≤ 100000) (hI : isT T D k i = false):
    Calls Try.prog 8 #[.agg #[.int .i64 T, .int .i64 D, .int .i64 M, v], .agg #[.int .i64 k, .int .i64 i]] w fun e w' => e = .returned (.tuple #[.agg #[.int .i64 T, .int .i64 D, .int .i64 M, v], .bool false]) ∧ w.grownBy w' none := by
  obtain ⟨sa, cap, rfl, _, _⟩ := own_formP h
  have HC := Lib.hid (facts12 T D M k i sa F.length cap w)
  have K0 : Hid (w.grownBy (((w.alloc (.cells #[.int .i64 T, .int .i64 D, .int .i64 M, .slice sa F.length cap] 30)).alloc (.cells #[.int .i64 k, .int .i64 i] 35)).alloc (.cells #[.int .i64 0, .int .i64 0, .int .i64 0, .slice none 0 0] 30)) none) := Lib.hid (ga _ (ga _ (World.grownBy_alloc w _ none)))
  have HO : Hid (∀ x, (((w.alloc (.cells #[.int .i64 T, .int .i64 D, .int .i64 M, .slice sa F.length cap] 30)).alloc (.cells #[.int .i64 k, .int .i64 i] 35)).alloc (.cells #[.int .i64 0, .int .i64 0, .int .i64 0, .slice none 0 0] 30)).grownBy x none → x.ownsRow B 35 2 (.slice sa F.length cap) F.length (cellsP F)) := Lib.hid fun x kx => own_keepP h (K0.out.trans kx)
  have G0 : Hid ((((w.alloc (.cells #[.int .i64 T, .int .i64 D, .int .i64 M, .slice sa F.length cap] 30)).alloc (.cells #[.int .i64 k, .int .i64 i] 35)).alloc (.cells #[.int .i64 0, .int .i64 0, .int .i64 0, .slice none 0 0] 30)).grownBy (((w.alloc (.cells #[.int .i64 T, .int .i64 D, .int .i64 M, .slice sa F.length cap] 30)).alloc (.cells #[.int .i64 k, .int .i64 i] 35)).alloc (.cells #[.int .i64 0, .int .i64 0, .int .i64 0, .slice none 0 0] 30)).drew none) := Lib.hid (gd (World.grownBy.refl _ _))
  have CI : Hid (∀ v, Calls Try.prog 21 #[.agg #[.int .i64 T, .int .i64 D, .int .i64 M, .slice sa F.length cap], .agg #[.int .i64 k, .int .i64 i]] v fun e w' => e = .returned (.bool false) ∧ v.grownBy w' none) := Lib.hid fun v => by rw [← hI]; exact ref_is T D M k i _ rfl v
  go_enter Try.func8, Try.ntmps8
  go_wp2_with fail
  obtain ⟨hS, _, _⟩ := HC.out _ G0.out
  clear h hI 
  have hus : Hid ((((w.alloc (.cells #[.int .i64 T, .int .i64 D, .int .i64 M, .slice sa F.length cap] 30)).alloc (.cells #[.int .i64 k, .int .i64 i] 35)).alloc (.cells #[.int .i64 0, .int .i64 0, .int .i64 0, .slice none 0 0] 30)).heap.size = w.heap.size + 3) := Lib.hid (by rw [World.size_alloc, World.size_alloc, World.size_alloc])
  generalize (((w.alloc (.cells #[.int .i64 T, .int .i64 D, .int .i64 M, .slice sa F.length cap] 30)).alloc (.cells #[.int .i64 k, .int .i64 i] 35)).alloc (.cells #[.int .i64 0, .int .i64 0, .int .i64 0, .slice none 0 0] 30)) = u0 at *
  refine wp_region_held_drew (S := fun x => x.cell? ⟨w.heap.size, 0, none⟩ = some (.int .i64 T) ∧ x.cell? ⟨w.heap.size, 1, none⟩ = some (.int .i64 D) ∧ x.cell? ⟨w.heap.size, 2, none⟩ = some (.int .i64 M) ∧ x.cell? ⟨w.heap.size, 3, none⟩ = some (.slice sa F.length cap) ∧ x.cell? ⟨w.heap.size + 1, 0, none⟩ = some (.int .i64 k) ∧ x.cell? ⟨w.heap.size + 1, 1, none⟩ = some (.int .i64 i)) (by kernel_rfl) hS (fun hHeld => ?_)
  clear hS
  refine wpAnyH_take (i := 0) (oi := ⟨_, _, _, _, _, _⟩) (v := ?_) rfl (by kernel_rfl) (by kernel_rfl) (by kernel_rfl) (fun _ _ _ h => h) (Or.inl ⟨by rfl, ?_⟩) (by assumption) ?_
  rotate_left
  · intro wz hSw
    try dsimp only at hSw
    go_simp
    try with_reducible rfl
  simp only [Act.put, List.setIfInBounds_toArray, List.set_cons_zero, List.set_cons_succ]
  refine wpAnyH_take (i := 1) (oi := ⟨_, _, _, _, _, _⟩) (v := ?_) rfl (by kernel_rfl) (by kernel_rfl) (by kernel_rfl) (fun _ _ _ h => h) (Or.inl ⟨by rfl, ?_⟩) (by assumption) ?_
  rotate_left
  · intro wz hSw
    try dsimp only at hSw
    go_simp
    try with_reducible rfl
  simp only [Act.put, List.setIfInBounds_toArray, List.set_cons_zero, List.set_cons_succ]
  refine wpAnyH_ready (rs := [2]) (by kernel_rfl) (by simp) ?_
  refine AllReadyH.cons (o := ⟨_, _, _, _, _, _⟩) rfl (fun K hK => ?_) AllReadyH.nil
  go_simp
  refine (CI.out _).mono ?_
  rintro e u1 ⟨rfl, kk⟩
  have G1 := Lib.hid (G0.out.trans kk)
  obtain ⟨hS, _, _⟩ := HC.out _ G1.out
  clear kk G0
  refine hK.out _ _ hS (fun hHeld => ?_)
  clear hK K
  try simp only [Act.put, List.setIfInBounds_toArray, List.set_cons_zero, List.set_cons_succ]
  clear hS
  refine wpAnyH_take (i := 3) (oi := ⟨_, _, _, _, _, _⟩) (v := ?_) rfl (by kernel_rfl) (by kernel_rfl) (by kernel_rfl) (fun _ _ _ h => h) (Or.inl ⟨by rfl, ?_⟩) (by assumption) ?_
  rotate_left
  · intro wz hSw
    try dsimp only at hSw
    go_simp
    try with_reducible rfl
  simp only [Act.put, List.setIfInBounds_toArray, List.set_cons_zero, List.set_cons_succ]
  refine wpAnyH_take (i := 4) (oi := ⟨_, _, _, _, _, _⟩) (v := ?_) rfl (by kernel_rfl) (by kernel_rfl) (by kernel_rfl) (fun _ _ _ h => h) (Or.inl ⟨by rfl, ?_⟩) (by assumption) ?_
  rotate_left
  · intro wz hSw
    try dsimp only at hSw
    go_simp
    try with_reducible rfl
  simp only [Act.put, List.setIfInBounds_toArray, List.set_cons_zero, List.set_cons_succ]
  refine wpAnyH_take (i := 5) (oi := ⟨_, _, _, _, _, _⟩) (v := undef) rfl (by kernel_rfl) (by kernel_rfl) (by kernel_rfl) (fun _ _ _ h => h) (Or.inr ⟨by rfl, rfl⟩) (by assumption) ?_
  simp only [Act.put, List.setIfInBounds_toArray, List.set_cons_zero, List.set_cons_succ]
  refine wpAnyH_take (i := 6) (oi := ⟨_, _, _, _, _, _⟩) (v := undef) rfl (by kernel_rfl) (by kernel_rfl) (by kernel_rfl) (fun _ _ _ h => h) (Or.inr ⟨by rfl, rfl⟩) (by assumption) ?_
  simp only [Act.put, List.setIfInBounds_toArray, List.set_cons_zero, List.set_cons_succ]
  refine wpAnyH_take (i := 7) (oi := ⟨_, _, _, _, _, _⟩) (v := undef) rfl (by kernel_rfl) (by kernel_rfl) (by kernel_rfl) (fun _ _ _ h => h) (Or.inr ⟨by rfl, rfl⟩) (by assumption) ?_
  simp only [Act.put, List.setIfInBounds_toArray, List.set_cons_zero, List.set_cons_succ]
  refine wpAnyH_take (i := 8) (oi := ⟨_, _, _, _, _, _⟩) (v := ?_) rfl (by kernel_rfl) (by kernel_rfl) (by kernel_rfl) (fun _ _ _ h => h) (Or.inl ⟨by rfl, ?_⟩) (by assumption) ?_
  rotate_left
  · intro wz hSw
    try dsimp only at hSw
    go_simp
    try with_reducible rfl
  simp only [Act.put, List.setIfInBounds_toArray, List.set_cons_zero, List.set_cons_succ]
  refine wpAnyH_take (i := 9) (oi := ⟨_, _, _, _, _, _⟩) (v := ?_) rfl (by kernel_rfl) (by kernel_rfl) (by kernel_rfl) (fun _ _ _ h => h) (Or.inl ⟨by rfl, ?_⟩) (by assumption) ?_
  rotate_left
  · intro wz hSw
    try dsimp only at hSw
    go_simp
    try with_reducible rfl
  simp only [Act.put, List.setIfInBounds_toArray, List.set_cons_zero, List.set_cons_succ]
  refine wpAnyH_take (i := 10) (oi := ⟨_, _, _, _, _, _⟩) (v := undef) rfl (by kernel_rfl) (by kernel_rfl) (by kernel_rfl) (fun _ _ _ h => h) (Or.inr ⟨by rfl, rfl⟩) (by assumption) ?_
  simp only [Act.put, List.setIfInBounds_toArray, List.set_cons_zero, List.set_cons_succ]
  refine wpAnyH_take (i := 11) (oi := ⟨_, _, _, _, _, _⟩) (v := undef) rfl (by kernel_rfl) (by kernel_rfl) (by kernel_rfl) (fun _ _ _ h => h) (Or.inr ⟨by rfl, rfl⟩) (by assumption) ?_
  simp only [Act.put, List.setIfInBounds_toArray, List.set_cons_zero, List.set_cons_succ]
  refine wpAnyH_take (i := 12) (oi := ⟨_, _, _, _, _, _⟩) (v := undef) rfl (by kernel_rfl) (by kernel_rfl) (by kernel_rfl) (fun _ _ _ h => h) (Or.inr ⟨by rfl, rfl⟩) (by assumption) ?_
  simp only [Act.put, List.setIfInBounds_toArray, List.set_cons_zero, List.set_cons_succ]
  refine wpAnyH_take (i := 13) (oi := ⟨_, _, _, _, _, _⟩) (v := undef) rfl (by kernel_rfl) (by kernel_rfl) (by kernel_rfl) (fun _ _ _ h => h) (Or.inr ⟨by rfl, rfl⟩) (by assumption) ?_
  simp only [Act.put, List.setIfInBounds_toArray, List.set_cons_zero, List.set_cons_succ]
  refine wpAnyH_take (i := 14) (oi := ⟨_, _, _, _, _, _⟩) (v := undef) rfl (by kernel_rfl) (by kernel_rfl) (by kernel_rfl) (fun _ _ _ h => h) (Or.inr ⟨by rfl, rfl⟩) (by assumption) ?_
  simp only [Act.put, List.setIfInBounds_toArray, List.set_cons_zero, List.set_cons_succ]
  refine wpAnyH_take (i := 15) (oi := ⟨_, _, _, _, _, _⟩) (v := undef) rfl (by kernel_rfl) (by kernel_rfl) (by kernel_rfl) (fun _ _ _ h => h) (Or.inr ⟨by rfl, rfl⟩) (by assumption) ?_
  simp only [Act.put, List.setIfInBounds_toArray, List.set_cons_zero, List.set_cons_succ]
  refine wpAnyH_take (i := 16) (oi := ⟨_, _, _, _, _, _⟩) (v := undef) rfl (by kernel_rfl) (by kernel_rfl) (by kernel_rfl) (fun _ _ _ h => h) (Or.inr ⟨by rfl, rfl⟩) (by assumption) ?_
  simp only [Act.put, List.setIfInBounds_toArray, List.set_cons_zero, List.set_cons_succ]
  refine wpAnyH_take (i := 17) (oi := ⟨_, _, _, _, _, _⟩) (v := undef) rfl (by kernel_rfl) (by kernel_rfl) (by kernel_rfl) (fun _ _ _ h => h) (Or.inr ⟨by rfl, rfl⟩) (by assumption) ?_
  simp only [Act.put, List.setIfInBounds_toArray, List.set_cons_zero, List.set_cons_succ]
  refine wpAnyH_take (i := 18) (oi := ⟨_, _, _, _, _, _⟩) (v := undef) rfl (by kernel_rfl) (by kernel_rfl) (by kernel_rfl) (fun _ _ _ h => h) (Or.inr ⟨by rfl, rfl⟩) (by assumption) ?_
  simp only [Act.put, List.setIfInBounds_toArray, List.set_cons_zero, List.set_cons_succ]
  refine wpAnyH_take (i := 19) (oi := ⟨_, _, _, _, _, _⟩) (v := undef) rfl (by kernel_rfl) (by kernel_rfl) (by kernel_rfl) (fun _ _ _ h => h) (Or.inr ⟨by rfl, rfl⟩) (by assumption) ?_
  simp only [Act.put, List.setIfInBounds_toArray, List.set_cons_zero, List.set_cons_succ]
  refine wpAnyH_take (i := 20) (oi := ⟨_, _, _, _, _, _⟩) (v := ?_) rfl (by kernel_rfl) (by kernel_rfl) (by kernel_rfl) (fun _ _ _ h => h) (Or.inl ⟨by rfl, ?_⟩) (by assumption) ?_
  rotate_left
  · intro wz hSw
    try dsimp only at hSw
    go_simp
    try with_reducible rfl
  simp only [Act.put, List.setIfInBounds_toArray, List.set_cons_zero, List.set_cons_succ]
  refine wpAnyH_done (by kernel_rfl) ?_ _
  obtain ⟨_, ⟨r0, r1, r2, r3⟩, f0, f1, f2, f3, _⟩ := HC.out _ G1.out
  clear HC HO CI
  go_wp2
  obtain ⟨x0, x1, x2, x3⟩ := set4 (.int .i64 T) (.int .i64 D) (.int .i64 M) (.slice sa F.length cap) r0 r1 r2 r3
  exact bodyPost_ret (v := .tuple #[.agg #[.int .i64 T, .int .i64 D, .int .i64 M, .slice sa F.length cap], .bool false]) (by simp [results, Try.results8, go_sem, x0, x1, x2, x3]) rfl ⟨rfl, grown_above (grown_above (grown_above (grown_above (K0.out.trans G1.out) (by omega) 0 _) (by omega) 1 _) (by omega) 2 _) (by omega) 3 _⟩
set_option maxHeartbeats 8000000 in
theorem ref_push_no2 (T D M k i : Int) (h : w.ownsRow B 35 2 v F.length (cellsP F)) (hF : F.length ≤ 100000) (hI : isT T D k i = true) (hH : (k, i) ∈ F):
    Calls Try.prog 8 #[.agg #[.int .i64 T, .int .i64 D, .int .i64 M, v], .agg #[.int .i64 k, .int .i64 i]] w fun e w' => e = .returned (.tuple #[.agg #[.int .i64 T, .int .i64 D, .int .i64 M, v], .bool false]) ∧ w.grownBy w' none := by
  obtain ⟨sa, cap, rfl, _, _⟩ := own_formP h
  have HC := Lib.hid (facts12 T D M k i sa F.length cap w)
  have K0 : Hid (w.grownBy (((w.alloc (.cells #[.int .i64 T, .int .i64 D, .int .i64 M, .slice sa F.length cap] 30)).alloc (.cells #[.int .i64 k, .int .i64 i] 35)).alloc (.cells #[.int .i64 0, .int .i64 0, .int .i64 0, .slice none 0 0] 30)) none) := Lib.hid (ga _ (ga _ (World.grownBy_alloc w _ none)))
  have HO : Hid (∀ x, (((w.alloc (.cells #[.int .i64 T, .int .i64 D, .int .i64 M, .slice sa F.length cap] 30)).alloc (.cells #[.int .i64 k, .int .i64 i] 35)).alloc (.cells #[.int .i64 0, .int .i64 0, .int .i64 0, .slice none 0 0] 30)).grownBy x none → x.ownsRow B 35 2 (.slice sa F.length cap) F.length (cellsP F)) := Lib.hid fun x kx => own_keepP h (K0.out.trans kx)
  have G0 : Hid ((((w.alloc (.cells #[.int .i64 T, .int .i64 D, .int .i64 M, .slice sa F.length cap] 30)).alloc (.cells #[.int .i64 k, .int .i64 i] 35)).alloc (.cells #[.int .i64 0, .int .i64 0, .int .i64 0, .slice none 0 0] 30)).grownBy (((w.alloc (.cells #[.int .i64 T, .int .i64 D, .int .i64 M, .slice sa F.length cap] 30)).alloc (.cells #[.int .i64 k, .int .i64 i] 35)).alloc (.cells #[.int .i64 0, .int .i64 0, .int .i64 0, .slice none 0 0] 30)).drew none) := Lib.hid (gd (World.grownBy.refl _ _))
  have CI : Hid (∀ v, Calls Try.prog 21 #[.agg #[.int .i64 T, .int .i64 D, .int .i64 M, .slice sa F.length cap], .agg #[.int .i64 k, .int .i64 i]] v fun e w' => e = .returned (.bool true) ∧ v.grownBy w' none) := Lib.hid fun v => by rw [← hI]; exact ref_is T D M k i _ rfl v
  have CH : Hid (∀ x, (((w.alloc (.cells #[.int .i64 T, .int .i64 D, .int .i64 M, .slice sa F.length cap] 30)).alloc (.cells #[.int .i64 k, .int .i64 i] 35)).alloc (.cells #[.int .i64 0, .int .i64 0, .int .i64 0, .slice none 0 0] 30)).grownBy x none → Calls Try.prog 22 #[.agg #[.int .i64 T, .int .i64 D, .int .i64 M, .slice sa F.length cap], .agg #[.int .i64 k, .int .i64 i]] x fun e w' => e = .returned (.bool true) ∧ x.grownBy w' none) := Lib.hid fun x kx => by
    have := ref_has T D M k i (HO.out x kx) hF
    rwa [decide_eq_true hH] at this
  go_enter Try.func8, Try.ntmps8
  go_wp2_with fail
  obtain ⟨hS, _, _⟩ := HC.out _ G0.out
  clear h hI hH
  have hus : Hid ((((w.alloc (.cells #[.int .i64 T, .int .i64 D, .int .i64 M, .slice sa F.length cap] 30)).alloc (.cells #[.int .i64 k, .int .i64 i] 35)).alloc (.cells #[.int .i64 0, .int .i64 0, .int .i64 0, .slice none 0 0] 30)).heap.size = w.heap.size + 3) := Lib.hid (by rw [World.size_alloc, World.size_alloc, World.size_alloc])
  generalize (((w.alloc (.cells #[.int .i64 T, .int .i64 D, .int .i64 M, .slice sa F.length cap] 30)).alloc (.cells #[.int .i64 k, .int .i64 i] 35)).alloc (.cells #[.int .i64 0, .int .i64 0, .int .i64 0, .slice none 0 0] 30)) = u0 at *
  refine wp_region_held_drew (S := fun x => x.cell? ⟨w.heap.size, 0, none⟩ = some (.int .i64 T) ∧ x.cell? ⟨w.heap.size, 1, none⟩ = some (.int .i64 D) ∧ x.cell? ⟨w.heap.size, 2, none⟩ = some (.int .i64 M) ∧ x.cell? ⟨w.heap.size, 3, none⟩ = some (.slice sa F.length cap) ∧ x.cell? ⟨w.heap.size + 1, 0, none⟩ = some (.int .i64 k) ∧ x.cell? ⟨w.heap.size + 1, 1, none⟩ = some (.int .i64 i)) (by kernel_rfl) hS (fun hHeld => ?_)
  clear hS
  refine wpAnyH_take (i := 0) (oi := ⟨_, _, _, _, _, _⟩) (v := ?_) rfl (by kernel_rfl) (by kernel_rfl) (by kernel_rfl) (fun _ _ _ h => h) (Or.inl ⟨by rfl, ?_⟩) (by assumption) ?_
  rotate_left
  · intro wz hSw
    try dsimp only at hSw
    go_simp
    try with_reducible rfl
  simp only [Act.put, List.setIfInBounds_toArray, List.set_cons_zero, List.set_cons_succ]
  refine wpAnyH_take (i := 1) (oi := ⟨_, _, _, _, _, _⟩) (v := ?_) rfl (by kernel_rfl) (by kernel_rfl) (by kernel_rfl) (fun _ _ _ h => h) (Or.inl ⟨by rfl, ?_⟩) (by assumption) ?_
  rotate_left
  · intro wz hSw
    try dsimp only at hSw
    go_simp
    try with_reducible rfl
  simp only [Act.put, List.setIfInBounds_toArray, List.set_cons_zero, List.set_cons_succ]
  refine wpAnyH_ready (rs := [2]) (by kernel_rfl) (by simp) ?_
  refine AllReadyH.cons (o := ⟨_, _, _, _, _, _⟩) rfl (fun K hK => ?_) AllReadyH.nil
  go_simp
  refine (CI.out _).mono ?_
  rintro e u1 ⟨rfl, kk⟩
  have G1 := Lib.hid (G0.out.trans kk)
  obtain ⟨hS, _, _⟩ := HC.out _ G1.out
  clear kk G0
  refine hK.out _ _ hS (fun hHeld => ?_)
  clear hK K
  try simp only [Act.put, List.setIfInBounds_toArray, List.set_cons_zero, List.set_cons_succ]
  clear hS
  refine wpAnyH_take (i := 3) (oi := ⟨_, _, _, _, _, _⟩) (v := ?_) rfl (by kernel_rfl) (by kernel_rfl) (by kernel_rfl) (fun _ _ _ h => h) (Or.inl ⟨by rfl, ?_⟩) (by assumption) ?_
  rotate_left
  · intro wz hSw
    try dsimp only at hSw
    go_simp
    try with_reducible rfl
  simp only [Act.put, List.setIfInBounds_toArray, List.set_cons_zero, List.set_cons_succ]
  refine wpAnyH_take (i := 4) (oi := ⟨_, _, _, _, _, _⟩) (v := ?_) rfl (by kernel_rfl) (by kernel_rfl) (by kernel_rfl) (fun _ _ _ h => h) (Or.inl ⟨by rfl, ?_⟩) (by assumption) ?_
  rotate_left
  · intro wz hSw
    try dsimp only at hSw
    go_simp
    try with_reducible rfl
  simp only [Act.put, List.setIfInBounds_toArray, List.set_cons_zero, List.set_cons_succ]
  refine wpAnyH_take (i := 5) (oi := ⟨_, _, _, _, _, _⟩) (v := ?_) rfl (by kernel_rfl) (by kernel_rfl) (by kernel_rfl) (fun _ _ _ h => h) (Or.inl ⟨by rfl, ?_⟩) (by assumption) ?_
  rotate_left
  · intro wz hSw
    try dsimp only at hSw
    go_simp
    try with_reducible rfl
  simp only [Act.put, List.setIfInBounds_toArray, List.set_cons_zero, List.set_cons_succ]
  refine wpAnyH_take (i := 6) (oi := ⟨_, _, _, _, _, _⟩) (v := ?_) rfl (by kernel_rfl) (by kernel_rfl) (by kernel_rfl) (fun _ _ _ h => h) (Or.inl ⟨by rfl, ?_⟩) (by assumption) ?_
  rotate_left
  · intro wz hSw
    try dsimp only at hSw
    go_simp
    try with_reducible rfl
  simp only [Act.put, List.setIfInBounds_toArray, List.set_cons_zero, List.set_cons_succ]
  refine wpAnyH_ready (rs := [7]) (by kernel_rfl) (by simp) ?_
  refine AllReadyH.cons (o := ⟨_, _, _, _, _, _⟩) rfl (fun K hK => ?_) AllReadyH.nil
  go_simp
  refine (CH.out _ G1.out).mono ?_
  rintro e u2 ⟨rfl, kk⟩
  have G2 := Lib.hid (G1.out.trans kk)
  obtain ⟨hS, _, _⟩ := HC.out _ G2.out
  clear kk G1
  refine hK.out _ _ hS (fun hHeld => ?_)
  clear hK K
  try simp only [Act.put, List.setIfInBounds_toArray, List.set_cons_zero, List.set_cons_succ]
  clear hS
  refine wpAnyH_take (i := 8) (oi := ⟨_, _, _, _, _, _⟩) (v := ?_) rfl (by kernel_rfl) (by kernel_rfl) (by kernel_rfl) (fun _ _ _ h => h) (Or.inl ⟨by rfl, ?_⟩) (by assumption) ?_
  rotate_left
  · intro wz hSw
    try dsimp only at hSw
    go_simp
    try with_reducible rfl
  simp only [Act.put, List.setIfInBounds_toArray, List.set_cons_zero, List.set_cons_succ]
  refine wpAnyH_take (i := 9) (oi := ⟨_, _, _, _, _, _⟩) (v := ?_) rfl (by kernel_rfl) (by kernel_rfl) (by kernel_rfl) (fun _ _ _ h => h) (Or.inl ⟨by rfl, ?_⟩) (by assumption) ?_
  rotate_left
  · intro wz hSw
    try dsimp only at hSw
    go_simp
    try with_reducible rfl
  simp only [Act.put, List.setIfInBounds_toArray, List.set_cons_zero, List.set_cons_succ]
  refine wpAnyH_take (i := 10) (oi := ⟨_, _, _, _, _, _⟩) (v := undef) rfl (by kernel_rfl) (by kernel_rfl) (by kernel_rfl) (fun _ _ _ h => h) (Or.inr ⟨by rfl, rfl⟩) (by assumption) ?_
  simp only [Act.put, List.setIfInBounds_toArray, List.set_cons_zero, List.set_cons_succ]
  refine wpAnyH_take (i := 11) (oi := ⟨_, _, _, _, _, _⟩) (v := undef) rfl (by kernel_rfl) (by kernel_rfl) (by kernel_rfl) (fun _ _ _ h => h) (Or.inr ⟨by rfl, rfl⟩) (by assumption) ?_
  simp only [Act.put, List.setIfInBounds_toArray, List.set_cons_zero, List.set_cons_succ]
  refine wpAnyH_take (i := 12) (oi := ⟨_, _, _, _, _, _⟩) (v := undef) rfl (by kernel_rfl) (by kernel_rfl) (by kernel_rfl) (fun _ _ _ h => h) (Or.inr ⟨by rfl, rfl⟩) (by assumption) ?_
  simp only [Act.put, List.setIfInBounds_toArray, List.set_cons_zero, List.set_cons_succ]
  refine wpAnyH_take (i := 13) (oi := ⟨_, _, _, _, _, _⟩) (v := undef) rfl (by kernel_rfl) (by kernel_rfl) (by kernel_rfl) (fun _ _ _ h => h) (Or.inr ⟨by rfl, rfl⟩) (by assumption) ?_
  simp only [Act.put, List.setIfInBounds_toArray, List.set_cons_zero, List.set_cons_succ]
  refine wpAnyH_take (i := 14) (oi := ⟨_, _, _, _, _, _⟩) (v := undef) rfl (by kernel_rfl) (by kernel_rfl) (by kernel_rfl) (fun _ _ _ h => h) (Or.inr ⟨by rfl, rfl⟩) (by assumption) ?_
  simp only [Act.put, List.setIfInBounds_toArray, List.set_cons_zero, List.set_cons_succ]
  refine wpAnyH_take (i := 15) (oi := ⟨_, _, _, _, _, _⟩) (v := undef) rfl (by kernel_rfl) (by kernel_rfl) (by kernel_rfl) (fun _ _ _ h => h) (Or.inr ⟨by rfl, rfl⟩) (by assumption) ?_
  simp only [Act.put, List.setIfInBounds_toArray, List.set_cons_zero, List.set_cons_succ]
  refine wpAnyH_take (i := 16) (oi := ⟨_, _, _, _, _, _⟩) (v := undef) rfl (by kernel_rfl) (by kernel_rfl) (by kernel_rfl) (fun _ _ _ h => h) (Or.inr ⟨by rfl, rfl⟩) (by assumption) ?_
  simp only [Act.put, List.setIfInBounds_toArray, List.set_cons_zero, List.set_cons_succ]
  refine wpAnyH_take (i := 17) (oi := ⟨_, _, _, _, _, _⟩) (v := undef) rfl (by kernel_rfl) (by kernel_rfl) (by kernel_rfl) (fun _ _ _ h => h) (Or.inr ⟨by rfl, rfl⟩) (by assumption) ?_
  simp only [Act.put, List.setIfInBounds_toArray, List.set_cons_zero, List.set_cons_succ]
  refine wpAnyH_take (i := 18) (oi := ⟨_, _, _, _, _, _⟩) (v := undef) rfl (by kernel_rfl) (by kernel_rfl) (by kernel_rfl) (fun _ _ _ h => h) (Or.inr ⟨by rfl, rfl⟩) (by assumption) ?_
  simp only [Act.put, List.setIfInBounds_toArray, List.set_cons_zero, List.set_cons_succ]
  refine wpAnyH_take (i := 19) (oi := ⟨_, _, _, _, _, _⟩) (v := undef) rfl (by kernel_rfl) (by kernel_rfl) (by kernel_rfl) (fun _ _ _ h => h) (Or.inr ⟨by rfl, rfl⟩) (by assumption) ?_
  simp only [Act.put, List.setIfInBounds_toArray, List.set_cons_zero, List.set_cons_succ]
  refine wpAnyH_take (i := 20) (oi := ⟨_, _, _, _, _, _⟩) (v := ?_) rfl (by kernel_rfl) (by kernel_rfl) (by kernel_rfl) (fun _ _ _ h => h) (Or.inl ⟨by rfl, ?_⟩) (by assumption) ?_
  rotate_left
  · intro wz hSw
    try dsimp only at hSw
    go_simp
    try with_reducible rfl
  simp only [Act.put, List.setIfInBounds_toArray, List.set_cons_zero, List.set_cons_succ]
  refine wpAnyH_done (by kernel_rfl) ?_ _
  obtain ⟨_, ⟨r0, r1, r2, r3⟩, f0, f1, f2, f3, _⟩ := HC.out _ G2.out
  clear HC HO CI
  go_wp2
  obtain ⟨x0, x1, x2, x3⟩ := set4 (.int .i64 T) (.int .i64 D) (.int .i64 M) (.slice sa F.length cap) r0 r1 r2 r3
  exact bodyPost_ret (v := .tuple #[.agg #[.int .i64 T, .int .i64 D, .int .i64 M, .slice sa F.length cap], .bool false]) (by simp [results, Try.results8, go_sem, x0, x1, x2, x3]) rfl ⟨rfl, grown_above (grown_above (grown_above (grown_above (K0.out.trans G2.out) (by omega) 0 _) (by omega) 1 _) (by omega) 2 _) (by omega) 3 _⟩
set_option maxHeartbeats 8000000 in
theorem ref_push_no3 (T D M i : Int) (h : w.ownsRow B 35 2 v F.length (cellsP F)) (hF : F.length ≤ 100000) (hI : isT T D 2 i = true) (hH : (2, i) ∉ F) (hM : decide (M ≤ (heldF F : Int)) = true):
    Calls Try.prog 8 #[.agg #[.int .i64 T, .int .i64 D, .int .i64 M, v], .agg #[.int .i64 2, .int .i64 i]] w fun e w' => e = .returned (.tuple #[.agg #[.int .i64 T, .int .i64 D, .int .i64 M, v], .bool false]) ∧ w.grownBy w' none := by
  obtain ⟨sa, cap, rfl, _, _⟩ := own_formP h
  have HC := Lib.hid (facts12 T D M 2 i sa F.length cap w)
  have K0 : Hid (w.grownBy (((w.alloc (.cells #[.int .i64 T, .int .i64 D, .int .i64 M, .slice sa F.length cap] 30)).alloc (.cells #[.int .i64 2, .int .i64 i] 35)).alloc (.cells #[.int .i64 0, .int .i64 0, .int .i64 0, .slice none 0 0] 30)) none) := Lib.hid (ga _ (ga _ (World.grownBy_alloc w _ none)))
  have HO : Hid (∀ x, (((w.alloc (.cells #[.int .i64 T, .int .i64 D, .int .i64 M, .slice sa F.length cap] 30)).alloc (.cells #[.int .i64 2, .int .i64 i] 35)).alloc (.cells #[.int .i64 0, .int .i64 0, .int .i64 0, .slice none 0 0] 30)).grownBy x none → x.ownsRow B 35 2 (.slice sa F.length cap) F.length (cellsP F)) := Lib.hid fun x kx => own_keepP h (K0.out.trans kx)
  have G0 : Hid ((((w.alloc (.cells #[.int .i64 T, .int .i64 D, .int .i64 M, .slice sa F.length cap] 30)).alloc (.cells #[.int .i64 2, .int .i64 i] 35)).alloc (.cells #[.int .i64 0, .int .i64 0, .int .i64 0, .slice none 0 0] 30)).grownBy (((w.alloc (.cells #[.int .i64 T, .int .i64 D, .int .i64 M, .slice sa F.length cap] 30)).alloc (.cells #[.int .i64 2, .int .i64 i] 35)).alloc (.cells #[.int .i64 0, .int .i64 0, .int .i64 0, .slice none 0 0] 30)).drew none) := Lib.hid (gd (World.grownBy.refl _ _))
  have CI : Hid (∀ v, Calls Try.prog 21 #[.agg #[.int .i64 T, .int .i64 D, .int .i64 M, .slice sa F.length cap], .agg #[.int .i64 2, .int .i64 i]] v fun e w' => e = .returned (.bool true) ∧ v.grownBy w' none) := Lib.hid fun v => by rw [← hI]; exact ref_is T D M 2 i _ rfl v
  have CH : Hid (∀ x, (((w.alloc (.cells #[.int .i64 T, .int .i64 D, .int .i64 M, .slice sa F.length cap] 30)).alloc (.cells #[.int .i64 2, .int .i64 i] 35)).alloc (.cells #[.int .i64 0, .int .i64 0, .int .i64 0, .slice none 0 0] 30)).grownBy x none → Calls Try.prog 22 #[.agg #[.int .i64 T, .int .i64 D, .int .i64 M, .slice sa F.length cap], .agg #[.int .i64 2, .int .i64 i]] x fun e w' => e = .returned (.bool false) ∧ x.grownBy w' none) := Lib.hid fun x kx => by
    have := ref_has T D M 2 i (HO.out x kx) hF
    rwa [decide_eq_false hH] at this
  have CE : Hid (∀ x, (((w.alloc (.cells #[.int .i64 T, .int .i64 D, .int .i64 M, .slice sa F.length cap] 30)).alloc (.cells #[.int .i64 2, .int .i64 i] 35)).alloc (.cells #[.int .i64 0, .int .i64 0, .int .i64 0, .slice none 0 0] 30)).grownBy x none → Calls Try.prog 23 #[.agg #[.int .i64 T, .int .i64 D, .int .i64 M, .slice sa F.length cap]] x fun e w' => e = .returned (.int .i64 (heldF F : Nat)) ∧ x.grownBy w' none) := Lib.hid fun x kx => ref_held T D M (HO.out x kx) hF
  go_enter Try.func8, Try.ntmps8
  go_wp2_with fail
  obtain ⟨hS, _, _⟩ := HC.out _ G0.out
  clear h hI hH
  have hus : Hid ((((w.alloc (.cells #[.int .i64 T, .int .i64 D, .int .i64 M, .slice sa F.length cap] 30)).alloc (.cells #[.int .i64 2, .int .i64 i] 35)).alloc (.cells #[.int .i64 0, .int .i64 0, .int .i64 0, .slice none 0 0] 30)).heap.size = w.heap.size + 3) := Lib.hid (by rw [World.size_alloc, World.size_alloc, World.size_alloc])
  generalize (((w.alloc (.cells #[.int .i64 T, .int .i64 D, .int .i64 M, .slice sa F.length cap] 30)).alloc (.cells #[.int .i64 2, .int .i64 i] 35)).alloc (.cells #[.int .i64 0, .int .i64 0, .int .i64 0, .slice none 0 0] 30)) = u0 at *
  refine wp_region_held_drew (S := fun x => x.cell? ⟨w.heap.size, 0, none⟩ = some (.int .i64 T) ∧ x.cell? ⟨w.heap.size, 1, none⟩ = some (.int .i64 D) ∧ x.cell? ⟨w.heap.size, 2, none⟩ = some (.int .i64 M) ∧ x.cell? ⟨w.heap.size, 3, none⟩ = some (.slice sa F.length cap) ∧ x.cell? ⟨w.heap.size + 1, 0, none⟩ = some (.int .i64 2) ∧ x.cell? ⟨w.heap.size + 1, 1, none⟩ = some (.int .i64 i)) (by kernel_rfl) hS (fun hHeld => ?_)
  clear hS
  refine wpAnyH_take (i := 0) (oi := ⟨_, _, _, _, _, _⟩) (v := ?_) rfl (by kernel_rfl) (by kernel_rfl) (by kernel_rfl) (fun _ _ _ h => h) (Or.inl ⟨by rfl, ?_⟩) (by assumption) ?_
  rotate_left
  · intro wz hSw
    try dsimp only at hSw
    go_simp
    try with_reducible rfl
  simp only [Act.put, List.setIfInBounds_toArray, List.set_cons_zero, List.set_cons_succ]
  refine wpAnyH_take (i := 1) (oi := ⟨_, _, _, _, _, _⟩) (v := ?_) rfl (by kernel_rfl) (by kernel_rfl) (by kernel_rfl) (fun _ _ _ h => h) (Or.inl ⟨by rfl, ?_⟩) (by assumption) ?_
  rotate_left
  · intro wz hSw
    try dsimp only at hSw
    go_simp
    try with_reducible rfl
  simp only [Act.put, List.setIfInBounds_toArray, List.set_cons_zero, List.set_cons_succ]
  refine wpAnyH_ready (rs := [2]) (by kernel_rfl) (by simp) ?_
  refine AllReadyH.cons (o := ⟨_, _, _, _, _, _⟩) rfl (fun K hK => ?_) AllReadyH.nil
  go_simp
  refine (CI.out _).mono ?_
  rintro e u1 ⟨rfl, kk⟩
  have G1 := Lib.hid (G0.out.trans kk)
  obtain ⟨hS, _, _⟩ := HC.out _ G1.out
  clear kk G0
  refine hK.out _ _ hS (fun hHeld => ?_)
  clear hK K
  try simp only [Act.put, List.setIfInBounds_toArray, List.set_cons_zero, List.set_cons_succ]
  clear hS
  refine wpAnyH_take (i := 3) (oi := ⟨_, _, _, _, _, _⟩) (v := ?_) rfl (by kernel_rfl) (by kernel_rfl) (by kernel_rfl) (fun _ _ _ h => h) (Or.inl ⟨by rfl, ?_⟩) (by assumption) ?_
  rotate_left
  · intro wz hSw
    try dsimp only at hSw
    go_simp
    try with_reducible rfl
  simp only [Act.put, List.setIfInBounds_toArray, List.set_cons_zero, List.set_cons_succ]
  refine wpAnyH_take (i := 4) (oi := ⟨_, _, _, _, _, _⟩) (v := ?_) rfl (by kernel_rfl) (by kernel_rfl) (by kernel_rfl) (fun _ _ _ h => h) (Or.inl ⟨by rfl, ?_⟩) (by assumption) ?_
  rotate_left
  · intro wz hSw
    try dsimp only at hSw
    go_simp
    try with_reducible rfl
  simp only [Act.put, List.setIfInBounds_toArray, List.set_cons_zero, List.set_cons_succ]
  refine wpAnyH_take (i := 5) (oi := ⟨_, _, _, _, _, _⟩) (v := ?_) rfl (by kernel_rfl) (by kernel_rfl) (by kernel_rfl) (fun _ _ _ h => h) (Or.inl ⟨by rfl, ?_⟩) (by assumption) ?_
  rotate_left
  · intro wz hSw
    try dsimp only at hSw
    go_simp
    try with_reducible rfl
  simp only [Act.put, List.setIfInBounds_toArray, List.set_cons_zero, List.set_cons_succ]
  refine wpAnyH_take (i := 6) (oi := ⟨_, _, _, _, _, _⟩) (v := ?_) rfl (by kernel_rfl) (by kernel_rfl) (by kernel_rfl) (fun _ _ _ h => h) (Or.inl ⟨by rfl, ?_⟩) (by assumption) ?_
  rotate_left
  · intro wz hSw
    try dsimp only at hSw
    go_simp
    try with_reducible rfl
  simp only [Act.put, List.setIfInBounds_toArray, List.set_cons_zero, List.set_cons_succ]
  refine wpAnyH_ready (rs := [7]) (by kernel_rfl) (by simp) ?_
  refine AllReadyH.cons (o := ⟨_, _, _, _, _, _⟩) rfl (fun K hK => ?_) AllReadyH.nil
  go_simp
  refine (CH.out _ G1.out).mono ?_
  rintro e u2 ⟨rfl, kk⟩
  have G2 := Lib.hid (G1.out.trans kk)
  obtain ⟨hS, _, _⟩ := HC.out _ G2.out
  clear kk G1
  refine hK.out _ _ hS (fun hHeld => ?_)
  clear hK K
  try simp only [Act.put, List.setIfInBounds_toArray, List.set_cons_zero, List.set_cons_succ]
  clear hS
  refine wpAnyH_take (i := 8) (oi := ⟨_, _, _, _, _, _⟩) (v := ?_) rfl (by kernel_rfl) (by kernel_rfl) (by kernel_rfl) (fun _ _ _ h => h) (Or.inl ⟨by rfl, ?_⟩) (by assumption) ?_
  rotate_left
  · intro wz hSw
    try dsimp only at hSw
    go_simp
    try with_reducible rfl
  simp only [Act.put, List.setIfInBounds_toArray, List.set_cons_zero, List.set_cons_succ]
  refine wpAnyH_take (i := 9) (oi := ⟨_, _, _, _, _, _⟩) (v := ?_) rfl (by kernel_rfl) (by kernel_rfl) (by kernel_rfl) (fun _ _ _ h => h) (Or.inl ⟨by rfl, ?_⟩) (by assumption) ?_
  rotate_left
  · intro wz hSw
    try dsimp only at hSw
    go_simp
    try with_reducible rfl
  simp only [Act.put, List.setIfInBounds_toArray, List.set_cons_zero, List.set_cons_succ]
  refine wpAnyH_take (i := 10) (oi := ⟨_, _, _, _, _, _⟩) (v := ?_) rfl (by kernel_rfl) (by kernel_rfl) (by kernel_rfl) (fun _ _ _ h => h) (Or.inl ⟨by rfl, ?_⟩) (by assumption) ?_
  rotate_left
  · intro wz hSw
    try dsimp only at hSw
    go_simp
    try with_reducible rfl
  simp only [Act.put, List.setIfInBounds_toArray, List.set_cons_zero, List.set_cons_succ]
  refine wpAnyH_take (i := 11) (oi := ⟨_, _, _, _, _, _⟩) (v := ?_) rfl (by kernel_rfl) (by kernel_rfl) (by kernel_rfl) (fun _ _ _ h => h) (Or.inl ⟨by rfl, ?_⟩) (by assumption) ?_
  rotate_left
  · intro wz hSw
    try dsimp only at hSw
    go_simp
    try with_reducible rfl
  simp only [Act.put, List.setIfInBounds_toArray, List.set_cons_zero, List.set_cons_succ]
  refine wpAnyH_take (i := 12) (oi := ⟨_, _, _, _, _, _⟩) (v := ?_) rfl (by kernel_rfl) (by kernel_rfl) (by kernel_rfl) (fun _ _ _ h => h) (Or.inl ⟨by rfl, ?_⟩) (by assumption) ?_
  rotate_left
  · intro wz hSw
    try dsimp only at hSw
    go_simp
    try with_reducible rfl
  simp only [Act.put, List.setIfInBounds_toArray, List.set_cons_zero, List.set_cons_succ]
  refine wpAnyH_take (i := 13) (oi := ⟨_, _, _, _, _, _⟩) (v := ?_) rfl (by kernel_rfl) (by kernel_rfl) (by kernel_rfl) (fun _ _ _ h => h) (Or.inl ⟨by rfl, ?_⟩) (by assumption) ?_
  rotate_left
  · intro wz hSw
    try dsimp only at hSw
    go_simp
    try with_reducible rfl
  simp only [Act.put, List.setIfInBounds_toArray, List.set_cons_zero, List.set_cons_succ]
  refine wpAnyH_take (i := 14) (oi := ⟨_, _, _, _, _, _⟩) (v := ?_) rfl (by kernel_rfl) (by kernel_rfl) (by kernel_rfl) (fun _ _ _ h => h) (Or.inl ⟨by rfl, ?_⟩) (by assumption) ?_
  rotate_left
  · intro wz hSw
    try dsimp only at hSw
    go_simp
    try with_reducible rfl
  simp only [Act.put, List.setIfInBounds_toArray, List.set_cons_zero, List.set_cons_succ]
  refine wpAnyH_take (i := 16) (oi := ⟨_, _, _, _, _, _⟩) (v := ?_) rfl (by kernel_rfl) (by kernel_rfl) (by kernel_rfl) (fun _ _ _ h => h) (Or.inl ⟨by rfl, ?_⟩) (by assumption) ?_
  rotate_left
  · intro wz hSw
    try dsimp only at hSw
    go_simp
    try with_reducible rfl
  simp only [Act.put, List.setIfInBounds_toArray, List.set_cons_zero, List.set_cons_succ]
  refine wpAnyH_take (i := 17) (oi := ⟨_, _, _, _, _, _⟩) (v := ?_) rfl (by kernel_rfl) (by kernel_rfl) (by kernel_rfl) (fun _ _ _ h => h) (Or.inl ⟨by rfl, ?_⟩) (by assumption) ?_
  rotate_left
  · intro wz hSw
    try dsimp only at hSw
    go_simp
    try with_reducible rfl
  simp only [Act.put, List.setIfInBounds_toArray, List.set_cons_zero, List.set_cons_succ]
  refine wpAnyH_ready (rs := [15]) (by kernel_rfl) (by simp) ?_
  refine AllReadyH.cons (o := ⟨_, _, _, _, _, _⟩) rfl (fun K hK => ?_) AllReadyH.nil
  go_simp
  refine (CE.out _ G2.out).mono ?_
  rintro e u3 ⟨rfl, kk⟩
  have G3 := Lib.hid (G2.out.trans kk)
  obtain ⟨hS, _, _⟩ := HC.out _ G3.out
  clear kk G2
  refine hK.out _ _ hS (fun hHeld => ?_)
  clear hK K
  try simp only [Act.put, List.setIfInBounds_toArray, List.set_cons_zero, List.set_cons_succ]
  clear hS
  refine wpAnyH_take (i := 18) (oi := ⟨_, _, _, _, _, _⟩) (v := ?_) rfl (by kernel_rfl) (by kernel_rfl) (by kernel_rfl) (fun _ _ _ h => h) (Or.inl ⟨by rfl, ?_⟩) (by assumption) ?_
  rotate_left
  · intro wz hSw
    try dsimp only at hSw
    go_simp
    try with_reducible rfl
  simp only [Act.put, List.setIfInBounds_toArray, List.set_cons_zero, List.set_cons_succ]
  refine wpAnyH_take (i := 19) (oi := ⟨_, _, _, _, _, _⟩) (v := ?_) rfl (by kernel_rfl) (by kernel_rfl) (by kernel_rfl) (fun _ _ _ h => h) (Or.inl ⟨by rfl, ?_⟩) (by assumption) ?_
  rotate_left
  · intro wz hSw
    try dsimp only at hSw
    go_simp
    try with_reducible rfl
  simp only [Act.put, List.setIfInBounds_toArray, List.set_cons_zero, List.set_cons_succ]
  refine wpAnyH_take (i := 20) (oi := ⟨_, _, _, _, _, _⟩) (v := ?_) rfl (by kernel_rfl) (by kernel_rfl) (by kernel_rfl) (fun _ _ _ h => h) (Or.inl ⟨by rfl, ?_⟩) (by assumption) ?_
  rotate_left
  · intro wz hSw
    try dsimp only at hSw
    go_simp
    try with_reducible rfl
  simp only [Act.put, List.setIfInBounds_toArray, List.set_cons_zero, List.set_cons_succ]
  refine wpAnyH_done (by kernel_rfl) ?_ _
  obtain ⟨_, ⟨r0, r1, r2, r3⟩, f0, f1, f2, f3, _⟩ := HC.out _ G3.out
  clear HC HO CI
  go_wp2
  obtain ⟨x0, x1, x2, x3⟩ := set4 (.int .i64 T) (.int .i64 D) (.int .i64 M) (.slice sa F.length cap) r0 r1 r2 r3
  exact bodyPost_ret (v := .tuple #[.agg #[.int .i64 T, .int .i64 D, .int .i64 M, .slice sa F.length cap], .bool false]) (by simp [results, Try.results8, go_sem, x0, x1, x2, x3]) rfl ⟨rfl, grown_above (grown_above (grown_above (grown_above (K0.out.trans G3.out) (by omega) 0 _) (by omega) 1 _) (by omega) 2 _) (by omega) 3 _⟩

end
end Go.Proofs.Ytmmpnfkfieikcaa
