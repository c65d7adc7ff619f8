/-
  The document's answers for queue (nightjarref12): Pop.
-/
import Derived.Test.YtmmpnfkfieikcaaRef12b
import Derived.Deep.Cut
namespace Go.Proofs.Ytmmpnfkfieikcaa
open Go.RowKit Go.Lib
set_option maxRecDepth 100000
set_option linter.unusedVariables false
section
variable {w w' : World} {B : Nat} {v : Value} {F : List (Int × Int)}
theorem factsP (T D M : Int) (sa : Option Addr) (n cap : Nat) (w : World) : ∀ x : World, (((w.alloc (.cells #[.int .i64 T, .int .i64 D, .int .i64 M, .slice sa n cap] 30)).alloc (.cells #[.int .i64 0, .int .i64 0, .int .i64 0, .slice none 0 0] 30)).alloc (.cells #[.int .i64 0, .int .i64 0] 35)).grownBy x none → (x.cell? ⟨w.heap.size, 0, none⟩ = some (.int .i64 T) ∧ x.cell? ⟨w.heap.size, 1, none⟩ = some (.int .i64 D) ∧ x.cell? ⟨w.heap.size, 2, none⟩ = some (.int .i64 M) ∧ x.cell? ⟨w.heap.size, 3, none⟩ = some (.slice sa n cap)) ∧ (x.cell? ⟨w.heap.size + 1, 0, none⟩ = some (.int .i64 0) ∧ x.cell? ⟨w.heap.size + 1, 1, none⟩ = some (.int .i64 0) ∧ x.cell? ⟨w.heap.size + 1, 2, none⟩ = some (.int .i64 0) ∧ x.cell? ⟨w.heap.size + 1, 3, none⟩ = some (.slice none 0 0) ∧ x.cell? ⟨w.heap.size + 2, 0, none⟩ = some (.int .i64 0) ∧ x.cell? ⟨w.heap.size + 2, 1, none⟩ = some (.int .i64 0)) ∧ (x.frozen? ⟨w.heap.size, 3, none⟩ = false ∧ x.frozen? ⟨w.heap.size + 1, 0, none⟩ = false ∧ x.frozen? ⟨w.heap.size + 1, 1, none⟩ = false ∧ x.frozen? ⟨w.heap.size + 1, 2, none⟩ = false ∧ x.frozen? ⟨w.heap.size + 1, 3, none⟩ = false ∧ x.frozen? ⟨w.heap.size + 2, 0, none⟩ = false ∧ x.frozen? ⟨w.heap.size + 2, 1, none⟩ = false) := by
  intro x kx
  have k1 := World.grownBy_alloc (w.alloc (.cells #[.int .i64 T, .int .i64 D, .int .i64 M, .slice sa n cap] 30)) (.cells #[.int .i64 0, .int .i64 0, .int .i64 0, .slice none 0 0] 30) none
  have k2 := World.grownBy_alloc ((w.alloc (.cells #[.int .i64 T, .int .i64 D, .int .i64 M, .slice sa n cap] 30)).alloc (.cells #[.int .i64 0, .int .i64 0, .int .i64 0, .slice none 0 0] 30)) (.cells #[.int .i64 0, .int .i64 0] 35) none
  have s1 : (w.alloc (.cells #[.int .i64 T, .int .i64 D, .int .i64 M, .slice sa n cap] 30)).heap.size = w.heap.size + 1 := World.size_alloc ..
  have s2 : ((w.alloc (.cells #[.int .i64 T, .int .i64 D, .int .i64 M, .slice sa n cap] 30)).alloc (.cells #[.int .i64 0, .int .i64 0, .int .i64 0, .slice none 0 0] 30)).heap.size = w.heap.size + 2 := by rw [World.size_alloc, s1]
  have s3 : (((w.alloc (.cells #[.int .i64 T, .int .i64 D, .int .i64 M, .slice sa n cap] 30)).alloc (.cells #[.int .i64 0, .int .i64 0, .int .i64 0, .slice none 0 0] 30)).alloc (.cells #[.int .i64 0, .int .i64 0] 35)).heap.size = w.heap.size + 3 := by rw [World.size_alloc, s2]
  have ka := (k1.trans k2).trans kx
  have kb := k2.trans kx
  have b : ∀ o v, #[Value.int .i64 0, .int .i64 0, .int .i64 0, .slice none 0 0][o]? = some v → ((w.alloc (.cells #[.int .i64 T, .int .i64 D, .int .i64 M, .slice sa n cap] 30)).alloc (.cells #[.int .i64 0, .int .i64 0, .int .i64 0, .slice none 0 0] 30)).cell? ⟨w.heap.size + 1, o, none⟩ = some v := fun o v h => by rw [← s1]; exact (World.cell?_alloc_at _ _ _ o rfl).trans h
  have c : ∀ o v, #[Value.int .i64 0, .int .i64 0][o]? = some v → (((w.alloc (.cells #[.int .i64 T, .int .i64 D, .int .i64 M, .slice sa n cap] 30)).alloc (.cells #[.int .i64 0, .int .i64 0, .int .i64 0, .slice none 0 0] 30)).alloc (.cells #[.int .i64 0, .int .i64 0] 35)).cell? ⟨w.heap.size + 2, o, none⟩ = some v := fun o v h => by rw [← s2]; exact (World.cell?_alloc_at _ _ _ o rfl).trans h
  have f2 : ∀ o, x.frozen? ⟨w.heap.size + 2, o, none⟩ = false := fun o => (kx.frozen_far ⟨w.heap.size + 2, o, none⟩ (by show w.heap.size + 2 < _; omega) (by simp)).trans (by rw [← s2]; try simp [go_sem])
  have f1 : ∀ o, x.frozen? ⟨w.heap.size + 1, o, none⟩ = false := fun o => (kb.frozen_far ⟨w.heap.size + 1, o, none⟩ (by show w.heap.size + 1 < _; omega) (by simp)).trans (by rw [← s1]; try simp [go_sem])
  have f0 : x.frozen? ⟨w.heap.size, 3, none⟩ = false := (ka.frozen_far ⟨w.heap.size, 3, none⟩ (by show w.heap.size < _; omega) (by simp)).trans (by simp [go_sem])
  exact ⟨⟨ka.cell (World.cell?_alloc_at _ _ _ 0 rfl) (by simp), ka.cell (World.cell?_alloc_at _ _ _ 1 rfl) (by simp), ka.cell (World.cell?_alloc_at _ _ _ 2 rfl) (by simp), ka.cell (World.cell?_alloc_at _ _ _ 3 rfl) (by simp)⟩, ⟨kb.cell (b 0 _ rfl) (by simp), kb.cell (b 1 _ rfl) (by simp), kb.cell (b 2 _ rfl) (by simp), kb.cell (b 3 _ rfl) (by simp), kx.cell (c 0 _ rfl) (by simp), kx.cell (c 1 _ rfl) (by simp)⟩, f0, f1 0, f1 1, f1 2, f1 3, f2 0, f2 1⟩
theorem only4 {w : World} {b : Nat} (v0 v1 v2 v3 : Value) : Only b (b + 1) w ((((w.setCell ⟨b, 0, none⟩ v0).setCell ⟨b, 1, none⟩ v1).setCell ⟨b, 2, none⟩ v2).setCell ⟨b, 3, none⟩ v3) :=
  (((Only.set w ⟨b, 0, none⟩ v0 (Nat.le_refl b) (Nat.lt_succ_self b)).trans (Only.set _ ⟨b, 1, none⟩ v1 (Nat.le_refl b) (Nat.lt_succ_self b))).trans (Only.set _ ⟨b, 2, none⟩ v2 (Nat.le_refl b) (Nat.lt_succ_self b))).trans (Only.set _ ⟨b, 3, none⟩ v3 (Nat.le_refl b) (Nat.lt_succ_self b))
theorem only2 {w : World} {b : Nat} (v0 v1 : Value) : Only b (b + 1) w ((w.setCell ⟨b, 0, none⟩ v0).setCell ⟨b, 1, none⟩ v1) :=
  (Only.set w ⟨b, 0, none⟩ v0 (Nat.le_refl b) (Nat.lt_succ_self b)).trans (Only.set _ ⟨b, 1, none⟩ v1 (Nat.le_refl b) (Nat.lt_succ_self b))
theorem grown_only {a b c : World} {lo hi : Nat} (h : a.grownBy b none) (k : Only lo hi b c) (hl : a.heap.size ≤ lo) : a.grownBy c none := Only.on h k hl
set_option maxHeartbeats 8000000 in
theorem ref_pop_none (T D M : Int) (h : w.ownsRow B 35 2 v 0 (cellsP [])) :
    Calls Try.prog 12 #[.agg #[.int .i64 T, .int .i64 D, .int .i64 M, v]] w fun e w' => e = .returned (.tuple #[.agg #[.int .i64 T, .int .i64 D, .int .i64 M, v], .agg #[.int .i64 0, .int .i64 0], .bool false]) ∧ w.grownBy w' none := by
  obtain ⟨sa, cap, rfl, _, _⟩ := own_formP h
  go_enter Try.func12, Try.ntmps12
  go_wp2
  exact bodyPost_ret (v := .tuple #[.agg #[.int .i64 T, .int .i64 D, .int .i64 M, .slice sa 0 cap], .agg #[.int .i64 0, .int .i64 0], .bool false]) (by simp [results, Try.results12, go_sem]) rfl ⟨rfl, ga _ (ga _ (World.grownBy_alloc w _ none))⟩

theorem slice1R (b n cap : Nat) (hc : n + 1 ≤ cap) (w : World) : (Instr.slice 28 (.slice (some ⟨b, 0, none⟩) (n + 1) cap) (some (.int .i64 1)) none none).run Try.prog w = .ok (.slice (if cap = 1 then some ⟨b, 0, none⟩ else some ⟨b, 2, none⟩) n (cap - 1)) w := by
  obtain ⟨i0, hi0, _, hi2, _⟩ := thingR_info
  have e : (⟨b, 0, none⟩ : Addr).add 2 = ⟨b, 2, none⟩ := by simp [Addr.add]
  simp [Instr.slice, run_underlying Try.underlying28 w, Instr.sliceBounds, Instr.sliceBound, asIntOf, sizeOf, typeInfo, hi0, hi2, e, go_sem]
  intro h
  omega
theorem tail_src {x : World} {g cap : Nat} {a : Int × Int} {r : List (Int × Int)} (h : x.ownsRow B 35 2 (.slice (some ⟨g, 0, none⟩) (r.length + 1) cap) (r.length + 1) (cellsP (a :: r))) : r.length + 1 ≤ cap ∧ SrcAt x 2 (.slice (if cap = 1 then some ⟨g, 0, none⟩ else some ⟨g, 2, none⟩) r.length (cap - 1)) r.length (cellsP r) := by
  have hb : (Value.slice (some ⟨g, 0, none⟩) (r.length + 1) cap).ownBlock = some g := rfl
  have hcell : ∀ j u, (cellsP (a :: r))[j]? = some u → x.cell? ⟨g, j, none⟩ = some u := fun j u hu => own_cellP h hu hb
  have hcap : r.length + 1 ≤ cap := by
    rcases h.2 with ⟨h0, _⟩ | ⟨g', cap', cur, hv, _, _, hn, _⟩
    · cases h0
    · injection hv with _ _ h3
      omega
  refine ⟨hcap, ?_⟩
  by_cases hc : cap = 1
  · have hr : r = [] := List.length_eq_zero_iff.1 (by omega)
    subst hr
    exact Or.inl ⟨⟨g, 0, none⟩, _, by rw [if_pos hc], rfl, (fun j u hu => by simp [cellsP] at hu), (fun u hu => by simp [cellsP] at hu)⟩
  · refine Or.inl ⟨⟨g, 2, none⟩, _, by rw [if_neg hc], cellsP_len r, fun j u hu => ?_, cellsP_one r⟩
    have e : (cellsP (a :: r))[j + 2]? = some u := hu
    have := hcell (j + 2) u e
    by_cases hj : j = 0
    · subst hj; simpa [Addr.add] using this
    · have e2 : (⟨g, 2, none⟩ : Addr).add j = ⟨g, j + 2, none⟩ := by simp [Addr.add, hj]; omega
      rw [e2]
      exact this
set_option maxHeartbeats 8000000 in
theorem ref_pop_some (T D M xk xi : Int) (r : List (Int × Int)) (h : w.ownsRow B 35 2 v (r.length + 1) (cellsP ((xk, xi) :: r))) (hF : r.length ≤ 100000) :
    Calls Try.prog 12 #[.agg #[.int .i64 T, .int .i64 D, .int .i64 M, v]] w fun e w' => (∃ v', e = .returned (.tuple #[.agg #[.int .i64 T, .int .i64 D, .int .i64 M, v'], .agg #[.int .i64 xk, .int .i64 xi], .bool true]) ∧ w'.ownsRow w.heap.size 35 2 v' r.length (cellsP r)) ∧ w.grownBy w' none := by
  obtain ⟨sa, cap, rfl, hnb, hso⟩ := own_formP h
  obtain ⟨g, rfl⟩ : ∃ g, sa = some ⟨g, 0, none⟩ := by
    cases e : (Value.slice sa (r.length + 1) cap).ownBlock with
    | none => have := hnb e; omega
    | some g => exact ⟨g, hso g e⟩
  have HC := Lib.hid (factsP T D M (some ⟨g, 0, none⟩) (r.length + 1) cap w)
  have K0 : Hid (w.grownBy (((w.alloc (.cells #[.int .i64 T, .int .i64 D, .int .i64 M, .slice (some ⟨g, 0, none⟩) (r.length + 1) cap] 30)).alloc (.cells #[.int .i64 0, .int .i64 0, .int .i64 0, .slice none 0 0] 30)).alloc (.cells #[.int .i64 0, .int .i64 0] 35)) none) := Lib.hid (ga _ (ga _ (World.grownBy_alloc w _ none)))
  have G0 := Lib.hid (World.grownBy.refl (((w.alloc (.cells #[.int .i64 T, .int .i64 D, .int .i64 M, .slice (some ⟨g, 0, none⟩) (r.length + 1) cap] 30)).alloc (.cells #[.int .i64 0, .int .i64 0, .int .i64 0, .slice none 0 0] 30)).alloc (.cells #[.int .i64 0, .int .i64 0] 35)) none)
  have HO : Hid (∀ x, (((w.alloc (.cells #[.int .i64 T, .int .i64 D, .int .i64 M, .slice (some ⟨g, 0, none⟩) (r.length + 1) cap] 30)).alloc (.cells #[.int .i64 0, .int .i64 0, .int .i64 0, .slice none 0 0] 30)).alloc (.cells #[.int .i64 0, .int .i64 0] 35)).grownBy x none → x.ownsRow B 35 2 (.slice (some ⟨g, 0, none⟩) (r.length + 1) cap) (r.length + 1) (cellsP ((xk, xi) :: r))) := Lib.hid fun x kx => own_keepP h (K0.out.trans kx)
  have hus : (((w.alloc (.cells #[.int .i64 T, .int .i64 D, .int .i64 M, .slice (some ⟨g, 0, none⟩) (r.length + 1) cap] 30)).alloc (.cells #[.int .i64 0, .int .i64 0, .int .i64 0, .slice none 0 0] 30)).alloc (.cells #[.int .i64 0, .int .i64 0] 35)).heap.size = w.heap.size + 3 := by rw [World.size_alloc, World.size_alloc, World.size_alloc]
  obtain ⟨⟨a0, a1, a2, a3⟩, _, _⟩ := HC.out _ G0.out
  have z0 := own_cellP (HO.out _ G0.out) (cellsP_at ((xk, xi) :: r) 0 (xk, xi) rfl).1 rfl
  have z1 := own_cellP (HO.out _ G0.out) (cellsP_at ((xk, xi) :: r) 0 (xk, xi) rfl).2 rfl
  have hcap := (tail_src (HO.out _ G0.out)).1
  have hsl := slice1R g r.length cap hcap
  have hSRC : Hid (∀ x, (((w.alloc (.cells #[.int .i64 T, .int .i64 D, .int .i64 M, .slice (some ⟨g, 0, none⟩) (r.length + 1) cap] 30)).alloc (.cells #[.int .i64 0, .int .i64 0, .int .i64 0, .slice none 0 0] 30)).alloc (.cells #[.int .i64 0, .int .i64 0] 35)).grownBy x none → SrcAt x 2 (.slice (if cap = 1 then some ⟨g, 0, none⟩ else some ⟨g, 2, none⟩) r.length (cap - 1)) r.length (cellsP r)) := Lib.hid fun x kx => (tail_src (HO.out x kx)).2
  obtain ⟨ta, hta⟩ : ∃ ta, (if cap = 1 then (some ⟨g, 0, none⟩ : Option Addr) else some ⟨g, 2, none⟩) = ta := ⟨_, rfl⟩
  rw [hta] at hsl hSRC
  clear hta
  have qr : ((r.length + 1 : Nat) == 0) = false := by simp
  obtain ⟨i0, hi0, hi1, hi2, hi3⟩ := thingR_info
  have I0 := Lib.hid hi0
  have I1 := Lib.hid hi1
  have I2 := Lib.hid hi2
  have I3 := Lib.hid hi3
  clear hi0 hi1 hi2 hi3 h hnb hso
  simp only [Nat.zero_mul, Nat.zero_add] at z0 z1
  have e4 : ((((w.alloc (.cells #[.int .i64 T, .int .i64 D, .int .i64 M, .slice (some ⟨g, 0, none⟩) (r.length + 1) cap] 30)).alloc (.cells #[.int .i64 0, .int .i64 0, .int .i64 0, .slice none 0 0] 30)).alloc (.cells #[.int .i64 0, .int .i64 0] 35)).alloc (.cells #[.int .i64 xk, .int .i64 xi] 35)).heap.size = w.heap.size + 4 := by rw [World.size_alloc, hus]
  have hR0 := litR ((((w.alloc (.cells #[.int .i64 T, .int .i64 D, .int .i64 M, .slice (some ⟨g, 0, none⟩) (r.length + 1) cap] 30)).alloc (.cells #[.int .i64 0, .int .i64 0, .int .i64 0, .slice none 0 0] 30)).alloc (.cells #[.int .i64 0, .int .i64 0] 35)).alloc (.cells #[.int .i64 xk, .int .i64 xi] 35)) (((w.alloc (.cells #[.int .i64 T, .int .i64 D, .int .i64 M, .slice (some ⟨g, 0, none⟩) (r.length + 1) cap] 30)).alloc (.cells #[.int .i64 0, .int .i64 0, .int .i64 0, .slice none 0 0] 30)).alloc (.cells #[.int .i64 0, .int .i64 0] 35)).heap.size (World.grownBy_alloc _ _ none).size
  rw [e4] at hR0
  have HR0 := Lib.hid hR0
  have G2 : Hid ((((w.alloc (.cells #[.int .i64 T, .int .i64 D, .int .i64 M, .slice (some ⟨g, 0, none⟩) (r.length + 1) cap] 30)).alloc (.cells #[.int .i64 0, .int .i64 0, .int .i64 0, .slice none 0 0] 30)).alloc (.cells #[.int .i64 0, .int .i64 0] 35)).grownBy (((((w.alloc (.cells #[.int .i64 T, .int .i64 D, .int .i64 M, .slice (some ⟨g, 0, none⟩) (r.length + 1) cap] 30)).alloc (.cells #[.int .i64 0, .int .i64 0, .int .i64 0, .slice none 0 0] 30)).alloc (.cells #[.int .i64 0, .int .i64 0] 35)).alloc (.cells #[.int .i64 xk, .int .i64 xi] 35)).alloc (.cells #[] 35)) none) := Lib.hid (ga _ (World.grownBy_alloc _ _ none))
  obtain ⟨⟨t0, t1⟩, _⟩ := box2 (((w.alloc (.cells #[.int .i64 T, .int .i64 D, .int .i64 M, .slice (some ⟨g, 0, none⟩) (r.length + 1) cap] 30)).alloc (.cells #[.int .i64 0, .int .i64 0, .int .i64 0, .slice none 0 0] 30)).alloc (.cells #[.int .i64 0, .int .i64 0] 35)) (.int .i64 xk) (.int .i64 xi) 35 0
  have t0 : ((((w.alloc (.cells #[.int .i64 T, .int .i64 D, .int .i64 M, .slice (some ⟨g, 0, none⟩) (r.length + 1) cap] 30)).alloc (.cells #[.int .i64 0, .int .i64 0, .int .i64 0, .slice none 0 0] 30)).alloc (.cells #[.int .i64 0, .int .i64 0] 35)).alloc (.cells #[.int .i64 xk, .int .i64 xi] 35)).cell? ⟨(((w.alloc (.cells #[.int .i64 T, .int .i64 D, .int .i64 M, .slice (some ⟨g, 0, none⟩) (r.length + 1) cap] 30)).alloc (.cells #[.int .i64 0, .int .i64 0, .int .i64 0, .slice none 0 0] 30)).alloc (.cells #[.int .i64 0, .int .i64 0] 35)).heap.size, 0, none⟩ = some (.int .i64 xk) := t0
  have t1 : ((((w.alloc (.cells #[.int .i64 T, .int .i64 D, .int .i64 M, .slice (some ⟨g, 0, none⟩) (r.length + 1) cap] 30)).alloc (.cells #[.int .i64 0, .int .i64 0, .int .i64 0, .slice none 0 0] 30)).alloc (.cells #[.int .i64 0, .int .i64 0] 35)).alloc (.cells #[.int .i64 xk, .int .i64 xi] 35)).cell? ⟨(((w.alloc (.cells #[.int .i64 T, .int .i64 D, .int .i64 M, .slice (some ⟨g, 0, none⟩) (r.length + 1) cap] 30)).alloc (.cells #[.int .i64 0, .int .i64 0, .int .i64 0, .slice none 0 0] 30)).alloc (.cells #[.int .i64 0, .int .i64 0] 35)).heap.size, 1, none⟩ = some (.int .i64 xi) := t1
  rw [hus] at t0 t1
  replace t0 := (World.grownBy_alloc ((((w.alloc (.cells #[.int .i64 T, .int .i64 D, .int .i64 M, .slice (some ⟨g, 0, none⟩) (r.length + 1) cap] 30)).alloc (.cells #[.int .i64 0, .int .i64 0, .int .i64 0, .slice none 0 0] 30)).alloc (.cells #[.int .i64 0, .int .i64 0] 35)).alloc (.cells #[.int .i64 xk, .int .i64 xi] 35)) (.cells #[] 35) none).cell t0 (by simp)
  replace t1 := (World.grownBy_alloc ((((w.alloc (.cells #[.int .i64 T, .int .i64 D, .int .i64 M, .slice (some ⟨g, 0, none⟩) (r.length + 1) cap] 30)).alloc (.cells #[.int .i64 0, .int .i64 0, .int .i64 0, .slice none 0 0] 30)).alloc (.cells #[.int .i64 0, .int .i64 0] 35)).alloc (.cells #[.int .i64 xk, .int .i64 xi] 35)) (.cells #[] 35) none).cell t1 (by simp)
  have HT := Lib.hid (And.intro t0 t1)
  have HUS := Lib.hid hus
  have SRC := Lib.hid (hSRC.out _ G2.out)
  clear hR0 e4 t0 t1 hus
  go_enter Try.func12, Try.ntmps12
  go_wp2_with (
    at_builtin
    refine wpList_append_src _ rfl _ _ 28 rfl _ 35 i0 (.agg #[.int .i64 0, .int .i64 0]) 2 16 Try.underlying28 I0.out I1.out I2.out I3.out rfl (by decide) _ _ _ rfl HR0.out _ _ _ rfl SRC.out (by unfold maxLen; omega) (by omega) G2.out.size ?_
    intro v2 w6 hown hgrow _ _
    have G6 : Hid ((((w.alloc (.cells #[.int .i64 T, .int .i64 D, .int .i64 M, .slice (some ⟨g, 0, none⟩) (r.length + 1) cap] 30)).alloc (.cells #[.int .i64 0, .int .i64 0, .int .i64 0, .slice none 0 0] 30)).alloc (.cells #[.int .i64 0, .int .i64 0] 35)).grownBy w6 none) := Lib.hid (grown_row G2.out HR0.out (Nat.le_refl _) hgrow)
    have t0 := hgrow.cell HT.out.1 (by intro e; have e : some (w.heap.size + 3) = some (w.heap.size + 4) := e; injection e with e; omega)
    have t1 := hgrow.cell HT.out.2 (by intro e; have e : some (w.heap.size + 3) = some (w.heap.size + 4) := e; injection e with e; omega)
    have hO6 : Hid (w6.ownsRow (w.heap.size + 3) 35 2 v2 r.length (cellsP r)) := Lib.hid (by have := hown; rw [HUS.out] at this; simpa [cellsP] using this)
    obtain ⟨sv, cv, rfl, _, _⟩ := own_formP hO6.out
    obtain ⟨⟨a0', a1', a2', a3'⟩, ⟨r0, r1, r2, r3, n0, n1⟩, f3, g0, g1, g2, g3, h0, h1⟩ := HC.out _ G6.out
    have K6 := Lib.hid (K0.out.trans G6.out)
    have HZ : Hid (w.heap.size + 3 < w6.heap.size) := Lib.hid (by have h1 := hgrow.size; have h2 := G2.out.size; rw [World.size_alloc, World.size_alloc, HUS.out] at h1; omega)
    clear hown hgrow HR0 SRC G2 HT hSRC HC HO G0 a0 a1 a2 a3 z0 z1 hsl G6 K0)
  have K3 : Only w.heap.size (w.heap.size + 1) w6 (w6.setCell ⟨w.heap.size, 3, none⟩ (.slice sv r.length cv)) := Only.set w6 ⟨w.heap.size, 3, none⟩ _ (Nat.le_refl _) (Nat.lt_succ_self _)
  have hz := HZ.out
  have p3 : (w6.setCell ⟨w.heap.size, 3, none⟩ (.slice sv r.length cv)).cell? ⟨w.heap.size, 3, none⟩ = some (.slice sv r.length cv) := World.cell?_setCell_same _ _ _ a3'
  have oth : ∀ o, o ≠ 3 → (w6.setCell ⟨w.heap.size, 3, none⟩ (.slice sv r.length cv)).cell? ⟨w.heap.size, o, none⟩ = w6.cell? ⟨w.heap.size, o, none⟩ := fun o ho => World.cell?_setCell_other _ ⟨w.heap.size, 3, none⟩ ⟨w.heap.size, o, none⟩ _ (by simp; try omega)
  have p0 := (oth 0 (by decide)).trans a0'
  have p1 := (oth 1 (by decide)).trans a1'
  have p2 := (oth 2 (by decide)).trans a2'
  replace r0 := (K3.cell ⟨w.heap.size + 1, 0, none⟩ (by show w.heap.size + 1 < _; omega) (Or.inr (by show _ ≤ w.heap.size + 1; omega))).trans r0
  replace r1 := (K3.cell ⟨w.heap.size + 1, 1, none⟩ (by show w.heap.size + 1 < _; omega) (Or.inr (by show _ ≤ w.heap.size + 1; omega))).trans r1
  replace r2 := (K3.cell ⟨w.heap.size + 1, 2, none⟩ (by show w.heap.size + 1 < _; omega) (Or.inr (by show _ ≤ w.heap.size + 1; omega))).trans r2
  replace r3 := (K3.cell ⟨w.heap.size + 1, 3, none⟩ (by show w.heap.size + 1 < _; omega) (Or.inr (by show _ ≤ w.heap.size + 1; omega))).trans r3
  replace n0 := (K3.cell ⟨w.heap.size + 2, 0, none⟩ (by show w.heap.size + 2 < _; omega) (Or.inr (by show _ ≤ w.heap.size + 2; omega))).trans n0
  replace n1 := (K3.cell ⟨w.heap.size + 2, 1, none⟩ (by show w.heap.size + 2 < _; omega) (Or.inr (by show _ ≤ w.heap.size + 2; omega))).trans n1
  replace t0 := (K3.cell ⟨w.heap.size + 3, 0, none⟩ (by show w.heap.size + 3 < _; omega) (Or.inr (by show _ ≤ w.heap.size + 3; omega))).trans t0
  replace t1 := (K3.cell ⟨w.heap.size + 3, 1, none⟩ (by show w.heap.size + 3 < _; omega) (Or.inr (by show _ ≤ w.heap.size + 3; omega))).trans t1
  replace g0 := (K3.frozen ⟨w.heap.size + 1, 0, none⟩ (by show w.heap.size + 1 < _; omega) (Or.inr (by show _ ≤ w.heap.size + 1; omega))).trans g0
  replace g1 := (K3.frozen ⟨w.heap.size + 1, 1, none⟩ (by show w.heap.size + 1 < _; omega) (Or.inr (by show _ ≤ w.heap.size + 1; omega))).trans g1
  replace g2 := (K3.frozen ⟨w.heap.size + 1, 2, none⟩ (by show w.heap.size + 1 < _; omega) (Or.inr (by show _ ≤ w.heap.size + 1; omega))).trans g2
  replace g3 := (K3.frozen ⟨w.heap.size + 1, 3, none⟩ (by show w.heap.size + 1 < _; omega) (Or.inr (by show _ ≤ w.heap.size + 1; omega))).trans g3
  replace h0 := (K3.frozen ⟨w.heap.size + 2, 0, none⟩ (by show w.heap.size + 2 < _; omega) (Or.inr (by show _ ≤ w.heap.size + 2; omega))).trans h0
  replace h1 := (K3.frozen ⟨w.heap.size + 2, 1, none⟩ (by show w.heap.size + 2 < _; omega) (Or.inr (by show _ ≤ w.heap.size + 2; omega))).trans h1
  have KY := Lib.hid (grown_only K6.out K3 (Nat.le_refl _))
  have hOY := Lib.hid (own_onlyP hO6.out K3 (by omega))
  have hzY : w.heap.size + 3 < (w6.setCell ⟨w.heap.size, 3, none⟩ (.slice sv r.length cv)).heap.size := by have := K3.size; omega
  clear K3 oth a0' a1' a2' a3' f3 K6 hO6 HZ hz
  generalize (w6.setCell ⟨w.heap.size, 3, none⟩ (.slice sv r.length cv)) = w7 at *
  have KY2 : Hid (w.grownBy w7.drew none) := Lib.hid (gd KY.out)
  have hOY2 : Hid (w7.drew.ownsRow (w.heap.size + 3) 35 2 (.slice sv r.length cv) r.length (cellsP r)) := Lib.hid (own_keepP hOY.out (gd (World.grownBy.refl _ _)))
  refine wp_region_held_drew (S := fun x => x.cell? ⟨w.heap.size, 0, none⟩ = some (.int .i64 T) ∧ x.cell? ⟨w.heap.size, 1, none⟩ = some (.int .i64 D) ∧ x.cell? ⟨w.heap.size, 2, none⟩ = some (.int .i64 M) ∧ x.cell? ⟨w.heap.size, 3, none⟩ = some (.slice sv r.length cv) ∧ x.cell? ⟨w.heap.size + 3, 0, none⟩ = some (.int .i64 xk) ∧ x.cell? ⟨w.heap.size + 3, 1, none⟩ = some (.int .i64 xi)) (by kernel_rfl) ⟨p0, p1, p2, p3, t0, t1⟩ (fun hHeld => ?_)
  replace r0 : w7.drew.cell? ⟨w.heap.size + 1, 0, none⟩ = some (.int .i64 0) := r0
  replace r1 : w7.drew.cell? ⟨w.heap.size + 1, 1, none⟩ = some (.int .i64 0) := r1
  replace r2 : w7.drew.cell? ⟨w.heap.size + 1, 2, none⟩ = some (.int .i64 0) := r2
  replace r3 : w7.drew.cell? ⟨w.heap.size + 1, 3, none⟩ = some (.slice none 0 0) := r3
  replace n0 : w7.drew.cell? ⟨w.heap.size + 2, 0, none⟩ = some (.int .i64 0) := n0
  replace n1 : w7.drew.cell? ⟨w.heap.size + 2, 1, none⟩ = some (.int .i64 0) := n1
  replace g0 : w7.drew.frozen? ⟨w.heap.size + 1, 0, none⟩ = false := g0
  replace g1 : w7.drew.frozen? ⟨w.heap.size + 1, 1, none⟩ = false := g1
  replace g2 : w7.drew.frozen? ⟨w.heap.size + 1, 2, none⟩ = false := g2
  replace g3 : w7.drew.frozen? ⟨w.heap.size + 1, 3, none⟩ = false := g3
  replace h0 : w7.drew.frozen? ⟨w.heap.size + 2, 0, none⟩ = false := h0
  replace h1 : w7.drew.frozen? ⟨w.heap.size + 2, 1, none⟩ = false := h1
  replace p0 : w7.drew.cell? ⟨w.heap.size, 0, none⟩ = some (.int .i64 T) := p0
  replace p1 : w7.drew.cell? ⟨w.heap.size, 1, none⟩ = some (.int .i64 D) := p1
  replace p2 : w7.drew.cell? ⟨w.heap.size, 2, none⟩ = some (.int .i64 M) := p2
  replace p3 : w7.drew.cell? ⟨w.heap.size, 3, none⟩ = some (.slice sv r.length cv) := p3
  replace t0 : w7.drew.cell? ⟨w.heap.size + 3, 0, none⟩ = some (.int .i64 xk) := t0
  replace t1 : w7.drew.cell? ⟨w.heap.size + 3, 1, none⟩ = some (.int .i64 xi) := t1
  replace hzY : w.heap.size + 3 < w7.drew.heap.size := hzY
  generalize w7.drew = y at *
  refine wpAnyH_take (i := 0) (oi := ⟨_, _, _, _, _, _⟩) (v := ?_) rfl (by kernel_rfl) (by kernel_rfl) (by kernel_rfl) (fun _ _ _ h => h) (Or.inl ⟨by rfl, ?_⟩) (by assumption) ?_
  rotate_left
  · intro wz hSw
    try dsimp only at hSw
    go_simp
    try with_reducible rfl
  simp only [Act.put, List.setIfInBounds_toArray, List.set_cons_zero, List.set_cons_succ]
  refine wpAnyH_take (i := 1) (oi := ⟨_, _, _, _, _, _⟩) (v := ?_) rfl (by kernel_rfl) (by kernel_rfl) (by kernel_rfl) (fun _ _ _ h => h) (Or.inl ⟨by rfl, ?_⟩) (by assumption) ?_
  rotate_left
  · intro wz hSw
    try dsimp only at hSw
    go_simp
    try with_reducible rfl
  simp only [Act.put, List.setIfInBounds_toArray, List.set_cons_zero, List.set_cons_succ]
  refine wpAnyH_ready (rs := [2]) (by kernel_rfl) (by simp) ?_
  refine AllReadyH.cons (o := ⟨_, _, _, _, _, _⟩) rfl (fun K hK => ?_) AllReadyH.nil
  go_simp
  have K4 := only4 (w := y) (b := w.heap.size + 1) (.int .i64 T) (.int .i64 D) (.int .i64 M) (.slice sv r.length cv)
  obtain ⟨x0, x1, x2, x3⟩ := set4 (.int .i64 T) (.int .i64 D) (.int .i64 M) (.slice sv r.length cv) r0 r1 r2 r3
  replace p0 := (K4.cell ⟨w.heap.size, 0, none⟩ (by show w.heap.size < _; omega) (Or.inl (Nat.lt_succ_self _))).trans p0
  replace p1 := (K4.cell ⟨w.heap.size, 1, none⟩ (by show w.heap.size < _; omega) (Or.inl (Nat.lt_succ_self _))).trans p1
  replace p2 := (K4.cell ⟨w.heap.size, 2, none⟩ (by show w.heap.size < _; omega) (Or.inl (Nat.lt_succ_self _))).trans p2
  replace p3 := (K4.cell ⟨w.heap.size, 3, none⟩ (by show w.heap.size < _; omega) (Or.inl (Nat.lt_succ_self _))).trans p3
  replace t0 := (K4.cell ⟨w.heap.size + 3, 0, none⟩ hzY (Or.inr (by show _ ≤ w.heap.size + 3; omega))).trans t0
  replace t1 := (K4.cell ⟨w.heap.size + 3, 1, none⟩ hzY (Or.inr (by show _ ≤ w.heap.size + 3; omega))).trans t1
  replace n0 := (K4.cell ⟨w.heap.size + 2, 0, none⟩ (by show w.heap.size + 2 < _; omega) (Or.inr (by show _ ≤ w.heap.size + 2; omega))).trans n0
  replace n1 := (K4.cell ⟨w.heap.size + 2, 1, none⟩ (by show w.heap.size + 2 < _; omega) (Or.inr (by show _ ≤ w.heap.size + 2; omega))).trans n1
  replace h0 := (K4.frozen ⟨w.heap.size + 2, 0, none⟩ (by show w.heap.size + 2 < _; omega) (Or.inr (by show _ ≤ w.heap.size + 2; omega))).trans h0
  replace h1 := (K4.frozen ⟨w.heap.size + 2, 1, none⟩ (by show w.heap.size + 2 < _; omega) (Or.inr (by show _ ≤ w.heap.size + 2; omega))).trans h1
  have KY4 := Lib.hid (grown_only KY2.out K4 (Nat.le_succ _))
  have hOY4 := Lib.hid (own_onlyP hOY2.out K4 (by omega))
  have hz4 : w.heap.size + 3 < ((((y.setCell ⟨w.heap.size + 1, 0, none⟩ (.int .i64 T)).setCell ⟨w.heap.size + 1, 1, none⟩ (.int .i64 D)).setCell ⟨w.heap.size + 1, 2, none⟩ (.int .i64 M)).setCell ⟨w.heap.size + 1, 3, none⟩ (.slice sv r.length cv)).heap.size := by have := K4.size; omega
  refine hK.out _ _ ⟨p0, p1, p2, p3, t0, t1⟩ (fun hHeld => ?_)
  clear hK K
  try simp only [Act.put, List.setIfInBounds_toArray, List.set_cons_zero, List.set_cons_succ]
  clear K4 KY KY2 hOY hOY2 r0 r1 r2 r3 g0 g1 g2 g3 hzY
  generalize ((((y.setCell ⟨w.heap.size + 1, 0, none⟩ (.int .i64 T)).setCell ⟨w.heap.size + 1, 1, none⟩ (.int .i64 D)).setCell ⟨w.heap.size + 1, 2, none⟩ (.int .i64 M)).setCell ⟨w.heap.size + 1, 3, none⟩ (.slice sv r.length cv)) = y4 at *
  refine wpAnyH_ready (rs := [3]) (by kernel_rfl) (by simp) ?_
  refine AllReadyH.cons (o := ⟨_, _, _, _, _, _⟩) rfl (fun K hK => ?_) AllReadyH.nil
  go_simp
  have K2 := only2 (w := y4) (b := w.heap.size + 2) (.int .i64 xk) (.int .i64 xi)
  obtain ⟨z0, z1⟩ := set2 (.int .i64 xk) (.int .i64 xi) n0 n1
  replace p0 := (K2.cell ⟨w.heap.size, 0, none⟩ (by show w.heap.size < _; omega) (Or.inl (by show w.heap.size < _; omega))).trans p0
  replace p1 := (K2.cell ⟨w.heap.size, 1, none⟩ (by show w.heap.size < _; omega) (Or.inl (by show w.heap.size < _; omega))).trans p1
  replace p2 := (K2.cell ⟨w.heap.size, 2, none⟩ (by show w.heap.size < _; omega) (Or.inl (by show w.heap.size < _; omega))).trans p2
  replace p3 := (K2.cell ⟨w.heap.size, 3, none⟩ (by show w.heap.size < _; omega) (Or.inl (by show w.heap.size < _; omega))).trans p3
  replace t0 := (K2.cell ⟨w.heap.size + 3, 0, none⟩ hz4 (Or.inr (by show _ ≤ w.heap.size + 3; omega))).trans t0
  replace t1 := (K2.cell ⟨w.heap.size + 3, 1, none⟩ hz4 (Or.inr (by show _ ≤ w.heap.size + 3; omega))).trans t1
  replace x0 := (K2.cell ⟨w.heap.size + 1, 0, none⟩ (by show w.heap.size + 1 < _; omega) (Or.inl (by show w.heap.size + 1 < _; omega))).trans x0
  replace x1 := (K2.cell ⟨w.heap.size + 1, 1, none⟩ (by show w.heap.size + 1 < _; omega) (Or.inl (by show w.heap.size + 1 < _; omega))).trans x1
  replace x2 := (K2.cell ⟨w.heap.size + 1, 2, none⟩ (by show w.heap.size + 1 < _; omega) (Or.inl (by show w.heap.size + 1 < _; omega))).trans x2
  replace x3 := (K2.cell ⟨w.heap.size + 1, 3, none⟩ (by show w.heap.size + 1 < _; omega) (Or.inl (by show w.heap.size + 1 < _; omega))).trans x3
  have KY5 := Lib.hid (grown_only KY4.out K2 (by omega))
  have hOY5 := Lib.hid (own_onlyP hOY4.out K2 (by omega))
  refine hK.out _ _ ⟨p0, p1, p2, p3, t0, t1⟩ (fun hHeld => ?_)
  clear hK K
  try simp only [Act.put, List.setIfInBounds_toArray, List.set_cons_zero, List.set_cons_succ]
  clear K2 KY4 hOY4 hz4 n0 n1 h0 h1
  generalize ((y4.setCell ⟨w.heap.size + 2, 0, none⟩ (.int .i64 xk)).setCell ⟨w.heap.size + 2, 1, none⟩ (.int .i64 xi)) = y5 at *
  refine wpAnyH_ready (rs := [4]) (by kernel_rfl) (by simp) ?_
  refine AllReadyH.cons (o := ⟨_, _, _, _, _, _⟩) rfl (fun K hK => ?_) AllReadyH.nil
  go_simp
  refine hK.out _ _ ⟨p0, p1, p2, p3, t0, t1⟩ (fun hHeld => ?_)
  clear hK K
  try simp only [Act.put, List.setIfInBounds_toArray, List.set_cons_zero, List.set_cons_succ]
  refine wpAnyH_done (by kernel_rfl) ?_ _
  clear p0 p1 p2 p3 t0 t1
  go_wp2
  exact bodyPost_ret (v := .tuple #[.agg #[.int .i64 T, .int .i64 D, .int .i64 M, .slice sv r.length cv], .agg #[.int .i64 xk, .int .i64 xi], .bool true]) (by simp [results, Try.results12, go_sem, x0, x1, x2, x3, z0, z1]) rfl ⟨⟨_, rfl, own_mono hOY5.out (by omega)⟩, KY5.out⟩

end
end Go.Proofs.Ytmmpnfkfieikcaa
