/-
  Contracts of nightjarref05, over this seat's translation: Revoke.
-/
import Derived.Test.YtbkjdbimkofceaaDoorRef5d
namespace Go.Proofs.YtbkjdbimkofceaaDoor
open Go.RowKit Go.Lib
set_option maxRecDepth 100000

theorem at2a (w : World) (a : Array Value) (t : TypeId) (B : Obj) (j : Nat) : ((w.alloc (.cells a t)).alloc B).cell? ⟨w.heap.size, j, none⟩ = a[j]? := by
  rw [far_alloc _ _ _ _ (by simp)]
  exact World.cell?_alloc_new ..
theorem at2b (w : World) (A : Obj) (a : Array Value) (t : TypeId) (j : Nat) : ((w.alloc A).alloc (.cells a t)).cell? ⟨w.heap.size + 1, j, none⟩ = a[j]? := by
  have := World.cell?_alloc_new (w.alloc A) a t j
  rwa [World.size_alloc] at this
theorem fr2b (w : World) (A : Obj) (a : Array Value) (t : TypeId) (j : Nat) : ((w.alloc A).alloc (.cells a t)).frozen? ⟨w.heap.size + 1, j, none⟩ = false := by
  have := frozen_new (w.alloc A) a t j
  rwa [World.size_alloc] at this

/-- The result's box: a table is stored into it. -/
def put2 (w : World) (b : Nat) (v : Value) (G : Nat) : World := (w.setCell ⟨b, 0, none⟩ v).setCell ⟨b, 1, none⟩ (.int .i64 (G : Nat))
theorem put2_fin {W w : World} {b G n r cp : Nat} {T : Nat → Pl} {u0 u1 : Value} (k : W.grownBy w none) (hb : W.heap.size ≤ b) (h0 : w.cell? ⟨b, 0, none⟩ = some u0) (h1 : w.cell? ⟨b, 1, none⟩ = some u1) (P : PlAt5 w r n T) (hr : r ≠ b) :
    W.grownBy (put2 w b (.slice (some ⟨r, 0, none⟩) n cp) G) none ∧ (put2 w b (.slice (some ⟨r, 0, none⟩) n cp) G).cell? ⟨b, 0, none⟩ = some (.slice (some ⟨r, 0, none⟩) n cp) ∧ (put2 w b (.slice (some ⟨r, 0, none⟩) n cp) G).cell? ⟨b, 1, none⟩ = some (.int .i64 (G : Nat)) ∧ PlAt5 (put2 w b (.slice (some ⟨r, 0, none⟩) n cp) G) r n T := by
  have o1 := Only.set (lo := b) (hi := b + 1) w ⟨b, 0, none⟩ (.slice (some ⟨r, 0, none⟩) n cp) (Nat.le_refl _) (Nat.lt_succ_self _)
  have o2 := o1.trans (Only.set (lo := b) (hi := b + 1) (w.setCell ⟨b, 0, none⟩ (.slice (some ⟨r, 0, none⟩) n cp)) ⟨b, 1, none⟩ (.int .i64 (G : Nat)) (Nat.le_refl _) (Nat.lt_succ_self _))
  exact ⟨Only.on k o2 hb, (set_far5 _ _ _ _ _ _ (Or.inr (by omega))).trans (World.cell?_setCell_same _ _ _ h0), World.cell?_setCell_same _ _ _ ((set_far5 _ _ _ _ _ _ (Or.inr (by omega))).trans h1), P.only o2 (by omega)⟩

section
variable {w : World} {r n cp G : Nat} {T : Nat → Pl}
set_option maxHeartbeats 4000000 in
theorem rrev5 (h : Nat) (H : PlAt5 w r n T) (hn : n ≤ 15) (ok : ∀ j, j < n → (T j).ok G) (hG : G ≤ 16777215) :
    Calls Tryd.prog 11 #[.agg #[.slice (some ⟨r, 0, none⟩) n cp, .int .i64 (G : Nat)], .int .u64 (h : Nat)] w fun e w' => ∃ r' cp', e = .returned (.tuple #[.agg #[.slice (some ⟨r', 0, none⟩) n cp', .int .i64 (G : Nat)], .int .i64 (revE T n h : Nat)]) ∧ w.grownBy w' none ∧ (r' = r ∨ w.heap.size ≤ r') ∧ PlAt5 w' r' n (revT T n h) := by
  have hrl := H.lt
  have ka := World.grownBy_alloc w (.cells #[.slice (some ⟨r, 0, none⟩) n cp, .int .i64 (G : Nat)] 29) none
  have kb := World.grownBy_alloc (w.alloc (.cells #[.slice (some ⟨r, 0, none⟩) n cp, .int .i64 (G : Nat)] 29)) (.cells #[.slice none 0 0, .int .i64 0] 29) none
  obtain ⟨wz, hwz⟩ : ∃ z, z = (w.alloc (.cells #[.slice (some ⟨r, 0, none⟩) n cp, .int .i64 (G : Nat)] 29)).alloc (.cells #[.slice none 0 0, .int .i64 0] 29) := ⟨_, rfl⟩
  have kab := ka.trans kb
  rw [← hwz] at kab
  have t0 : wz.cell? ⟨w.heap.size, 0, none⟩ = some (.slice (some ⟨r, 0, none⟩) n cp) := by rw [hwz, at2a]; rfl
  have t1 : wz.cell? ⟨w.heap.size, 0 + 1, none⟩ = some (.int .i64 (G : Nat)) := by rw [hwz, at2a]; rfl
  have u0 : wz.cell? ⟨w.heap.size + 1, 0, none⟩ = some (.slice none 0 0) := by rw [hwz, at2b]; rfl
  have u1 : wz.cell? ⟨w.heap.size + 1, 0 + 1, none⟩ = some (.int .i64 0) := by rw [hwz, at2b]; rfl
  have f0 : ∀ j, wz.frozen? ⟨w.heap.size + 1, j, none⟩ = false := fun j => by rw [hwz]; exact fr2b ..
  have hsz : w.heap.size + 2 ≤ wz.heap.size := by rw [hwz]; simp
  have CF := Lib.hid (rfind5 (cp := cp) h (H.kept kab) hn ok hG)
  have HP := Lib.hid (H.kept kab)
  have KAB := Lib.hid kab
  clear ka kb kab H ok
  unfold revE revT
  unfold findI at CF
  cases e2 : findP T n h with
  | none =>
    rw [e2] at CF
    clear e2
    go_enter Tryd.func11, Tryd.ntmps11
    go_upto_region 1 with fail
    rw [← hwz]
    clear hwz
    go_wp2_with fail
    refine CF.out.mono ?_
    rintro e w2 ⟨rfl, k2⟩
    have s0 := (k2.cell_far ⟨w.heap.size, 0, none⟩ (show w.heap.size < _ by omega) (by simp)).trans t0
    have s1 := (k2.cell_far ⟨w.heap.size, 0 + 1, none⟩ (show w.heap.size < _ by omega) (by simp)).trans t1
    have v0 := (k2.cell_far ⟨w.heap.size + 1, 0, none⟩ (show w.heap.size + 1 < _ by omega) (by simp)).trans u0
    have v1 := (k2.cell_far ⟨w.heap.size + 1, 0 + 1, none⟩ (show w.heap.size + 1 < _ by omega) (by simp)).trans u1
    have v2 := (k2.frozen_far ⟨w.heap.size + 1, 0, none⟩ (show w.heap.size + 1 < _ by omega) (by simp)).trans (f0 0)
    have v3 := (k2.frozen_far ⟨w.heap.size + 1, 0 + 1, none⟩ (show w.heap.size + 1 < _ by omega) (by simp)).trans (f0 (0 + 1))
    have v4 : (w2.setCell ⟨w.heap.size + 1, 0, none⟩ (.slice (some ⟨r, 0, none⟩) n cp)).cell? ⟨w.heap.size + 1, 0 + 1, none⟩ = some (.int .i64 0) := (set_far5 _ _ _ _ _ _ (Or.inr (by omega))).trans v1
    have v5 : (w2.setCell ⟨w.heap.size + 1, 0, none⟩ (.slice (some ⟨r, 0, none⟩) n cp)).frozen? ⟨w.heap.size + 1, 0 + 1, none⟩ = false := (World.frozen?_setCell ..).trans v3
    have FIN := Lib.hid (put2_fin (G := G) (cp := cp) (KAB.out.trans k2) (show w.heap.size ≤ w.heap.size + 1 by omega) v0 v1 (HP.out.kept k2) (show r ≠ w.heap.size + 1 by omega))
    clear CF t0 t1 u0 u1 f0 k2
    go_wp2
    obtain ⟨g0, g1, g2, g3⟩ := FIN.out
    unfold put2 at g0 g1 g2 g3
    exact bodyPost_ret (v := .tuple #[.agg #[.slice (some ⟨r, 0, none⟩) n cp, .int .i64 (G : Nat)], .int .i64 5]) (by simp [results, Tryd.results11, go_sem, g1, g2]) rfl ⟨r, cp, rfl, g0, Or.inl rfl, g3⟩
  | some p =>
    rw [e2] at CF
    obtain ⟨hp, _, _⟩ := find_at e2
    clear e2
    have qp : (p : Int) < (n : Int) := by omega
    have qp0 : ¬ (p : Int) < 0 := by omega
    go_enter Tryd.func11, Tryd.ntmps11
    go_upto_region 1 with fail
    rw [← hwz]
    clear hwz
    go_wp2_with fail
    refine CF.out.mono ?_
    rintro e w2 ⟨rfl, k2⟩
    have kd : w2.grownBy w2.drew none := ⟨rfl, rfl, rfl, Nat.le_refl _, fun _ _ _ => rfl⟩
    have k3 := k2.trans kd
    have K3 := Lib.hid k3
    have s0 : w2.drew.cell? ⟨w.heap.size, 0, none⟩ = _ := (k3.cell_far ⟨w.heap.size, 0, none⟩ (show w.heap.size < _ by omega) (by simp)).trans t0
    have s1 : w2.drew.cell? ⟨w.heap.size, 0 + 1, none⟩ = _ := (k3.cell_far ⟨w.heap.size, 0 + 1, none⟩ (show w.heap.size < _ by omega) (by simp)).trans t1
    have P3 := HP.out.kept k3
    have hp0 : w2.drew.cell? ⟨r, p * 5, none⟩ = some (.int .i64 ((T p).gen : Nat)) := (P3.pl p hp).1
    have CW : Hid (Calls Tryd.prog 28 #[.agg #[.slice (some ⟨r, 0, none⟩) n cp, .int .i64 (G : Nat)], .int .i64 p, .agg #[.int .i64 ((T p).gen : Nat), .bool false, .int .i64 0, .int .i64 0, .int .i64 0]] w2.drew fun e w' => ∃ r' cp', e = .returned (.agg #[.slice (some ⟨r', 0, none⟩) n cp', .int .i64 (G : Nat)]) ∧ w2.drew.grownBy w' none ∧ w2.drew.heap.size ≤ r' ∧ PlAt5 w' r' n (upV T p (T p).drop)) := Lib.hid (rwith5 p (T p).drop P3 hn hp)
    have hr3 := P3.lt
    have sz3 := k3.size
    have hws : w.heap.size < w2.drew.heap.size := by omega
    clear CF k2 kd P3 k3
    go_wp2_with fail
    go_region_held3 (fun w' => w'.cell? ⟨w.heap.size, 0, none⟩ = some (.slice (some ⟨r, 0, none⟩) n cp) ∧ w'.cell? ⟨w.heap.size, 0 + 1, none⟩ = some (.int .i64 (G : Nat)) ∧ w'.cell? ⟨r, p * 5, none⟩ = some (.int .i64 ((T p).gen : Nat))) (first | exact ⟨s0, s1, hp0⟩ | exact ⟨s0', s1', hp0'⟩ | exact ⟨(set_far5 _ _ _ _ _ _ (Or.inl (by omega))).trans ((set_far5 _ _ _ _ _ _ (Or.inl (by omega))).trans s0'), (set_far5 _ _ _ _ _ _ (Or.inl (by omega))).trans ((set_far5 _ _ _ _ _ _ (Or.inl (by omega))).trans s1'), (set_far5 _ _ _ _ _ _ (Or.inl (by omega))).trans ((set_far5 _ _ _ _ _ _ (Or.inl (by omega))).trans hp0')⟩)
      ((go_at_call 28; with_reducible refine CW.out.mono ?_; rintro e w7 ⟨r', cp', rfl, k7, hr', P7⟩; have s0' := (k7.cell_far ⟨w.heap.size, 0, none⟩ hws (by simp)).trans s0; have s1' := (k7.cell_far ⟨w.heap.size, 0 + 1, none⟩ hws (by simp)).trans s1; have hp0' := (k7.cell_far ⟨r, p * 5, none⟩ hr3 (by simp)).trans hp0; have k8 := K3.out.trans k7; have v0 : w7.cell? ⟨w.heap.size + 1, 0, none⟩ = some (.slice none 0 0) := (k8.cell_far ⟨w.heap.size + 1, 0, none⟩ (show w.heap.size + 1 < _ by omega) (by simp)).trans u0; have v1 : w7.cell? ⟨w.heap.size + 1, 0 + 1, none⟩ = some (.int .i64 0) := (k8.cell_far ⟨w.heap.size + 1, 0 + 1, none⟩ (show w.heap.size + 1 < _ by omega) (by simp)).trans u1; have v2 : w7.frozen? ⟨w.heap.size + 1, 0, none⟩ = false := (k8.frozen_far ⟨w.heap.size + 1, 0, none⟩ (show w.heap.size + 1 < _ by omega) (by simp)).trans (f0 0); have v3 : w7.frozen? ⟨w.heap.size + 1, 0 + 1, none⟩ = false := (k8.frozen_far ⟨w.heap.size + 1, 0 + 1, none⟩ (show w.heap.size + 1 < _ by omega) (by simp)).trans (f0 (0 + 1)); have v4 : (w7.setCell ⟨w.heap.size + 1, 0, none⟩ (.slice (some ⟨r', 0, none⟩) n cp')).cell? ⟨w.heap.size + 1, 0 + 1, none⟩ = some (.int .i64 0) := (set_far5 _ _ _ _ _ _ (Or.inr (by omega))).trans v1; have v5 : (w7.setCell ⟨w.heap.size + 1, 0, none⟩ (.slice (some ⟨r', 0, none⟩) n cp')).frozen? ⟨w.heap.size + 1, 0 + 1, none⟩ = false := (World.frozen?_setCell ..).trans v3))
    have FIN := Lib.hid (put2_fin (G := G) (cp := cp') (KAB.out.trans k8) (show w.heap.size ≤ w.heap.size + 1 by omega) v0 v1 P7 (show r' ≠ w.heap.size + 1 by omega))
    have hr'' : w.heap.size ≤ r' := by omega
    clear s0 s1 hp0 s0' s1' hp0' v0 v1 v2 v3 v4 v5 CW t0 t1 u0 u1 f0
    go_wp2
    obtain ⟨g0, g1, g2, g3⟩ := FIN.out
    unfold put2 at g0 g1 g2 g3
    exact bodyPost_ret (v := .tuple #[.agg #[.slice (some ⟨r', 0, none⟩) n cp', .int .i64 (G : Nat)], .int .i64 0]) (by simp [results, Tryd.results11, go_sem, g1, g2]) rfl ⟨r', cp', rfl, g0, Or.inr hr'', g3⟩
end
end Go.Proofs.YtbkjdbimkofceaaDoor
