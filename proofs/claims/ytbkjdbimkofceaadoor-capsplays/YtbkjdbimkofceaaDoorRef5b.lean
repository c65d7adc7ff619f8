/-
  Contracts of nightjarref05, over this seat's translation: with.
-/
import Derived.Test.YtbkjdbimkofceaaDoorRef5
namespace Go.Proofs.YtbkjdbimkofceaaDoor
open Go.RowKit Go.Lib
set_option maxRecDepth 100000

theorem set_far5 (w : World) (b j b' j' : Nat) (v : Value) (h : b' ≠ b ∨ j' ≠ j) : (w.setCell ⟨b, j, none⟩ v).cell? ⟨b', j', none⟩ = w.cell? ⟨b', j', none⟩ :=
  World.cell?_setCell_other _ _ _ _ (by intro e; injection e with e1 e2; omega)
theorem grow_set5 {W w : World} (h : W.grownBy w none) (b j : Nat) (v : Value) (hb : W.heap.size ≤ b) : W.grownBy (w.setCell ⟨b, j, none⟩ v) none :=
  Only.on h (Only.set (lo := b) (hi := b + 1) w ⟨b, j, none⟩ v (Nat.le_refl _) (Nat.lt_succ_self _)) hb
/-- A place is stored, cell by cell. -/
def st1 (w : World) (r o : Nat) (p : Pl) : World := w.setCell ⟨r, o, none⟩ (.int .i64 (p.gen : Nat))
def st2 (w : World) (r o : Nat) (p : Pl) : World := (st1 w r o p).setCell ⟨r, o + 1, none⟩ (.bool p.out)
def st3 (w : World) (r o : Nat) (p : Pl) : World := (st2 w r o p).setCell ⟨r, o + 2, none⟩ (.int .i64 p.k)
def st4 (w : World) (r o : Nat) (p : Pl) : World := (st3 w r o p).setCell ⟨r, o + 3, none⟩ (.int .i64 p.i)
def st5 (w : World) (r o : Nat) (p : Pl) : World := (st4 w r o p).setCell ⟨r, o + 4, none⟩ (.int .i64 (p.r : Nat))
section
variable (w : World) (r o : Nat) (p : Pl)
theorem st1_far (b j : Nat) (h : b ≠ r ∨ j < o ∨ o + 1 ≤ j) : (st1 w r o p).cell? ⟨b, j, none⟩ = w.cell? ⟨b, j, none⟩ := set_far5 _ _ _ _ _ _ (by omega)
theorem st2_far (b j : Nat) (h : b ≠ r ∨ j < o ∨ o + 2 ≤ j) : (st2 w r o p).cell? ⟨b, j, none⟩ = w.cell? ⟨b, j, none⟩ := (set_far5 _ _ _ _ _ _ (by omega)).trans (st1_far w r o p b j (by omega))
theorem st3_far (b j : Nat) (h : b ≠ r ∨ j < o ∨ o + 3 ≤ j) : (st3 w r o p).cell? ⟨b, j, none⟩ = w.cell? ⟨b, j, none⟩ := (set_far5 _ _ _ _ _ _ (by omega)).trans (st2_far w r o p b j (by omega))
theorem st4_far (b j : Nat) (h : b ≠ r ∨ j < o ∨ o + 4 ≤ j) : (st4 w r o p).cell? ⟨b, j, none⟩ = w.cell? ⟨b, j, none⟩ := (set_far5 _ _ _ _ _ _ (by omega)).trans (st3_far w r o p b j (by omega))
theorem st5_far (b j : Nat) (h : b ≠ r ∨ j < o ∨ o + 5 ≤ j) : (st5 w r o p).cell? ⟨b, j, none⟩ = w.cell? ⟨b, j, none⟩ := (set_far5 _ _ _ _ _ _ (by omega)).trans (st4_far w r o p b j (by omega))
theorem st1_fr (b j : Nat) : (st1 w r o p).frozen? ⟨b, j, none⟩ = w.frozen? ⟨b, j, none⟩ := World.frozen?_setCell ..
theorem st2_fr (b j : Nat) : (st2 w r o p).frozen? ⟨b, j, none⟩ = w.frozen? ⟨b, j, none⟩ := (World.frozen?_setCell ..).trans (st1_fr w r o p b j)
theorem st3_fr (b j : Nat) : (st3 w r o p).frozen? ⟨b, j, none⟩ = w.frozen? ⟨b, j, none⟩ := (World.frozen?_setCell ..).trans (st2_fr w r o p b j)
theorem st4_fr (b j : Nat) : (st4 w r o p).frozen? ⟨b, j, none⟩ = w.frozen? ⟨b, j, none⟩ := (World.frozen?_setCell ..).trans (st3_fr w r o p b j)
theorem st5_fr (b j : Nat) : (st5 w r o p).frozen? ⟨b, j, none⟩ = w.frozen? ⟨b, j, none⟩ := (World.frozen?_setCell ..).trans (st4_fr w r o p b j)
theorem st5_size : (st5 w r o p).heap.size = w.heap.size := by simp only [st5, st4, st3, st2, st1, size_set]
theorem st5_grow {W : World} (h : W.grownBy w none) (hb : W.heap.size ≤ r) : W.grownBy (st5 w r o p) none :=
  grow_set5 (grow_set5 (grow_set5 (grow_set5 (grow_set5 h _ _ _ hb) _ _ _ hb) _ _ _ hb) _ _ _ hb) _ _ _ hb
theorem st5_at {q : Pl} (h : P5 w r o q) : P5 (st5 w r o p) r o p := by
  obtain ⟨h0, h1, h2, h3, h4⟩ := h
  refine ⟨?_, ?_, ?_, ?_, ?_⟩
  · exact (set_far5 _ _ _ _ _ _ (Or.inr (by omega))).trans ((set_far5 _ _ _ _ _ _ (Or.inr (by omega))).trans ((set_far5 _ _ _ _ _ _ (Or.inr (by omega))).trans ((set_far5 _ _ _ _ _ _ (Or.inr (by omega))).trans (World.cell?_setCell_same _ _ _ h0))))
  · exact (set_far5 _ _ _ _ _ _ (Or.inr (by omega))).trans ((set_far5 _ _ _ _ _ _ (Or.inr (by omega))).trans ((set_far5 _ _ _ _ _ _ (Or.inr (by omega))).trans (World.cell?_setCell_same _ _ _ ((st1_far w r o p _ _ (by omega)).trans h1))))
  · exact (set_far5 _ _ _ _ _ _ (Or.inr (by omega))).trans ((set_far5 _ _ _ _ _ _ (Or.inr (by omega))).trans (World.cell?_setCell_same _ _ _ ((st2_far w r o p _ _ (by omega)).trans h2)))
  · exact (set_far5 _ _ _ _ _ _ (Or.inr (by omega))).trans (World.cell?_setCell_same _ _ _ ((st3_far w r o p _ _ (by omega)).trans h3))
  · exact World.cell?_setCell_same _ _ _ ((st4_far w r o p _ _ (by omega)).trans h4)
end

theorem far_alloc (w : World) (o : Obj) (b j : Nat) (h : b < w.heap.size) : (w.alloc o).cell? ⟨b, j, none⟩ = w.cell? ⟨b, j, none⟩ := (World.grownBy_alloc w o none).cell_far ⟨b, j, none⟩ h (by simp)
theorem at3a (w : World) (a : Array Value) (t : TypeId) (B C : Obj) (j : Nat) : (((w.alloc (.cells a t)).alloc B).alloc C).cell? ⟨w.heap.size, j, none⟩ = a[j]? := by
  rw [far_alloc _ _ _ _ (by simp; omega), far_alloc _ _ _ _ (by simp)]
  exact World.cell?_alloc_new ..
theorem at3b (w : World) (A : Obj) (a : Array Value) (t : TypeId) (C : Obj) (j : Nat) : (((w.alloc A).alloc (.cells a t)).alloc C).cell? ⟨w.heap.size + 1, j, none⟩ = a[j]? := by
  rw [far_alloc _ _ _ _ (by simp)]
  have := World.cell?_alloc_new (w.alloc A) a t j
  rwa [World.size_alloc] at this
theorem at3c (w : World) (A B : Obj) (a : Array Value) (t : TypeId) (j : Nat) : (((w.alloc A).alloc B).alloc (.cells a t)).cell? ⟨w.heap.size + 1 + 1, j, none⟩ = a[j]? := by
  have := World.cell?_alloc_new ((w.alloc A).alloc B) a t j
  rwa [World.size_alloc, World.size_alloc] at this
theorem fr3c (w : World) (A B : Obj) (a : Array Value) (t : TypeId) (j : Nat) : (((w.alloc A).alloc B).alloc (.cells a t)).frozen? ⟨w.heap.size + 1 + 1, j, none⟩ = false := by
  have := frozen_new ((w.alloc A).alloc B) a t j
  rwa [World.size_alloc, World.size_alloc] at this

set_option maxHeartbeats 4000000 in
theorem rwith5 (k : Nat) (p : Pl) {w : World} {r n cp G : Nat} {T : Nat → Pl} (H : PlAt5 w r n T) (hn : n ≤ 15) (hk : k < n) :
    Calls Tryd.prog 28 #[.agg #[.slice (some ⟨r, 0, none⟩) n cp, .int .i64 (G : Nat)], .int .i64 k, .agg #[.int .i64 (p.gen : Nat), .bool p.out, .int .i64 p.k, .int .i64 p.i, .int .i64 (p.r : Nat)]] w fun e w' => ∃ r' cp', e = .returned (.agg #[.slice (some ⟨r', 0, none⟩) n cp', .int .i64 (G : Nat)]) ∧ w.grownBy w' none ∧ w.heap.size ≤ r' ∧ PlAt5 w' r' n (upV T k p) := by
  obtain ⟨j0, a0, a1, a2, a3⟩ := place_info
  have I0 := Lib.hid a0
  have I1 := Lib.hid a1
  have I2 := Lib.hid a2
  have I3 := Lib.hid a3
  clear a0 a1 a2 a3
  have ka := World.grownBy_alloc w (.cells #[.slice (some ⟨r, 0, none⟩) n cp, .int .i64 (G : Nat)] 29) none
  have kb := World.grownBy_alloc (w.alloc (.cells #[.slice (some ⟨r, 0, none⟩) n cp, .int .i64 (G : Nat)] 29)) (.cells #[.int .i64 (p.gen : Nat), .bool p.out, .int .i64 p.k, .int .i64 p.i, .int .i64 (p.r : Nat)] 76) none
  have kc := World.grownBy_alloc ((w.alloc (.cells #[.slice (some ⟨r, 0, none⟩) n cp, .int .i64 (G : Nat)] 29)).alloc (.cells #[.int .i64 (p.gen : Nat), .bool p.out, .int .i64 p.k, .int .i64 p.i, .int .i64 (p.r : Nat)] 76)) (.cells #[.slice none 0 0, .int .i64 0] 29) none
  obtain ⟨wz, hwz⟩ : ∃ z, z = ((w.alloc (.cells #[.slice (some ⟨r, 0, none⟩) n cp, .int .i64 (G : Nat)] 29)).alloc (.cells #[.int .i64 (p.gen : Nat), .bool p.out, .int .i64 p.k, .int .i64 p.i, .int .i64 (p.r : Nat)] 76)).alloc (.cells #[.slice none 0 0, .int .i64 0] 29) := ⟨_, rfl⟩
  have kabc := (ka.trans kb).trans kc
  rw [← hwz] at kabc
  have t0 : wz.cell? ⟨w.heap.size, 0, none⟩ = some (.slice (some ⟨r, 0, none⟩) n cp) := by rw [hwz, at3a]; rfl
  have t1 : wz.cell? ⟨w.heap.size, 1, none⟩ = some (.int .i64 (G : Nat)) := by rw [hwz, at3a]; rfl
  have q0 : wz.cell? ⟨w.heap.size + 1, 0, none⟩ = some (.int .i64 (p.gen : Nat)) := by rw [hwz, at3b]; rfl
  have q1 : wz.cell? ⟨w.heap.size + 1, 0 + 1, none⟩ = some (.bool p.out) := by rw [hwz, at3b]; rfl
  have q2 : wz.cell? ⟨w.heap.size + 1, 0 + 2, none⟩ = some (.int .i64 p.k) := by rw [hwz, at3b]; rfl
  have q3 : wz.cell? ⟨w.heap.size + 1, 0 + 3, none⟩ = some (.int .i64 p.i) := by rw [hwz, at3b]; rfl
  have q4 : wz.cell? ⟨w.heap.size + 1, 0 + 4, none⟩ = some (.int .i64 (p.r : Nat)) := by rw [hwz, at3b]; rfl
  have u0 : wz.cell? ⟨w.heap.size + 1 + 1, 0, none⟩ = some (.slice none 0 0) := by rw [hwz, at3c]; rfl
  have u1 : wz.cell? ⟨w.heap.size + 1 + 1, 0 + 1, none⟩ = some (.int .i64 0) := by rw [hwz, at3c]; rfl
  have f0 : ∀ j, wz.frozen? ⟨w.heap.size + 1 + 1, j, none⟩ = false := fun j => by rw [hwz]; exact fr3c ..
  have hsz : w.heap.size + 3 ≤ wz.heap.size := by rw [hwz]; simp
  have kd := World.grownBy_alloc wz (.cells #[] 76) none
  have h0r : (wz.alloc (.cells #[] 76)).ownsRow wz.heap.size 76 5 (.slice (some ⟨wz.heap.size, 0, none⟩) 0 0) 0 [] := World.ownsRow_made wz #[] 0 (Nat.le_refl _) (by decide) rfl
  have SRC := Lib.hid ((H.kept (kabc.trans kd)).src (cp := cp))
  have t0' := (kd.cell_far ⟨w.heap.size, 0, none⟩ (show w.heap.size < _ by omega) (by simp)).trans t0
  have KK := Lib.hid kabc
  have KD := Lib.hid kd
  have qk : (k : Int) < (n : Int) := by omega
  clear ka kb kc kabc kd H
  go_enter Tryd.func28, Tryd.ntmps28
  go_upto_region 1 with fail
  rw [← hwz]
  clear hwz
  go_upto_region 2 with (
    at_builtin
    refine wpList_append_src _ rfl _ _ 27 rfl wz.heap.size 76 j0 (.agg #[.int .i64 0, .bool false, .int .i64 0, .int .i64 0, .int .i64 0]) 5 40 Tryd.underlying27 I0.out I1.out I2.out I3.out rfl (by decide) _ _ _ rfl h0r _ n _ rfl SRC.out (by unfold maxLen; omega) (by omega) (by simp) ?_
    intro v5 w5 hown hgrow hnil hat
    have hgr : (wz.alloc (.cells #[] 76)).grownBy w5 (some wz.heap.size) := hgrow
    have hnn : v5 ≠ .slice none 0 0 := fun h => absurd (hnil.1 h).1 (fun e => by cases e)
    have hown' := hown
    obtain ⟨r5, cp5, cur, hv5, _⟩ := hown.2.resolve_left (fun h => hnn h.1)
    subst hv5
    clear hgrow hnil hat hnn h0r hown)
  have K5 := Lib.hid (grow_on (KK.out.trans KD.out) hgr (by omega))
  have FK : Hid (∀ b j, b < wz.heap.size → w5.cell? ⟨b, j, none⟩ = wz.cell? ⟨b, j, none⟩) := Lib.hid fun b j hb => (hgr.cell_far ⟨b, j, none⟩ (show b < _ by simp; omega) (show (some b : Option Nat) ≠ some wz.heap.size from fun e => by cases e; omega)).trans (KD.out.cell_far ⟨b, j, none⟩ hb (by simp))
  have FF : Hid (∀ b j, b < wz.heap.size → w5.frozen? ⟨b, j, none⟩ = wz.frozen? ⟨b, j, none⟩) := Lib.hid fun b j hb => (hgr.frozen_far ⟨b, j, none⟩ (show b < _ by simp; omega) (show (some b : Option Nat) ≠ some wz.heap.size from fun e => by cases e; omega)).trans (KD.out.frozen_far ⟨b, j, none⟩ hb (by simp))
  have hl5 := World.ownsRow.lt hown' r5 rfl
  have en : 0 + n = n := by omega
  rw [en] at hown'
  have P5' : PlAt5 w5 r5 n T := ⟨hl5.2, fun j hj => P5.of_at fun i hi => by
    rw [World.ownsRow.cellAt hown' (j * 5 + i) (by omega)]
    simp only [List.nil_append]
    exact pcells_at T j i hi n hj⟩
  have fz : ∀ j, w5.frozen? ⟨r5, j, none⟩ = false := fun j => World.ownsRow.frozenAt hown' j
  have sz5 : w.heap.size + 3 ≤ w5.heap.size := by have := hgr.size; simp at this; omega
  have x0 : w5.cell? ⟨w.heap.size, 1, none⟩ = some (.int .i64 (G : Nat)) := (FK.out _ _ (by omega)).trans t1
  have q0 := (FK.out (w.heap.size + 1) 0 (by omega)).trans q0
  have q1 := (FK.out (w.heap.size + 1) (0 + 1) (by omega)).trans q1
  have q2 := (FK.out (w.heap.size + 1) (0 + 2) (by omega)).trans q2
  have q3 := (FK.out (w.heap.size + 1) (0 + 3) (by omega)).trans q3
  have q4 := (FK.out (w.heap.size + 1) (0 + 4) (by omega)).trans q4
  have u0 := (FK.out (w.heap.size + 1 + 1) 0 (by omega)).trans u0
  have u1 := (FK.out (w.heap.size + 1 + 1) (0 + 1) (by omega)).trans u1
  have f0 : ∀ j, w5.frozen? ⟨w.heap.size + 1 + 1, j, none⟩ = false := fun j => (FF.out _ _ (by omega)).trans (f0 j)
  obtain ⟨c0, c1, c2, c3, c4⟩ := P5'.pl k hk
  have e0 := fz (k * 5)
  have d1 : (w5.setCell ⟨r5, k * 5, none⟩ (.int .i64 (p.gen : Nat))).cell? ⟨r5, k * 5 + 1, none⟩ = some (.bool (T k).out) := (st1_far w5 r5 (k * 5) p _ _ (by omega)).trans c1
  have e1 : (w5.setCell ⟨r5, k * 5, none⟩ (.int .i64 (p.gen : Nat))).frozen? ⟨r5, k * 5 + 1, none⟩ = false := (st1_fr w5 r5 (k * 5) p _ _).trans (fz _)
  have d2 : ((w5.setCell ⟨r5, k * 5, none⟩ (.int .i64 (p.gen : Nat))).setCell ⟨r5, k * 5 + 1, none⟩ (.bool p.out)).cell? ⟨r5, k * 5 + 2, none⟩ = some (.int .i64 (T k).k) := (st2_far w5 r5 (k * 5) p _ _ (by omega)).trans c2
  have e2 : ((w5.setCell ⟨r5, k * 5, none⟩ (.int .i64 (p.gen : Nat))).setCell ⟨r5, k * 5 + 1, none⟩ (.bool p.out)).frozen? ⟨r5, k * 5 + 2, none⟩ = false := (st2_fr w5 r5 (k * 5) p _ _).trans (fz _)
  have d3 : (((w5.setCell ⟨r5, k * 5, none⟩ (.int .i64 (p.gen : Nat))).setCell ⟨r5, k * 5 + 1, none⟩ (.bool p.out)).setCell ⟨r5, k * 5 + 2, none⟩ (.int .i64 p.k)).cell? ⟨r5, k * 5 + 3, none⟩ = some (.int .i64 (T k).i) := (st3_far w5 r5 (k * 5) p _ _ (by omega)).trans c3
  have e3 : (((w5.setCell ⟨r5, k * 5, none⟩ (.int .i64 (p.gen : Nat))).setCell ⟨r5, k * 5 + 1, none⟩ (.bool p.out)).setCell ⟨r5, k * 5 + 2, none⟩ (.int .i64 p.k)).frozen? ⟨r5, k * 5 + 3, none⟩ = false := (st3_fr w5 r5 (k * 5) p _ _).trans (fz _)
  have d4 : ((((w5.setCell ⟨r5, k * 5, none⟩ (.int .i64 (p.gen : Nat))).setCell ⟨r5, k * 5 + 1, none⟩ (.bool p.out)).setCell ⟨r5, k * 5 + 2, none⟩ (.int .i64 p.k)).setCell ⟨r5, k * 5 + 3, none⟩ (.int .i64 p.i)).cell? ⟨r5, k * 5 + 4, none⟩ = some (.int .i64 ((T k).r : Nat)) := (st4_far w5 r5 (k * 5) p _ _ (by omega)).trans c4
  have e4 : ((((w5.setCell ⟨r5, k * 5, none⟩ (.int .i64 (p.gen : Nat))).setCell ⟨r5, k * 5 + 1, none⟩ (.bool p.out)).setCell ⟨r5, k * 5 + 2, none⟩ (.int .i64 p.k)).setCell ⟨r5, k * 5 + 3, none⟩ (.int .i64 p.i)).frozen? ⟨r5, k * 5 + 4, none⟩ = false := (st4_fr w5 r5 (k * 5) p _ _).trans (fz _)
  have HP5 := Lib.hid P5'
  clear hgr hown' KD SRC t0 t1 t0' FK FF P5' KK
  go_upto_region 3 with fail
  have hst : ((((w5.setCell ⟨r5, k * 5, none⟩ (.int .i64 (p.gen : Nat))).setCell ⟨r5, k * 5 + 1, none⟩ (.bool p.out)).setCell ⟨r5, k * 5 + 2, none⟩ (.int .i64 p.k)).setCell ⟨r5, k * 5 + 3, none⟩ (.int .i64 p.i)).setCell ⟨r5, k * 5 + 4, none⟩ (.int .i64 (p.r : Nat)) = st5 w5 r5 (k * 5) p := rfl
  rw [hst]
  have y0 : (st5 w5 r5 (k * 5) p).cell? ⟨w.heap.size, 1, none⟩ = some (.int .i64 (G : Nat)) := (st5_far _ _ _ _ _ _ (by omega)).trans x0
  have y1 : (st5 w5 r5 (k * 5) p).cell? ⟨w.heap.size + 1 + 1, 0, none⟩ = some (.slice none 0 0) := (st5_far _ _ _ _ _ _ (by omega)).trans u0
  have y2 : (st5 w5 r5 (k * 5) p).cell? ⟨w.heap.size + 1 + 1, 0 + 1, none⟩ = some (.int .i64 0) := (st5_far _ _ _ _ _ _ (by omega)).trans u1
  have y3 : ∀ j, (st5 w5 r5 (k * 5) p).frozen? ⟨w.heap.size + 1 + 1, j, none⟩ = false := fun j => (st5_fr _ _ _ _ _ _).trans (f0 j)
  have KG := Lib.hid (st5_grow w5 r5 (k * 5) p K5.out (by omega))
  have PN : Hid (PlAt5 (st5 w5 r5 (k * 5) p) r5 n (upV T k p)) := Lib.hid ⟨by rw [st5_size]; exact hl5.2, fun j hj => by
    by_cases e : j = k
    · subst e
      rw [upV_same]
      exact st5_at w5 r5 (j * 5) p (HP5.out.pl j hj)
    · rw [upV_other _ _ _ _ e]
      refine P5.of_at fun i hi => (st5_far w5 r5 (k * 5) p r5 (j * 5 + i) (by omega)).trans ((HP5.out.pl j hj).at i hi)⟩
  have sz6 : (st5 w5 r5 (k * 5) p).heap.size = w5.heap.size := st5_size ..
  have SZ6 := Lib.hid sz6
  clear c0 c1 c2 c3 c4 e0 d1 e1 d2 e2 d3 e3 d4 e4 hst q0 q1 q2 q3 q4 u0 u1 f0 fz x0 HP5 K5 sz6
  generalize st5 w5 r5 (k * 5) p = w6 at *
  have y3a := y3 0
  have y4 : (w6.setCell ⟨w.heap.size + 1 + 1, 0, none⟩ (.slice (some ⟨r5, 0, none⟩) n cp5)).cell? ⟨w.heap.size + 1 + 1, 0 + 1, none⟩ = some (.int .i64 0) := (set_far5 _ _ _ _ _ _ (Or.inr (by omega))).trans y2
  have y5 : (w6.setCell ⟨w.heap.size + 1 + 1, 0, none⟩ (.slice (some ⟨r5, 0, none⟩) n cp5)).frozen? ⟨w.heap.size + 1 + 1, 0 + 1, none⟩ = false := (World.frozen?_setCell ..).trans (y3 _)
  go_wp2
  have g1 : ((w6.setCell ⟨w.heap.size + 1 + 1, 0, none⟩ (.slice (some ⟨r5, 0, none⟩) n cp5)).setCell ⟨w.heap.size + 1 + 1, 1, none⟩ (.int .i64 (G : Nat))).cell? ⟨w.heap.size + 1 + 1, 0, none⟩ = some (.slice (some ⟨r5, 0, none⟩) n cp5) := (set_far5 _ _ _ _ _ _ (Or.inr (by omega))).trans (World.cell?_setCell_same _ _ _ y1)
  have g2 : ((w6.setCell ⟨w.heap.size + 1 + 1, 0, none⟩ (.slice (some ⟨r5, 0, none⟩) n cp5)).setCell ⟨w.heap.size + 1 + 1, 1, none⟩ (.int .i64 (G : Nat))).cell? ⟨w.heap.size + 1 + 1, 1, none⟩ = some (.int .i64 (G : Nat)) := World.cell?_setCell_same _ _ _ y4
  have o1 := Only.set (lo := w.heap.size + 2) (hi := w.heap.size + 3) w6 ⟨w.heap.size + 1 + 1, 0, none⟩ (.slice (some ⟨r5, 0, none⟩) n cp5) (show w.heap.size + 2 ≤ w.heap.size + 1 + 1 by omega) (show w.heap.size + 1 + 1 < w.heap.size + 3 by omega)
  have o2 := o1.trans (Only.set (lo := w.heap.size + 2) (hi := w.heap.size + 3) (w6.setCell ⟨w.heap.size + 1 + 1, 0, none⟩ (.slice (some ⟨r5, 0, none⟩) n cp5)) ⟨w.heap.size + 1 + 1, 1, none⟩ (.int .i64 (G : Nat)) (show w.heap.size + 2 ≤ w.heap.size + 1 + 1 by omega) (show w.heap.size + 1 + 1 < w.heap.size + 3 by omega))
  exact bodyPost_ret (v := .agg #[.slice (some ⟨r5, 0, none⟩) n cp5, .int .i64 (G : Nat)]) (by simp [results, Tryd.results28, go_sem, g1, g2]) rfl ⟨r5, cp5, rfl, Only.on KG.out o2 (by omega), by omega, PN.out.only o2 (Or.inr (by omega))⟩
end Go.Proofs.YtbkjdbimkofceaaDoor
