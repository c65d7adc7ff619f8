/-
  Package alarm, over this seat's translation: how a book of timers lies in memory, piece by piece, and what its calls may turn. (No condition.)
-/
import Derived.Test.YtkkodhjolgcokaaDoorSlabTopA
import Derived.Test.YtkkodhjolgcokaaDoorWheelTo4
namespace Go.Proofs.YtkkodhjolgcokaaDoor
open Go.RowKit Go.Lib

/-- A timer: is there one, its state, by which handle, for when, how often again, its turn. -/
structure Ti where
  is : Bool
  st : Nat
  h : Nat
  t : Nat
  p : Nat
  u : Nat
def Ti.none : Ti := ⟨false, 0, 0, 0, 0, 0⟩
def Ti.idle : Ti := ⟨true, 0, 0, 0, 0, 0⟩
def Ti.row (x : Ti) : SA.Pr := ⟨(x.st : Nat), (x.h : Nat), (x.t : Nat), (x.p : Nat)⟩
/-- A timer that is due. -/
def Ti.due (x : Ti) : Ti := ⟨x.is, 2, x.h, x.t, x.p, x.u⟩
/-- What the wheel has: the timers that are set. -/
def onW (T : Nat → Ti) : Nat → Option (Nat × Nat) := fun k => if (T k).st = 1 then some ((T k).t, (T k).u) else Option.none
structure Ti.ok (x : Ti) : Prop where
  off : x.is = false → x = Ti.none
  idle : x.is = true → x.st = 0 → x = Ti.idle
  st : x.st ≤ 2
  bd : x.h < 18446744073709551616 ∧ x.t < 18446744073709551616 ∧ x.p < 18446744073709551616
structure TiOk (n tu : Nat) (T : Nat → Ti) : Prop where
  ok : ∀ k, (T k).ok
  far : ∀ k, n ≤ k → T k = Ti.none
  tu : ∀ k, (T k).st = 1 → (T k).u < tu
  inj : ∀ j k, (T j).st = 1 → (T k).st = 1 → (T j).u = (T k).u → j = k
theorem Ti.none_ok : Ti.none.ok := ⟨fun _ => rfl, fun h => (by cases h), by decide, by decide⟩
theorem Ti.idle_ok : Ti.idle.ok := ⟨fun h => (by cases h), fun _ _ => rfl, by decide, by decide⟩
theorem TiOk.new (n tu : Nat) : TiOk n tu fun _ => Ti.none := ⟨fun _ => Ti.none_ok, fun _ _ => rfl, fun _ h => (by cases h), fun _ _ h => (by cases h)⟩
theorem TiOk.up {n tu p : Nat} {T : Nat → Ti} (H : TiOk n tu T) (hp : p < n) (x : Ti) (hx : x.ok) (hs : x.st ≠ 1) : TiOk n tu (upV T p x) := by
  refine ⟨fun k => ?_, fun k hk => ?_, fun k h => ?_, fun j k hj hk e => ?_⟩
  · by_cases e : k = p
    · subst e; rw [upV_same]; exact hx
    · rw [upV_other _ _ _ _ e]; exact H.ok k
  · rw [upV_other _ _ _ _ (by omega)]; exact H.far k hk
  · by_cases e : k = p
    · subst e; rw [upV_same] at h; exact absurd h hs
    · rw [upV_other _ _ _ _ e] at *; exact H.tu k h
  · by_cases e1 : j = p
    · subst e1; rw [upV_same] at hj; exact absurd hj hs
    · by_cases e2 : k = p
      · subst e2; rw [upV_same] at hk; exact absurd hk hs
      · rw [upV_other _ _ _ _ e1] at *; rw [upV_other _ _ _ _ e2] at *; exact H.inj j k hj hk e
theorem TiOk.arm {n tu p : Nat} {T : Nat → Ti} (H : TiOk n tu T) (hp : p < n) (x : Ti) (hx : x.ok) (hu : x.u = tu) : TiOk n (tu + 1) (upV T p x) := by
  refine ⟨fun k => ?_, fun k hk => ?_, fun k h => ?_, fun j k hj hk e => ?_⟩
  · by_cases e : k = p
    · subst e; rw [upV_same]; exact hx
    · rw [upV_other _ _ _ _ e]; exact H.ok k
  · rw [upV_other _ _ _ _ (by omega)]; exact H.far k hk
  · by_cases e : k = p
    · subst e; rw [upV_same]; omega
    · rw [upV_other _ _ _ _ e] at *; have := H.tu k h; omega
  · by_cases e1 : j = p
    · subst e1
      by_cases e2 : k = j
      · exact e2.symm
      · rw [upV_other _ _ _ _ e2] at *; rw [upV_same] at e; have := H.tu k hk; omega
    · rw [upV_other _ _ _ _ e1] at *
      by_cases e2 : k = p
      · subst e2; rw [upV_same] at e; have := H.tu j hj; omega
      · rw [upV_other _ _ _ _ e2] at *; exact H.inj j k hj hk e
theorem onW_up (T : Nat → Ti) (p : Nat) (x : Ti) : onW (upV T p x) = upS (onW T) p (if x.st = 1 then some (x.t, x.u) else Option.none) := by
  funext k
  unfold onW upS
  by_cases e : k = p
  · subst e; rw [upV_same]; simp
  · rw [upV_other _ _ _ _ e]; simp [e]
theorem upS_same_none (S : Nat → Option (Nat × Nat)) (p : Nat) (h : S p = Option.none) : upS S p Option.none = S := by
  funext k; unfold upS; split
  · next e => subst e; exact h.symm
  · rfl
theorem upS_upS (S : Nat → Option (Nat × Nat)) (p : Nat) (x y : Option (Nat × Nat)) : upS (upS S p x) p y = upS S p y := by
  funext k; unfold upS; split <;> rfl
theorem is_up (T : Nat → Ti) (p : Nat) (x : Ti) : (fun k => (upV T p x k).is) = fun k => if k = p then x.is else (T k).is := by
  funext k; by_cases e : k = p
  · subst e; rw [upV_same]; simp
  · rw [upV_other _ _ _ _ e]; simp [e]
theorem row_up (T : Nat → Ti) (p : Nat) (x : Ti) : (fun k => (upV T p x k).row) = upV (fun k => (T k).row) p x.row := by
  funext k; by_cases e : k = p
  · subst e; rw [upV_same, upV_same]
  · rw [upV_other _ _ _ _ e, upV_other _ _ _ _ e]

theorem Wl.blk {w w' : World} {lo hi wb n now : Nat} {S : Nat → Option (Nat × Nat)} (H : Wl w lo hi wb n now S) (hh : hi ≤ w.heap.size) (os : w'.os = w.os) (tape : w'.tape = w.tape) (output : w'.output = w.output) (hs : w.heap.size ≤ w'.heap.size)
    (hb : ∀ k, lo ≤ k → k < hi → w'.heap[k]? = w.heap[k]?) : Wl w' lo hi wb n now S := by
  obtain ⟨P, hP, hsz, h1, h2⟩ : ∃ P : World, (P.os = w.os ∧ P.tape = w.tape ∧ P.output = w.output) ∧ P.heap.size = w'.heap.size ∧ (∀ k, k < hi → k < w.heap.size → P.heap[k]? = w.heap[k]?) ∧ (∀ k, hi ≤ k → P.heap[k]? = w'.heap[k]?) := by
    refine ⟨{ w' with heap := Array.ofFn (n := w'.heap.size) fun k => if k.1 < hi then (w.heap[k.1]?).getD w'.heap[k.1] else w'.heap[k.1] }, ⟨os, tape, output⟩, by simp, fun k h1 h2 => ?_, fun k h1 => ?_⟩
    · have h3 : k < w'.heap.size := by omega
      simp [Array.getElem?_ofFn, h3, h1, h2]
    · by_cases h3 : k < w'.heap.size
      · have h4 : ¬ k < hi := by omega
        simp [Array.getElem?_ofFn, h3, h4]
      · simp [Array.getElem?_ofFn, h3]
  have k1 : Only hi w'.heap.size w P := ⟨hP.1, hP.2.1, hP.2.2, by omega, fun k hk hr => h1 k (by omega) hk⟩
  have H1 := H.only k1 (Or.inl (Nat.le_refl _))
  have k2 : Only 0 lo P w' := ⟨os.trans hP.1.symm, tape.trans hP.2.1.symm, output.trans hP.2.2.symm, by omega, fun k hk hr => by
    by_cases h : k < hi
    · rw [h1 k h (by omega)]; exact hb k (by omega) h
    · rw [h2 k (by omega)]⟩
  exact H1.only k2 (Or.inr (Nat.le_refl _))

/-- From w to w' nothing has turned but blocks g and bb, those from lo on below hi, and the cells of block pb from po on, below po + m. -/
structure BTouch (g pb po m lo hi bb : Nat) (w w' : World) : Prop where
  os : w'.os = w.os
  tape : w'.tape = w.tape
  output : w'.output = w.output
  size : w.heap.size ≤ w'.heap.size
  block : ∀ k, k < w.heap.size → k ≠ g → k ≠ pb → k ≠ bb → (k < lo ∨ hi ≤ k) → w'.heap[k]? = w.heap[k]?
  cell : ∀ j, (j < po ∨ po + m ≤ j) → w'.cell? ⟨pb, j, none⟩ = w.cell? ⟨pb, j, none⟩
  frz : ∀ j, w'.frozen? ⟨pb, j, none⟩ = w.frozen? ⟨pb, j, none⟩
section
variable {g pb po m lo hi bb : Nat} {w w' w2 : World}
theorem BTouch.of_touch (h : Touch g pb po m w w') : BTouch g pb po m lo hi bb w w' := ⟨h.os, h.tape, h.output, h.size, fun k hk h1 h2 _ _ => h.block k hk h1 h2, h.cell, h.frz⟩
theorem BTouch.of_only (h : Only lo hi w w') (hp : pb < w.heap.size) (hr : pb < lo ∨ hi ≤ pb) : BTouch g pb po m lo hi bb w w' := ⟨h.os, h.tape, h.output, h.size, fun k hk _ _ _ h1 => h.block k hk h1, fun j _ => h.cell' pb j hp hr, fun j => h.frozen' pb j hp hr⟩
theorem BTouch.of_none (h : w.grownBy w' none) (hp : pb < w.heap.size) : BTouch g pb po m lo hi bb w w' := BTouch.of_touch (Touch.of_none h hp)
theorem BTouch.trans (h : BTouch g pb po m lo hi bb w w') (k : BTouch g pb po m lo hi bb w' w2) : BTouch g pb po m lo hi bb w w2 :=
  ⟨k.os.trans h.os, k.tape.trans h.tape, k.output.trans h.output, Nat.le_trans h.size k.size, fun i hi h0 h1 h2 h3 => (k.block i (Nat.lt_of_lt_of_le hi h.size) h0 h1 h2 h3).trans (h.block i hi h0 h1 h2 h3), fun j hj => (k.cell j hj).trans (h.cell j hj), fun j => (k.frz j).trans (h.frz j)⟩
theorem BTouch.set (w : World) (j : Nat) (v : Value) (hne : pb ≠ bb) : BTouch g pb po m lo hi bb w (w.setCell ⟨bb, j, none⟩ v) :=
  ⟨rfl, rfl, rfl, by rw [size_set]; exact Nat.le_refl _, fun k _ _ _ hk _ => Below.heap_setCell w ⟨bb, j, none⟩ v k hk, fun i _ => World.cell?_setCell_other _ _ _ _ (by intro e; injection e with e1; exact hne e1.symm), fun i => World.frozen?_setCell ..⟩
theorem BTouch.only {l h : Nat} (H : BTouch g pb po m lo hi bb w w') (h0 : l ≤ g ∧ g < h) (h1 : l ≤ pb ∧ pb < h) (h2 : l ≤ bb ∧ bb < h) (h3 : l ≤ lo ∧ hi ≤ h) : Only l h w w' :=
  ⟨H.os, H.tape, H.output, H.size, fun k hk hr => H.block k hk (by omega) (by omega) (by omega) (by omega)⟩
end

/-- A book's pieces: its struct in block bb; its region; its wheel, in blocks from lo on, below hi; its count of turns. -/
structure BkP (w : World) (bb rb ro pb po b g lo hi wb n now tu : Nat) (S : Nat → Bool) (V : Nat → SA.Pr) (A : Nat → Option (Nat × Nat)) : Prop where
  c0 : w.cell? ⟨bb, 0, none⟩ = some (.pointer (some ⟨rb, ro, none⟩))
  c1 : w.cell? ⟨bb, 1, none⟩ = some (.pointer (some ⟨wb, 0, none⟩))
  c2 : w.cell? ⟨bb, 2, none⟩ = some (.int .u64 (tu : Nat))
  f2 : w.frozen? ⟨bb, 2, none⟩ = false
  reg : SA.RegMem w rb ro pb po b g n S V
  wl : Wl w lo hi wb n now A
  bd : tu < 18446744073709551616
  hw : hi ≤ w.heap.size
  l : bb < w.heap.size
  d : bb ≠ rb ∧ bb ≠ pb ∧ bb ≠ b ∧ bb ≠ g
  o : (bb < lo ∨ hi ≤ bb) ∧ (rb < lo ∨ hi ≤ rb) ∧ (pb < lo ∨ hi ≤ pb) ∧ (b < lo ∨ hi ≤ b) ∧ (g < lo ∨ hi ≤ g)
section
variable {w w' : World} {bb rb ro pb po b g lo hi wb n now tu : Nat} {S S' : Nat → Bool} {V V' : Nat → SA.Pr} {A A' : Nat → Option (Nat × Nat)}
theorem BkP.only {l h : Nat} (H : BkP w bb rb ro pb po b g lo hi wb n now tu S V A) (k : Only l h w w') (h0 : bb < l ∨ h ≤ bb) (h1 : rb < l ∨ h ≤ rb) (h2 : pb < l ∨ h ≤ pb) (h3 : b < l ∨ h ≤ b) (h4 : g < l ∨ h ≤ g) (h5 : hi ≤ l ∨ h ≤ lo) : BkP w' bb rb ro pb po b g lo hi wb n now tu S V A :=
  ⟨(k.cell' bb _ H.l h0).trans H.c0, (k.cell' bb _ H.l h0).trans H.c1, (k.cell' bb _ H.l h0).trans H.c2, (k.frozen' bb _ H.l h0).trans H.f2, H.reg.only k h1 h2 h3 h4, H.wl.only k h5, H.bd, Nat.le_trans H.hw k.size, Nat.lt_of_lt_of_le H.l k.size, H.d, H.o⟩
theorem BkP.grown (H : BkP w bb rb ro pb po b g lo hi wb n now tu S V A) (k : w.grownBy w' none) : BkP w' bb rb ro pb po b g lo hi wb n now tu S V A :=
  H.only (Only.of_none (lo := 0) (hi := 0) k) (Or.inr (by omega)) (Or.inr (by omega)) (Or.inr (by omega)) (Or.inr (by omega)) (Or.inr (by omega)) (Or.inr (by omega))
/-- The region has turned. -/
theorem BkP.touch (H : BkP w bb rb ro pb po b g lo hi wb n now tu S V A) (k : Touch g pb po (n * 4) w w') (R : SA.RegMem w' rb ro pb po b g n S' V') : BkP w' bb rb ro pb po b g lo hi wb n now tu S' V' A ∧ BTouch g pb po (n * 4) lo hi bb w w' := by
  obtain ⟨d1, d2, d3, d4⟩ := H.d
  obtain ⟨o1, o2, o3, o4, o5⟩ := H.o
  exact ⟨⟨(k.far bb _ H.l d4 d2).trans H.c0, (k.far bb _ H.l d4 d2).trans H.c1, (k.far bb _ H.l d4 d2).trans H.c2, (k.farF bb _ H.l d4 d2).trans H.f2, R, H.wl.blk H.hw k.os k.tape k.output k.size (fun i h1 h2 => k.block i (by have := H.hw; omega) (by omega) (by omega)), H.bd, Nat.le_trans H.hw k.size, Nat.lt_of_lt_of_le H.l k.size, H.d, H.o⟩, BTouch.of_touch k⟩
/-- The wheel has turned. -/
theorem BkP.turn {now' : Nat} (H : BkP w bb rb ro pb po b g lo hi wb n now tu S V A) (k : Only lo hi w w') (W : Wl w' lo hi wb n now' A') : BkP w' bb rb ro pb po b g lo hi wb n now' tu S V A' ∧ BTouch g pb po (n * 4) lo hi bb w w' := by
  obtain ⟨o1, o2, o3, o4, o5⟩ := H.o
  exact ⟨⟨(k.cell' bb _ H.l o1).trans H.c0, (k.cell' bb _ H.l o1).trans H.c1, (k.cell' bb _ H.l o1).trans H.c2, (k.frozen' bb _ H.l o1).trans H.f2, H.reg.only k o2 o3 o4 o5, W, H.bd, Nat.le_trans H.hw k.size, Nat.lt_of_lt_of_le H.l k.size, H.d, H.o⟩, BTouch.of_only k H.reg.l.2 o3⟩
/-- The count of turns has turned. -/
theorem BkP.count (H : BkP w bb rb ro pb po b g lo hi wb n now tu S V A) (tu' : Nat) (ht : tu' < 18446744073709551616) : BkP (w.setCell ⟨bb, 2, none⟩ (.int .u64 (tu' : Nat))) bb rb ro pb po b g lo hi wb n now tu' S V A ∧ BTouch g pb po (n * 4) lo hi bb w (w.setCell ⟨bb, 2, none⟩ (.int .u64 (tu' : Nat))) := by
  have k : Only bb (bb + 1) w (w.setCell ⟨bb, 2, none⟩ (.int .u64 (tu' : Nat))) := Only.set _ _ _ (Nat.le_refl _) (Nat.lt_succ_self _)
  obtain ⟨d1, d2, d3, d4⟩ := H.d
  obtain ⟨o1, o2, o3, o4, o5⟩ := H.o
  refine ⟨⟨(World.cell?_setCell_other _ _ _ _ (by intro e; injection e with e1 e2; omega)).trans H.c0, (World.cell?_setCell_other _ _ _ _ (by intro e; injection e with e1 e2; omega)).trans H.c1, World.cell?_setCell_same _ _ _ H.c2, (World.frozen?_setCell ..).trans H.f2, H.reg.only k (by omega) (by omega) (by omega) (by omega), H.wl.only k (by omega), ht, Nat.le_trans H.hw k.size, Nat.lt_of_lt_of_le H.l k.size, H.d, H.o⟩, BTouch.set _ _ _ (Ne.symm d2)⟩
end

/-- A book in block bb: its region's places are rb .. g, its wheel's blocks lo .. hi; n places, the time now, tu turns; T k is timer k. -/
structure BkMem (w : World) (bb rb ro pb po b g lo hi wb n now tu : Nat) (T : Nat → Ti) : Prop where
  m : BkP w bb rb ro pb po b g lo hi wb n now tu (fun k => (T k).is) (fun k => (T k).row) (onW T)
  ok : TiOk n tu T
end Go.Proofs.YtkkodhjolgcokaaDoor
