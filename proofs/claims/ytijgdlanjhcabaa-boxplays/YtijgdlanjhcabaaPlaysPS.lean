/-
  BoxPlays: the law's two boxes in memory, the document's beside them. (No condition.)
-/
import Derived.Test.YtijgdlanjhcabaaRef10b
import Derived.Test.YtijgdlanjhcabaaBox7I
namespace Go.Proofs.Ytijgdlanjhcabaa
open Go.RowKit Go.Lib Go.Conc
set_option linter.unusedVariables false

/-- The law's struct in block tb: two boxes, the document's two lists, how much room there is. -/
structure PS (W w : World) (tb ba ca na bb cb nb : Nat) (LA LB : List (Nat × Int)) (vx vy : Value) (X Y : List Int) : Prop where
  t : w.heap[tb]? = some (.cells #[.pointer (some ⟨ba, 0, none⟩), .pointer (some ⟨bb, 0, none⟩), vx, vy, .int .i64 (na : Nat), .int .i64 (nb : Nat)] 30 (0, 0))
  a : BI.Bx w ba ca na LA
  b : BI.Bx w bb cb nb LB
  rx : RI w vx X
  ry : RI w vy Y
  ne : ca ≠ cb
  dj : ∀ p ∈ LA, ∀ q ∈ LB, p.1 ≠ q.1
  gw : W.grownBy w none
  lt : W.heap.size ≤ tb
  la : W.heap.size ≤ ca ∧ ∀ p ∈ LA, W.heap.size ≤ p.1
  lb : W.heap.size ≤ cb ∧ ∀ p ∈ LB, W.heap.size ≤ p.1
section
variable {W w w' : World} {tb ba ca na bb cb nb : Nat} {LA LB L' : List (Nat × Int)} {vx vy v' : Value} {X Y F : List Int}
theorem PS.kept (H : PS W w tb ba ca na bb cb nb LA LB vx vy X Y) (k : w.grownBy w' none) : PS W w' tb ba ca na bb cb nb LA LB vx vy X Y :=
  ⟨(k.block _ (BI.blk_lt H.t) (by simp)).trans H.t, H.a.kept k, H.b.kept k, H.rx.kept k, H.ry.kept k, H.ne, H.dj, H.gw.trans k, H.lt, H.la, H.lb⟩
theorem PS.drew (H : PS W w tb ba ca na bb cb nb LA LB vx vy X Y) : PS W w.drew tb ba ca na bb cb nb LA LB vx vy X Y := H.kept ⟨rfl, rfl, rfl, Nat.le_refl _, fun _ _ _ => rfl⟩

/-- The struct's list is set. -/
theorem PS.set_a (H : PS W w tb ba ca na bb cb nb LA LB vx vy X Y) (h : RI w v' F) : PS W (w.setCell ⟨tb, 2, none⟩ v') tb ba ca na bb cb nb LA LB v' vy F Y := by
  have hf : ∀ j, j ≠ tb → (w.setCell ⟨tb, 2, none⟩ v').heap[j]? = w.heap[j]? := fun j hj => Below.heap_setCell w ⟨tb, 2, none⟩ v' j hj
  have hne : ∀ (j : Nat) (a : Array Value) (t : TypeId), w.heap[j]? = some (Obj.cells a t (0, 0)) → t ≠ 30 → j ≠ tb := by
    rintro j a t hj ht rfl
    rw [H.t] at hj
    injection hj with hj
    injection hj with _ hj
    exact ht hj.symm
  have hch : ∀ {bx cx nx : Nat} {L : List (Nat × Int)}, BI.Bx w bx cx nx L → cx ≠ tb := by
    rintro bx cx nx L hb rfl
    obtain ⟨s, r, hc⟩ := hb.ch
    rw [H.t] at hc
    cases hc
  have hbx : ∀ {bx cx nx : Nat} {L : List (Nat × Int)}, BI.Bx w bx cx nx L → BI.Bx (w.setCell ⟨tb, 2, none⟩ v') bx cx nx L := fun hb =>
    hb.off (hf _ (hne _ _ _ hb.b (by decide))) (hf _ (hch hb)) fun x hx => hf _ (hne _ _ _ (hb.th x hx) (by decide))
  have hri : ∀ {u : Value} {G : List Int}, RI w u G → RI (w.setCell ⟨tb, 2, none⟩ v') u G := fun hr => hr.off fun b cur hb => hf b (hne _ _ _ hb (by decide))
  refine ⟨?_, hbx H.a, hbx H.b, hri h, hri H.ry, H.ne, H.dj, ⟨H.gw.os, H.gw.tape, H.gw.output, by have := H.gw.size; simp [World.setCell]; omega, fun j hj hr => (hf j (by have := H.lt; omega)).trans (H.gw.block j hj hr)⟩, H.lt, H.la, H.lb⟩
  have := BI.blk_setCell w tb 2 v' _ _ H.t
  simpa using this
/-- What waits in the box turns, by its channel alone. -/
theorem PS.on_a (H : PS W w tb ba ca na bb cb nb LA LB vx vy X Y) (h : BI.Bx w' ba ca na L') (k : Only ca (ca + 1) w w') (hs : ∀ p ∈ L', p ∈ LA ∨ p.1 = w.heap.size) : PS W w' tb ba ca na bb cb nb L' LB vx vy X Y := by
  have hf : ∀ (j : Nat) (a : Array Value) (t : TypeId), w.heap[j]? = some (Obj.cells a t (0, 0)) → w'.heap[j]? = w.heap[j]? := fun j a t hj => k.block j (BI.blk_lt hj) (by
    have : j ≠ ca := fun e => ch_not H.a _ _ _ (by rw [← e]; exact hj)
    omega)
  refine ⟨(hf _ _ _ H.t).trans H.t, h, H.b.only k H.ne (ch_not H.a), H.rx.off fun b cur hb => hf b _ _ hb, H.ry.off fun b cur hb => hf b _ _ hb, H.ne, fun p hp q hq => ?_, Only.on H.gw k H.la.1, H.lt, ⟨H.la.1, fun p hp => (hs p hp).elim (H.la.2 p) (fun e => by have := H.gw.size; omega)⟩, H.lb⟩
  exact (hs p hp).elim (fun h => H.dj p h q hq) (fun e => by have := H.b.lt.2.2 q hq; omega)
/-- Things of the box were sifted. -/
theorem PS.sift_a (H : PS W w tb ba ca na bb cb nb LA LB vx vy X Y) (h : BI.Bx w' ba ca na L') (k : BI.OnlyB (fun j => j = ca ∨ ∃ x ∈ LA, j = x.1) w w') (hs : ∀ p ∈ L', p ∈ LA) : PS W w' tb ba ca na bb cb nb L' LB vx vy X Y := by
  have hf : ∀ (j : Nat) (a : Array Value) (t : TypeId), w.heap[j]? = some (Obj.cells a t (0, 0)) → t ≠ 78 → w'.heap[j]? = w.heap[j]? := fun j a t hj ht => k.block j (BI.blk_lt hj) (by
    rintro (e | ⟨x, hx, e⟩)
    · exact ch_not H.a _ _ _ (by rw [← e]; exact hj)
    · have h1 := H.a.th x hx
      rw [← e, hj] at h1
      injection h1 with h1
      injection h1 with _ h1
      exact ht h1)
  have ho : BI.Bx w' bb cb nb LB := H.b.off (hf _ _ _ H.b.b (by decide)) (k.block _ H.b.lt.2.1 (by
    rintro (e | ⟨x, hx, e⟩)
    · exact H.ne e.symm
    · obtain ⟨s, r, hc⟩ := H.b.ch
      have h1 := H.a.th x hx
      rw [← e, hc] at h1
      cases h1)) fun y hy => k.block _ (H.b.lt.2.2 y hy) (by
    rintro (e | ⟨x, hx, e⟩)
    · exact ch_not H.a _ _ _ (by rw [← e]; exact H.b.th y hy)
    · exact H.dj x hx y hy e.symm)
  refine ⟨(hf _ _ _ H.t (by decide)).trans H.t, h, ho, H.rx.off fun b cur hb => hf b _ _ hb (by decide), H.ry.off fun b cur hb => hf b _ _ hb (by decide), H.ne, fun p hp q hq => H.dj p (hs p hp) q hq, ⟨k.os.trans H.gw.os, k.tape.trans H.gw.tape, k.output.trans H.gw.output, Nat.le_trans H.gw.size k.size, fun j hj hr => (k.block j (Nat.lt_of_lt_of_le hj H.gw.size) ?_).trans (H.gw.block j hj hr)⟩, H.lt, ⟨H.la.1, fun p hp => H.la.2 p (hs p hp)⟩, H.lb⟩
  rintro (e | ⟨x, hx, e⟩)
  · have := H.la.1; omega
  · have := H.la.2 x hx; omega

/-- The struct's list is set. -/
theorem PS.set_b (H : PS W w tb ba ca na bb cb nb LA LB vx vy X Y) (h : RI w v' F) : PS W (w.setCell ⟨tb, 3, none⟩ v') tb ba ca na bb cb nb LA LB vx v' X F := by
  have hf : ∀ j, j ≠ tb → (w.setCell ⟨tb, 3, none⟩ v').heap[j]? = w.heap[j]? := fun j hj => Below.heap_setCell w ⟨tb, 3, none⟩ v' j hj
  have hne : ∀ (j : Nat) (a : Array Value) (t : TypeId), w.heap[j]? = some (Obj.cells a t (0, 0)) → t ≠ 30 → j ≠ tb := by
    rintro j a t hj ht rfl
    rw [H.t] at hj
    injection hj with hj
    injection hj with _ hj
    exact ht hj.symm
  have hch : ∀ {bx cx nx : Nat} {L : List (Nat × Int)}, BI.Bx w bx cx nx L → cx ≠ tb := by
    rintro bx cx nx L hb rfl
    obtain ⟨s, r, hc⟩ := hb.ch
    rw [H.t] at hc
    cases hc
  have hbx : ∀ {bx cx nx : Nat} {L : List (Nat × Int)}, BI.Bx w bx cx nx L → BI.Bx (w.setCell ⟨tb, 3, none⟩ v') bx cx nx L := fun hb =>
    hb.off (hf _ (hne _ _ _ hb.b (by decide))) (hf _ (hch hb)) fun x hx => hf _ (hne _ _ _ (hb.th x hx) (by decide))
  have hri : ∀ {u : Value} {G : List Int}, RI w u G → RI (w.setCell ⟨tb, 3, none⟩ v') u G := fun hr => hr.off fun b cur hb => hf b (hne _ _ _ hb (by decide))
  refine ⟨?_, hbx H.a, hbx H.b, hri H.rx, hri h, H.ne, H.dj, ⟨H.gw.os, H.gw.tape, H.gw.output, by have := H.gw.size; simp [World.setCell]; omega, fun j hj hr => (hf j (by have := H.lt; omega)).trans (H.gw.block j hj hr)⟩, H.lt, H.la, H.lb⟩
  have := BI.blk_setCell w tb 3 v' _ _ H.t
  simpa using this
/-- What waits in the box turns, by its channel alone. -/
theorem PS.on_b (H : PS W w tb ba ca na bb cb nb LA LB vx vy X Y) (h : BI.Bx w' bb cb nb L') (k : Only cb (cb + 1) w w') (hs : ∀ p ∈ L', p ∈ LB ∨ p.1 = w.heap.size) : PS W w' tb ba ca na bb cb nb LA L' vx vy X Y := by
  have hf : ∀ (j : Nat) (a : Array Value) (t : TypeId), w.heap[j]? = some (Obj.cells a t (0, 0)) → w'.heap[j]? = w.heap[j]? := fun j a t hj => k.block j (BI.blk_lt hj) (by
    have : j ≠ cb := fun e => ch_not H.b _ _ _ (by rw [← e]; exact hj)
    omega)
  refine ⟨(hf _ _ _ H.t).trans H.t, H.a.only k (fun e => H.ne e.symm) (ch_not H.b), h, H.rx.off fun b cur hb => hf b _ _ hb, H.ry.off fun b cur hb => hf b _ _ hb, H.ne, fun p hp q hq => ?_, Only.on H.gw k H.lb.1, H.lt, H.la, ⟨H.lb.1, fun p hp => (hs p hp).elim (H.lb.2 p) (fun e => by have := H.gw.size; omega)⟩⟩
  exact (hs q hq).elim (fun h => H.dj p hp q h) (fun e => by have := H.a.lt.2.2 p hp; omega)
/-- Things of the box were sifted. -/
theorem PS.sift_b (H : PS W w tb ba ca na bb cb nb LA LB vx vy X Y) (h : BI.Bx w' bb cb nb L') (k : BI.OnlyB (fun j => j = cb ∨ ∃ x ∈ LB, j = x.1) w w') (hs : ∀ p ∈ L', p ∈ LB) : PS W w' tb ba ca na bb cb nb LA L' vx vy X Y := by
  have hf : ∀ (j : Nat) (a : Array Value) (t : TypeId), w.heap[j]? = some (Obj.cells a t (0, 0)) → t ≠ 78 → w'.heap[j]? = w.heap[j]? := fun j a t hj ht => k.block j (BI.blk_lt hj) (by
    rintro (e | ⟨x, hx, e⟩)
    · exact ch_not H.b _ _ _ (by rw [← e]; exact hj)
    · have h1 := H.b.th x hx
      rw [← e, hj] at h1
      injection h1 with h1
      injection h1 with _ h1
      exact ht h1)
  have ho : BI.Bx w' ba ca na LA := H.a.off (hf _ _ _ H.a.b (by decide)) (k.block _ H.a.lt.2.1 (by
    rintro (e | ⟨x, hx, e⟩)
    · exact H.ne e
    · obtain ⟨s, r, hc⟩ := H.a.ch
      have h1 := H.b.th x hx
      rw [← e, hc] at h1
      cases h1)) fun y hy => k.block _ (H.a.lt.2.2 y hy) (by
    rintro (e | ⟨x, hx, e⟩)
    · exact ch_not H.b _ _ _ (by rw [← e]; exact H.a.th y hy)
    · exact H.dj y hy x hx e)
  refine ⟨(hf _ _ _ H.t (by decide)).trans H.t, ho, h, H.rx.off fun b cur hb => hf b _ _ hb (by decide), H.ry.off fun b cur hb => hf b _ _ hb (by decide), H.ne, fun p hp q hq => H.dj p hp q (hs q hq), ⟨k.os.trans H.gw.os, k.tape.trans H.gw.tape, k.output.trans H.gw.output, Nat.le_trans H.gw.size k.size, fun j hj hr => (k.block j (Nat.lt_of_lt_of_le hj H.gw.size) ?_).trans (H.gw.block j hj hr)⟩, H.lt, H.la, ⟨H.lb.1, fun p hp => H.lb.2 p (hs p hp)⟩⟩
  rintro (e | ⟨x, hx, e⟩)
  · have := H.lb.1; omega
  · have := H.lb.2 x hx; omega
end
end Go.Proofs.Ytijgdlanjhcabaa
