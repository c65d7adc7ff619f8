/-
  A poll among other things: what is done elsewhere lets it be; a poll made since W, beside boxes of the law's own; Opened.
-/
import Derived.Test.YtpnipmjjhiaieaaPoll8
namespace Go.Proofs.Ytpnipmjjhiaieaa
open Go.RowKit Go.Lib BN
set_option maxRecDepth 100000
set_option linter.unusedVariables false
/-- How many of the first k devices are open. -/
def openN (G : Nat → Gt) : Nat → Nat
  | 0 => 0
  | k + 1 => openN G k + if (G k).op = true then 1 else 0
theorem openN_le (G : Nat → Gt) : ∀ k, openN G k ≤ k
  | 0 => Nat.le_refl _
  | k + 1 => by have := openN_le G k; unfold openN; split <;> omega

theorem Qu.blk {w w' : World} {lo hi qb T D : Nat} {M : Int} {Q : List Nat} (H : Qu w lo hi qb T D M Q) (os : w'.os = w.os) (tape : w'.tape = w.tape) (output : w'.output = w.output) (hs : w.heap.size ≤ w'.heap.size)
    (hb : ∀ k, lo ≤ k → k < hi → w'.heap[k]? = w.heap[k]?) : Qu w' lo hi qb T D M Q := by
  obtain ⟨P, hP, hsz, h1, h2⟩ : ∃ P : World, (P.os = w.os ∧ P.tape = w.tape ∧ P.output = w.output) ∧ P.heap.size = w'.heap.size ∧ (∀ k, k < hi → k < w.heap.size → P.heap[k]? = w.heap[k]?) ∧ (∀ k, hi ≤ k → P.heap[k]? = w'.heap[k]?) := by
    refine ⟨{ w' with heap := Array.ofFn (n := w'.heap.size) fun k => if k.1 < hi then (w.heap[k.1]?).getD w'.heap[k.1] else w'.heap[k.1] }, ⟨os, tape, output⟩, by simp, fun k h1 h2 => ?_, fun k h1 => ?_⟩
    · have h3 : k < w'.heap.size := by omega
      simp [Array.getElem?_ofFn, h3, h1, h2]
    · by_cases h3 : k < w'.heap.size
      · have h4 : ¬ k < hi := by omega
        simp [Array.getElem?_ofFn, h3, h4]
      · simp [Array.getElem?_ofFn, h3]
  have hh := H.hs
  have k1 : Only hi w'.heap.size w P := ⟨hP.1, hP.2.1, hP.2.2, by omega, fun k hk hr => h1 k (by omega) hk⟩
  have H1 := H.only k1 (Or.inl (Nat.le_refl _))
  have k2 : Only 0 lo P w' := ⟨os.trans hP.1.symm, tape.trans hP.2.1.symm, output.trans hP.2.2.symm, by omega, fun k hk hr => by
    by_cases h : k < hi
    · rw [h1 k h (by omega)]; exact hb k (by omega) h
    · rw [h2 k (by omega)]⟩
  exact H1.only k2 (Or.inr (Nat.le_refl _))
section
variable {w w' : World} {pb gb bb c qb lo hi n cap T D f : Nat} {Mx : Int} {G : Nat → Gt} {L : List (Nat × (Int × Int))} {Q : List Nat}
theorem PoM.own_lt (H : PoM w pb gb bb c qb lo hi n cap T D Mx G L f Q) {k : Nat} (hk : ownP pb gb bb c lo hi L k) : k < w.heap.size := by
  have hq := H.qhi
  rcases hk with h | h | h | h | h | ⟨x, hx, h⟩
  · subst h; exact blk_lt H.p
  · subst h; exact H.gs.lt
  · subst h; exact H.bx.lt.1
  · subst h; exact H.bx.lt.2.1
  · omega
  · subst h; exact H.bx.lt.2.2 x hx
/-- Nothing of the poll's own turned. -/
theorem PoM.off {P : Nat → Prop} (H : PoM w pb gb bb c qb lo hi n cap T D Mx G L f Q) (k : OnlyB P w w') (hP : ∀ j, ownP pb gb bb c lo hi L j → ¬ P j) : PoM w' pb gb bb c qb lo hi n cap T D Mx G L f Q := by
  have hb : ∀ j, ownP pb gb bb c lo hi L j → w'.heap[j]? = w.heap[j]? := fun j hj => k.block j (H.own_lt hj) (hP j hj)
  exact ⟨(hb _ (Or.inl rfl)).trans H.p, H.gs.blk (hb _ (Or.inr (Or.inl rfl))) k.size, H.bx.off (hb _ (Or.inr (Or.inr (Or.inl rfl)))) (hb _ (Or.inr (Or.inr (Or.inr (Or.inl rfl))))) (fun x hx => hb _ (Or.inr (Or.inr (Or.inr (Or.inr (Or.inr ⟨x, hx, rfl⟩)))))), H.qu.blk k.os k.tape k.output k.size (fun j h1 h2 => hb j (Or.inr (Or.inr (Or.inr (Or.inr (Or.inl ⟨h1, h2⟩)))))), H.ap, H.nb, H.nt⟩
end
section
variable {F F' P B : Nat → Prop} {W w w' : World} {pb qb n cap T D : Nat} {Mx : Int} {s s' : Ps}
theorem PoF.off (H : PoF F w pb qb n cap T D Mx s) (k : OnlyB P w w') (hP : ∀ j, F j → ¬ P j) : PoF F w' pb qb n cap T D Mx s := by
  obtain ⟨gb, bb, c, lo, hi, L, H, hN, hF⟩ := H
  exact ⟨gb, bb, c, lo, hi, L, H.off k (fun j hj => hP j (hF j hj)), hN, hF⟩
theorem PoF.sub' (H : PoF F w pb qb n cap T D Mx s) (h : ∀ k, k < w.heap.size → F k → F' k) : PoF F' w pb qb n cap T D Mx s := by
  obtain ⟨gb, bb, c, lo, hi, L, H, hN, hF⟩ := H
  exact ⟨gb, bb, c, lo, hi, L, H, hN, fun k hk => h k (H.own_lt hk) (hF k hk)⟩
/-- Blocks since W that are none of B. -/
def since (W : World) (B : Nat → Prop) : Nat → Prop := fun k => W.heap.size ≤ k ∧ ¬ B k
/-- A poll, and its queue, all made since W, beside the law's own boxes B. -/
def P1 (W w : World) (B : Nat → Prop) (pb qb n cap T D : Nat) (Mx : Int) (s : Ps) : Prop := PoF (since W B) w pb qb n cap T D Mx s ∧ W.grownBy w none ∧ ∀ k, B k → W.heap.size ≤ k ∧ k < w.heap.size
theorem P1.step (H : P1 W w B pb qb n cap T D Mx s) (h : PoF (grF (since W B) w w') w' pb qb n cap T D Mx s') (k : OnlyB (since W B) w w') : P1 W w' B pb qb n cap T D Mx s' := by
  have hs := H.2.1.size
  refine ⟨h.sub fun j hj => ?_, ⟨k.os.trans H.2.1.os, k.tape.trans H.2.1.tape, k.output.trans H.2.1.output, Nat.le_trans hs k.size, fun j hj hr => (k.block j (by omega) (fun h => by have := h.1; omega)).trans (H.2.1.block j hj hr)⟩, fun j hj => ⟨(H.2.2 j hj).1, Nat.lt_of_lt_of_le (H.2.2 j hj).2 k.size⟩⟩
  rcases hj with hj | hj
  · exact hj
  · exact ⟨by omega, fun hb => by have := (H.2.2 j hb).2; omega⟩
/-- A box of the law's own stays. -/
theorem P1.own (H : P1 W w B pb qb n cap T D Mx s) (k : OnlyB (since W B) w w') {b : Nat} (hb : B b) : w'.heap[b]? = w.heap[b]? := k.block b (H.2.2 b hb).2 (fun h => h.2 hb)
theorem P1.stay (H : P1 W w B pb qb n cap T D Mx s) (h : PoF (since W B) w' pb qb n cap T D Mx s') (k : OnlyB (since W B) w w') : P1 W w' B pb qb n cap T D Mx s' :=
  H.step (h.sub fun j hj => Or.inl hj) k
theorem P1.kept (H : P1 W w B pb qb n cap T D Mx s) (k : w.grownBy w' none) : P1 W w' B pb qb n cap T D Mx s := ⟨H.1.kept k, H.2.1.trans k, fun j hj => ⟨(H.2.2 j hj).1, Nat.lt_of_lt_of_le (H.2.2 j hj).2 k.size⟩⟩
theorem P1.blk (H : P1 W w B pb qb n cap T D Mx s) (k : w.grownBy w' none) {b : Nat} (hb : B b) : w'.heap[b]? = w.heap[b]? := k.block b (H.2.2 b hb).2 (by simp)
theorem P1.add (H : P1 W w B pb qb n cap T D Mx s) (o : Obj) : P1 W (w.alloc o) (fun k => B k ∨ k = w.heap.size) pb qb n cap T D Mx s := by
  have ka := World.grownBy_alloc w o none
  have hs := H.2.1.size
  refine ⟨(H.1.sub' (F' := since W (fun k => B k ∨ k = w.heap.size)) fun k hk hF => ⟨hF.1, fun h => ?_⟩).kept ka, H.2.1.trans ka, fun k hk => ?_⟩
  · rcases h with h | h
    · exact hF.2 h
    · omega
  · rw [World.size_alloc]
    rcases hk with h | h
    · have := H.2.2 k h; omega
    · omega
theorem P1.alt (H : P1 W w B pb qb n cap T D Mx s) {B' : Nat → Prop} (h : ∀ k, B' k → B k) : P1 W w B' pb qb n cap T D Mx s :=
  ⟨H.1.sub fun k hk => ⟨hk.1, fun hb => hk.2 (h k hb)⟩, H.2.1, fun k hk => H.2.2 k (h k hk)⟩
/-- A box of the law's own turns. -/
theorem P1.set (H : P1 W w B pb qb n cap T D Mx s) {b : Nat} (hb : B b) (o : Nat) (u : Value) : P1 W (w.setCell ⟨b, o, none⟩ u) B pb qb n cap T D Mx s := by
  have k : OnlyB (fun j => j = b) w (w.setCell ⟨b, o, none⟩ u) := OnlyB.set w b o u rfl
  have hw := H.2.2 b hb
  have hz : (w.setCell ⟨b, o, none⟩ u).heap.size = w.heap.size := by simp [World.setCell]
  refine ⟨H.1.off k (fun j hj h => hj.2 (h ▸ hb)), ⟨k.os.trans H.2.1.os, k.tape.trans H.2.1.tape, k.output.trans H.2.1.output, Nat.le_trans H.2.1.size k.size, fun j hj hr => (k.block j (by have := H.2.1.size; omega) (by show j ≠ b; omega)).trans (H.2.1.block j hj hr)⟩, fun j hj => by rw [hz]; exact H.2.2 j hj⟩
theorem P1.new {w0 w1 w2 : World} (k0 : W.grownBy w0 none) (k1 : w0.grownBy w1 none) (k2 : w1.grownBy w2 none) (h : PoF (grF (fun j => w0.heap.size ≤ j ∧ j < w1.heap.size) w1 w2) w2 pb qb n cap T D Mx s) : P1 W w2 (fun _ => False) pb qb n cap T D Mx s := by
  have h0 := k0.size
  have h1 := k1.size
  refine ⟨h.sub fun j hj => ⟨?_, id⟩, (k0.trans k1).trans k2, fun _ h => h.elim⟩
  rcases hj with hj | hj <;> omega
set_option maxHeartbeats 1000000 in
theorem pf_opened {F : Nat → Prop} (H : PoF F w pb qb n cap T D Mx s) : Calls Try.prog 23 #[.pointer (some ⟨pb, 0, none⟩)] w fun e w' => e = .returned (.int .i64 (openN s.G n : Nat)) ∧ w.grownBy w' none := by
  obtain ⟨gb, bb, c, lo, hi, L, H, hN, hF⟩ := H
  obtain ⟨c0, _⟩ := p_cells H
  have hn := H.nb.1
  have HH := Lib.hid H
  clear H hN hF
  go_enter Try.func23, Try.ntmps23
  go_wp2_with fail
  go_loopw [3, 10] (fun ct it wr => ∃ k : Nat, k ≤ n ∧ it = .int .i64 k ∧ ct = .int .i64 (openN s.G k : Nat) ∧ Hid (w.grownBy wr none)) (fun _ it _ => n - (intOf it).toNat)
  case atStart => exact ⟨0, Nat.zero_le _, rfl, rfl, Lib.hid (World.grownBy.refl _ _)⟩
  case round =>
    obtain ⟨k, hk, rfl, rfl, K0⟩ := hrel
    by_cases hlt : k < n
    · have qk : (k : Int) < (n : Int) := by omega
      have CO := Lib.hid (po_isOpen (HH.out.kept K0.out) k hlt)
      have ho : Hid (openN s.G (k + 1) = openN s.G k + if (s.G k).op = true then 1 else 0) := Lib.hid rfl
      have hle := openN_le s.G k
      generalize openN s.G k = m at *
      generalize hop : (s.G k).op = b at *
      clear hop c0
      go_wp2_with fail
      refine CO.out.mono ?_
      rintro e w1 ⟨rfl, k1⟩
      have K1 := Lib.hid (K0.out.trans k1)
      clear k1 CO K0
      cases b
      · go_wp2
        go_roundw
        case rel => exact ⟨k + 1, hlt, by go_num, by rw [ho.out]; simp, K1⟩
        case measure => simp [intOf]; omega
      · go_wp2
        go_roundw
        case rel => exact ⟨k + 1, hlt, by go_num, by rw [ho.out]; simp, K1⟩
        case measure => simp [intOf]; omega
    · obtain rfl : k = n := by omega
      go_wp2
      go_ret
      exact ⟨rfl, K0.out⟩
end
end Go.Proofs.Ytpnipmjjhiaieaa
