/-
  A poll in memory: its gates in a row, its notes in a box, over a queue; what turns of it.
-/
import Derived.Test.YtpnipmjjhiaieaaGateO3
import Derived.Test.YtpnipmjjhiaieaaQueue5
import Derived.Test.YtpnipmjjhiaieaaBox6N
namespace Go.Proofs.Ytpnipmjjhiaieaa
open Go.RowKit Go.Lib BN
set_option maxRecDepth 100000
set_option linter.unusedVariables false

/-! ## What a gate does -/
def gOpen (g : Gt) : Gt × Bool := if g.op then (g, false) else (⟨true, 0, 0, 0, 0, 0, 0⟩, true)
def gClose (g : Gt) : Gt × Bool := (⟨false, 0, 0, 0, 0, 0, 0⟩, g.op)
def gKeep (g : Gt) (m : Int) : Gt := if g.op then { g with lt := bits .or .i64 g.lt (bits .and .i64 m 7) } else g
def gMeet (g : Gt) (m : Int) : Gt := if g.op then { g with rd := bits .or .i64 g.rd (bits .and .i64 m 7), td := bits .or .i64 g.td (bits .and .i64 m g.wt) } else g
def gFlush (g : Gt) : Gt := gMeet { g with lt := 0 } g.lt
def gWatch (g : Gt) (h x m : Int) : Gt × Bool := if g.op = true ∧ 1 ≤ x ∧ x ≤ 7 ∧ 0 ≤ m ∧ m ≤ 2 then ({ g with h := h, wt := x, md := m, td := bits .and .i64 g.rd x }, true) else (g, false)
def gUnwatch (g : Gt) : Gt × Bool := ({ g with h := 0, wt := 0, md := 0, td := 0 }, decide (g.wt ≠ 0))
def gAck (g : Gt) (m : Int) : Gt × Int := ({ g with rd := bits .andNot .i64 g.rd m }, bits .and .i64 g.rd m)
section
variable {w w' : World} {b oo : Nat} {g : Gt}
theorem go_open (H : GAt w b oo g) : Calls Try.prog 28 #[.pointer (some ⟨b, oo, none⟩)] w fun e w' => e = .returned (.bool (gOpen g).2) ∧ GAt w' b oo (gOpen g).1 ∧ OnlyG b oo w w' := by
  unfold gOpen
  by_cases h : g.op = true
  rotate_left
  · rw [if_neg h]
    exact gopen_ok H (by simpa using h)
  · rw [if_pos h]
    exact (gopen_no H h).mono fun e w' ⟨h1, h2⟩ => by subst h2; exact ⟨h1, H, OnlyG.refl ..⟩
theorem go_close (H : GAt w b oo g) : Calls Try.prog 29 #[.pointer (some ⟨b, oo, none⟩)] w fun e w' => e = .returned (.bool (gClose g).2) ∧ GAt w' b oo (gClose g).1 ∧ OnlyG b oo w w' := gclose_any H
theorem go_keep (H : GAt w b oo g) (m : Int) : Calls Try.prog 36 #[.pointer (some ⟨b, oo, none⟩), .int .i64 m] w fun e w' => e = .returned (.tuple #[]) ∧ GAt w' b oo (gKeep g m) ∧ OnlyG b oo w w' := by
  unfold gKeep
  by_cases h : g.op = true
  rotate_left
  · rw [if_neg h]
    exact (gkeep_off H m (by simpa using h)).mono fun e w' ⟨h1, h2⟩ => by subst h2; exact ⟨h1, H, OnlyG.refl ..⟩
  · rw [if_pos h]
    exact gkeep_on H m h
theorem go_meet (H : GAt w b oo g) (m : Int) : Calls Try.prog 39 #[.pointer (some ⟨b, oo, none⟩), .int .i64 m] w fun e w' => e = .returned (.tuple #[]) ∧ GAt w' b oo (gMeet g m) ∧ OnlyG b oo w w' := by
  unfold gMeet
  by_cases h : g.op = true
  rotate_left
  · rw [if_neg h]
    exact (gmeet_off H m (by simpa using h)).mono fun e w' ⟨h1, h2⟩ => by subst h2; exact ⟨h1, H, OnlyG.refl ..⟩
  · rw [if_pos h]
    exact gmeet_on H m h
theorem go_flush (H : GAt w b oo g) : Calls Try.prog 40 #[.pointer (some ⟨b, oo, none⟩)] w fun e w' => e = .returned (.tuple #[]) ∧ GAt w' b oo (gFlush g) ∧ OnlyG b oo w w' := by
  unfold gFlush gMeet
  by_cases h : g.op = true
  rotate_left
  · rw [if_neg (by exact h)]
    exact gflush_off H (by simpa using h)
  · rw [if_pos (by exact h)]
    exact gflush_on H h
theorem go_watch (H : GAt w b oo g) (h x m : Int) : Calls Try.prog 43 #[.pointer (some ⟨b, oo, none⟩), .int .u64 h, .int .i64 x, .int .i64 m] w fun e w' => e = .returned (.bool (gWatch g h x m).2) ∧ GAt w' b oo (gWatch g h x m).1 ∧ OnlyG b oo w w' := by
  unfold gWatch
  split
  · rename_i hc
    exact gwatch_ok H h x m hc.1 ⟨hc.2.1, hc.2.2.1⟩ hc.2.2.2
  · rename_i hc
    exact (gwatch_no H h x m hc).mono fun e w' ⟨h1, h2⟩ => by subst h2; exact ⟨h1, H, OnlyG.refl ..⟩
theorem go_unwatch (H : GAt w b oo g) : Calls Try.prog 48 #[.pointer (some ⟨b, oo, none⟩)] w fun e w' => e = .returned (.bool (gUnwatch g).2) ∧ GAt w' b oo (gUnwatch g).1 ∧ OnlyG b oo w w' := gunwatch_any H
theorem go_ack (H : GAt w b oo g) (m : Int) : Calls Try.prog 49 #[.pointer (some ⟨b, oo, none⟩), .int .i64 m] w fun e w' => e = .returned (.int .i64 (gAck g m).2) ∧ GAt w' b oo (gAck g m).1 ∧ OnlyG b oo w w' := gack_any H m
theorem go_tell (H : GAt w b oo g) (hm : 0 ≤ g.md ∧ g.md ≤ 2) : Calls Try.prog 47 #[.pointer (some ⟨b, oo, none⟩)] w fun e w' => e = .returned (.tuple #[.int .u64 (tells g).2.1, .int .i64 (tells g).2.2]) ∧ GAt w' b oo (tells g).1 ∧ OnlyG b oo w w' := gtell_any H hm _ _ _ rfl
def gval (g : Gt) : Value := .agg #[.bool g.op, .int .i64 g.rd, .int .i64 g.lt, .int .u64 g.h, .int .i64 g.wt, .int .i64 g.md, .int .i64 g.td]
theorem go_look (H : GAt w b oo g) : Calls Try.prog 42 #[.pointer (some ⟨b, oo, none⟩)] w fun e w' => e = .returned (gval g) ∧ w.grownBy w' none := glook_any H
end
def mdOk (g : Gt) : Prop := 0 ≤ g.md ∧ g.md ≤ 2
theorem mdOk_open {g : Gt} (h : mdOk g) : mdOk (gOpen g).1 := by unfold gOpen; split <;> first | exact h | (show (0 : Int) ≤ 0 ∧ (0 : Int) ≤ 2; decide)
theorem mdOk_close {g : Gt} : mdOk (gClose g).1 := by show (0 : Int) ≤ 0 ∧ (0 : Int) ≤ 2; decide
theorem mdOk_keep {g : Gt} {m : Int} (h : mdOk g) : mdOk (gKeep g m) := by unfold gKeep; split <;> exact h
theorem mdOk_meet {g : Gt} {m : Int} (h : mdOk g) : mdOk (gMeet g m) := by unfold gMeet; split <;> exact h
theorem mdOk_flush {g : Gt} (h : mdOk g) : mdOk (gFlush g) := mdOk_meet (g := { g with lt := 0 }) h
theorem mdOk_watch {g : Gt} {a x m : Int} (h : mdOk g) : mdOk (gWatch g a x m).1 := by
  unfold gWatch; split
  · rename_i hc; exact hc.2.2.2
  · exact h
theorem mdOk_unwatch {g : Gt} : mdOk (gUnwatch g).1 := by show (0 : Int) ≤ 0 ∧ (0 : Int) ≤ 2; decide
theorem mdOk_ack {g : Gt} {m : Int} (h : mdOk g) : mdOk (gAck g m).1 := h
theorem mdOk_tell {g : Gt} (h : mdOk g) : mdOk (tells g).1 := by
  unfold tells
  split
  · split <;> exact h
  · split
    · exact h
    · split
      · exact h
      · show (0 : Int) ≤ 0 ∧ (0 : Int) ≤ 2; decide

/-! ## Gates in a row -/
def updG (G : Nat → Gt) (i : Nat) (g : Gt) : Nat → Gt := fun k => if k = i then g else G k
structure GS (w : World) (gb n : Nat) (G : Nat → Gt) : Prop where
  ty : ∃ a, w.heap[gb]? = some (.cells a 71 (0, 0))
  gt : ∀ i, i < n → GAt w gb (i * 7) (G i)
  md : ∀ i, i < n → mdOk (G i)
section
variable {w w' : World} {gb n i : Nat} {G : Nat → Gt} {g : Gt}
theorem GS.turn (H : GS w gb n G) (h : GAt w' gb (i * 7) g) (k : OnlyG gb (i * 7) w w') (hm : mdOk g) : GS w' gb n (updG G i g) := by
  refine ⟨?_, fun j hj => ?_, fun j hj => ?_⟩
  · obtain ⟨a, ha⟩ := H.ty
    exact k.ty a _ ha
  · unfold updG
    by_cases e : j = i
    · subst e; rw [if_pos rfl]; exact h
    · rw [if_neg e]; exact (H.gt j hj).far k (by omega) h.fz
  · unfold updG
    by_cases e : j = i
    · subst e; rw [if_pos rfl]; exact hm
    · rw [if_neg e]; exact H.md j hj
theorem GS.blk (H : GS w gb n G) (k : w'.heap[gb]? = w.heap[gb]?) (hs : w.heap.size ≤ w'.heap.size) : GS w' gb n G := by
  obtain ⟨a, ha⟩ := H.ty
  have hc : ∀ j, w'.cell? ⟨gb, j, none⟩ = w.cell? ⟨gb, j, none⟩ := fun j => by simp only [World.cell?, k]
  have hf : ∀ j, w'.frozen? ⟨gb, j, none⟩ = false := fun j => frozen_blk (k.trans ha) j
  refine ⟨⟨a, k.trans ha⟩, fun i hi => ?_, H.md⟩
  obtain ⟨c0, c1, c2, c3, c4, c5, c6, fz, l⟩ := H.gt i hi
  exact ⟨(hc _).trans c0, (hc _).trans c1, (hc _).trans c2, (hc _).trans c3, (hc _).trans c4, (hc _).trans c5, (hc _).trans c6, hf, Nat.lt_of_lt_of_le l hs⟩
theorem GS.lt (H : GS w gb n G) : gb < w.heap.size := by obtain ⟨a, ha⟩ := H.ty; exact blk_lt ha
end

/-! ## A poll -/
/-- A poll: struct pb, gates gb, notes (bb, c, L), queue (lo .. hi, qb). -/
structure PoM (w : World) (pb gb bb c qb lo hi n cap T D : Nat) (Mx : Int) (G : Nat → Gt) (L : List (Nat × (Int × Int))) (f : Nat) (Q : List Nat) : Prop where
  p : w.heap[pb]? = some (.cells #[.slice (some ⟨gb, 0, none⟩) n n, .pointer (some ⟨bb, 0, none⟩), .pointer (some ⟨qb, 0, none⟩), .int .i64 (f : Nat)] 69 (0, 0))
  gs : GS w gb n G
  bx : Bx w bb c cap L
  qu : Qu w lo hi qb T D Mx Q
  ap : hi ≤ pb ∧ hi ≤ gb ∧ hi ≤ bb ∧ hi ≤ c ∧ ∀ x ∈ L, hi ≤ x.1
  nb : n ≤ 64 ∧ (f = 0 ∨ f < n)
  nt : ∀ x ∈ L, 0 ≤ x.2.1 ∧ x.2.1 < n
/-- The poll's blocks. -/
def ownP (pb gb bb c lo hi : Nat) (L : List (Nat × (Int × Int))) : Nat → Prop := fun k => k = pb ∨ k = gb ∨ k = bb ∨ k = c ∨ (lo ≤ k ∧ k < hi) ∨ ∃ x ∈ L, k = x.1
section
variable {w w' : World} {pb gb bb c qb lo hi n cap T D f : Nat} {Mx : Int} {G : Nat → Gt} {L : List (Nat × (Int × Int))} {Q : List Nat}
theorem _root_.Go.Proofs.Ytpnipmjjhiaieaa.BN.OnlyB.toOnly {P : Nat → Prop} (k : OnlyB P w w') (hP : ∀ j, P j → hi ≤ j) : Only hi w'.heap.size w w' :=
  ⟨k.os, k.tape, k.output, k.size, fun j hj hr => k.block j hj (fun h => by have := hP j h; have := k.size; omega)⟩
theorem Only.toB {P : Nat → Prop} {l h : Nat} (k : Only l h w w') (hP : ∀ j, l ≤ j → j < h → P j) : OnlyB P w w' :=
  ⟨k.os, k.tape, k.output, k.size, fun j hj hr => k.block j hj (by
    by_cases h1 : j < l
    · exact Or.inl h1
    · by_cases h2 : j < h
      · exact absurd (hP j (by omega) h2) hr
      · exact Or.inr (by omega))⟩
theorem cells_ne {w : World} {b b' : Nat} {a a' : Array Value} {t t' : TypeId} (h : w.heap[b]? = some (.cells a t (0, 0))) (h' : w.heap[b']? = some (.cells a' t' (0, 0))) (e : t ≠ t') : b ≠ b' := by
  rintro rfl
  rw [h] at h'
  injection h' with h'
  injection h' with _ h'
  exact e h'
theorem chan_ne {w : World} {b c : Nat} {a : Array Value} {t : TypeId} (h : w.heap[b]? = some (.cells a t (0, 0))) (H : ∃ s r, w.heap[c]? = some (.chan cap (L.map fun x => ptr x.1).toArray false s r false)) : b ≠ c := by
  rintro rfl
  obtain ⟨s, r, h2⟩ := H
  rw [h] at h2
  cases h2
theorem PoM.apart (H : PoM w pb gb bb c qb lo hi n cap T D Mx G L f Q) : pb ≠ gb ∧ pb ≠ bb ∧ pb ≠ c ∧ (∀ x ∈ L, pb ≠ x.1) ∧ gb ≠ bb ∧ gb ≠ c ∧ (∀ x ∈ L, gb ≠ x.1) := by
  obtain ⟨a, ha⟩ := H.gs.ty
  exact ⟨cells_ne H.p ha (by decide), cells_ne H.p H.bx.b (by decide), chan_ne H.p H.bx.ch, fun x hx => cells_ne H.p (H.bx.th x hx) (by decide), cells_ne ha H.bx.b (by decide), chan_ne ha H.bx.ch, fun x hx => cells_ne ha (H.bx.th x hx) (by decide)⟩
theorem PoM.qhi (H : PoM w pb gb bb c qb lo hi n cap T D Mx G L f Q) : hi ≤ w.heap.size := H.qu.hs
/-- The gates turn. -/
theorem PoM.gates {G' : Nat → Gt} (H : PoM w pb gb bb c qb lo hi n cap T D Mx G L f Q) (k : Only gb (gb + 1) w w') (h : GS w' gb n G') : PoM w' pb gb bb c qb lo hi n cap T D Mx G' L f Q := by
  have ha := H.apart
  have hap := H.ap
  exact ⟨(k.block _ (blk_lt H.p) (by omega)).trans H.p, h, H.bx.off (k.block _ H.bx.lt.1 (by omega)) (k.block _ H.bx.lt.2.1 (by omega)) (fun x hx => k.block _ (H.bx.lt.2.2 x hx) (by have := ha.2.2.2.2.2.2 x hx; omega)), H.qu.only k (by omega), H.ap, H.nb, H.nt⟩
/-- The queue turns. -/
theorem PoM.queue {Q' : List Nat} (H : PoM w pb gb bb c qb lo hi n cap T D Mx G L f Q) (k : Only lo hi w w') (h : Qu w' lo hi qb T D Mx Q') : PoM w' pb gb bb c qb lo hi n cap T D Mx G L f Q' := by
  have hap := H.ap
  exact ⟨(k.block _ (blk_lt H.p) (by omega)).trans H.p, H.gs.blk (k.block _ H.gs.lt (by omega)) k.size, H.bx.off (k.block _ H.bx.lt.1 (by omega)) (k.block _ H.bx.lt.2.1 (by omega)) (fun x hx => k.block _ (H.bx.lt.2.2 x hx) (by have := hap.2.2.2.2 x hx; omega)), h, H.ap, H.nb, H.nt⟩
/-- The notes turn. -/
theorem PoM.notes {L' : List (Nat × (Int × Int))} (H : PoM w pb gb bb c qb lo hi n cap T D Mx G L f Q) (k : OnlyB (fun k => k = c ∨ ∃ x ∈ L, k = x.1) w w') (h : Bx w' bb c cap L') (hs : ∀ x ∈ L', x ∈ L ∨ w.heap.size ≤ x.1 ∧ 0 ≤ x.2.1 ∧ x.2.1 < n) : PoM w' pb gb bb c qb lo hi n cap T D Mx G L' f Q := by
  have ha := H.apart
  have hap := H.ap
  have hq := H.qhi
  refine ⟨(k.block _ (blk_lt H.p) ?_).trans H.p, H.gs.blk (k.block _ H.gs.lt ?_) k.size, h, H.qu.only (k.toOnly (hi := hi) ?_) (Or.inl (Nat.le_refl _)), ⟨hap.1, hap.2.1, hap.2.2.1, hap.2.2.2.1, fun x hx => ?_⟩, H.nb, fun x hx => ?_⟩
  · rintro (h1 | ⟨x, hx, h1⟩)
    · exact ha.2.2.1 h1
    · exact ha.2.2.2.1 x hx h1
  · rintro (h1 | ⟨x, hx, h1⟩)
    · exact ha.2.2.2.2.2.1 h1
    · exact ha.2.2.2.2.2.2 x hx h1
  · rintro j (h1 | ⟨x, hx, h1⟩)
    · subst h1; exact hap.2.2.2.1
    · subst h1; exact hap.2.2.2.2 x hx
  · rcases hs x hx with h1 | ⟨h1, _⟩
    · exact hap.2.2.2.2 x h1
    · omega
  · rcases hs x hx with h1 | ⟨_, h1⟩
    · exact H.nt x h1
    · exact h1
/-- The first one to be looked at turns. -/
theorem PoM.setF (H : PoM w pb gb bb c qb lo hi n cap T D Mx G L f Q) (f' : Nat) (hf : f' = 0 ∨ f' < n) : PoM (w.setCell ⟨pb, 3, none⟩ (.int .i64 (f' : Nat))) pb gb bb c qb lo hi n cap T D Mx G L f' Q := by
  have ha := H.apart
  have hap := H.ap
  have hb : ∀ j, j ≠ pb → (w.setCell ⟨pb, 3, none⟩ (.int .i64 (f' : Nat))).heap[j]? = w.heap[j]? := fun j hj => Below.heap_setCell w ⟨pb, 3, none⟩ _ j (by show j ≠ pb; exact hj)
  have hp := blk_setCell w pb 3 (.int .i64 (f' : Nat)) _ _ H.p
  refine ⟨by simpa using hp, H.gs.blk (hb _ ha.1.symm) (by simp [World.setCell]), H.bx.off (hb _ ha.2.1.symm) (hb _ ha.2.2.1.symm) (fun x hx => hb _ (ha.2.2.2.1 x hx).symm), H.qu.only (Only.set w ⟨pb, 3, none⟩ _ (Nat.le_refl _) (Nat.lt_succ_self _)) (Or.inl hap.1), H.ap, ⟨H.nb.1, hf⟩, H.nt⟩
theorem PoM.kept (H : PoM w pb gb bb c qb lo hi n cap T D Mx G L f Q) (k : w.grownBy w' none) : PoM w' pb gb bb c qb lo hi n cap T D Mx G L f Q :=
  ⟨(k.block _ (blk_lt H.p) (by simp)).trans H.p, H.gs.blk (k.block _ H.gs.lt (by simp)) k.size, H.bx.kept k, H.qu.kept k, H.ap, H.nb, H.nt⟩

/-! ## What a call asks: is there such a device? -/
def hasD (n : Nat) (d : Int) : Bool := decide (0 ≤ d ∧ d < n)
theorem p_cells (H : PoM w pb gb bb c qb lo hi n cap T D Mx G L f Q) : w.cell? ⟨pb, 0, none⟩ = some (.slice (some ⟨gb, 0, none⟩) n n) ∧ w.cell? ⟨pb, 1, none⟩ = some (.pointer (some ⟨bb, 0, none⟩)) ∧ w.cell? ⟨pb, 2, none⟩ = some (.pointer (some ⟨qb, 0, none⟩)) ∧ w.cell? ⟨pb, 3, none⟩ = some (.int .i64 (f : Nat)) ∧ (∀ j, w.frozen? ⟨pb, j, none⟩ = false) :=
  ⟨cell_blk H.p 0, cell_blk H.p 1, cell_blk H.p 2, cell_blk H.p 3, frozen_blk H.p⟩
theorem po_has (H : PoM w pb gb bb c qb lo hi n cap T D Mx G L f Q) (d : Int) : Calls Try.prog 27 #[.pointer (some ⟨pb, 0, none⟩), .int .i64 d] w fun e w' => e = .returned (.bool (hasD n d)) ∧ w = w' := by
  obtain ⟨c0, _⟩ := p_cells H
  unfold hasD
  clear H
  by_cases h1 : 0 ≤ d
  · by_cases h2 : d < n
    · have h3 : decide (0 ≤ d ∧ d < (n : Int)) = true := by simp [h1, h2]
      rw [h3]
      clear h3
      go_enter Try.func27, Try.ntmps27
      go_wp2
      go_ret
      exact ⟨rfl, rfl⟩
    · have h3 : decide (0 ≤ d ∧ d < (n : Int)) = false := by simp [h2]
      rw [h3]
      clear h3
      go_enter Try.func27, Try.ntmps27
      go_wp2
      go_ret
      exact ⟨rfl, rfl⟩
  · have h3 : decide (0 ≤ d ∧ d < (n : Int)) = false := by simp [h1]
    rw [h3]
    clear h3
    go_enter Try.func27, Try.ntmps27
    go_wp2
    go_ret
    exact ⟨rfl, rfl⟩
theorem po_thing (d : Int) : Calls Try.prog 31 #[.int .i64 d] w fun e w' => e = .returned (.agg #[.int .i64 2, .int .i64 d]) ∧ w.grownBy w' none := by
  go_enter Try.func31, Try.ntmps31
  go_wp2
  exact bodyPost_ret (v := .agg #[.int .i64 2, .int .i64 d]) (by simp [results, Try.results31, go_sem]) rfl ⟨rfl, by (repeat (first | exact World.grownBy.refl _ _ | exact World.grownBy_alloc _ _ none | assumption | refine gdN _ ?_ | refine gd ?_ | refine ga _ ?_ | refine grown_above ?_ (by omega) _ _))⟩

/-- Open of a poll. -/
theorem po_open_no (H : PoM w pb gb bb c qb lo hi n cap T D Mx G L f Q) (d : Int) (hd : hasD n d = false) : Calls Try.prog 10 #[.pointer (some ⟨pb, 0, none⟩), .int .i64 d] w fun e w' => e = .returned (.bool false) ∧ w = w' := by
  have C := Lib.hid (po_has H d)
  rw [hd] at C
  clear H hd
  go_enter Try.func10, Try.ntmps10
  go_wp2_with fail
  refine C.out.mono ?_
  rintro e w1 ⟨rfl, rfl⟩
  go_wp2
  go_ret
  exact ⟨rfl, rfl⟩
theorem po_open (H : PoM w pb gb bb c qb lo hi n cap T D Mx G L f Q) (d : Nat) (hd : d < n) : Calls Try.prog 10 #[.pointer (some ⟨pb, 0, none⟩), .int .i64 d] w fun e w' => e = .returned (.bool (gOpen (G d)).2) ∧ PoM w' pb gb bb c qb lo hi n cap T D Mx (updG G d (gOpen (G d)).1) L f Q ∧ Only gb (gb + 1) w w' := by
  have C := Lib.hid (po_has H d)
  rw [show hasD n d = true by unfold hasD; simp [hd]] at C
  have CG := Lib.hid (go_open (H.gs.gt d hd))
  obtain ⟨c0, _⟩ := p_cells H
  have HH := Lib.hid H
  have hn := H.nb.1
  clear H
  go_enter Try.func10, Try.ntmps10
  go_wp2_with fail
  refine C.out.mono ?_
  rintro e w1 ⟨rfl, rfl⟩
  go_wp2_with fail
  refine CG.out.mono ?_
  rintro e w1 ⟨rfl, h1, k1⟩
  have R := Lib.hid (And.intro h1 k1)
  clear h1 k1
  go_wp2
  go_ret
  exact ⟨rfl, HH.out.gates R.out.2.k (HH.out.gs.turn R.out.1 R.out.2 (mdOk_open (HH.out.gs.md d hd))), R.out.2.k⟩
end
end Go.Proofs.Ytpnipmjjhiaieaa
