/-
  Rows of things of two cells beside two boxes of them, over this seat's translation.
-/
import Derived.Test.YtijgdlanjhcabaaAlive10
import Derived.Test.YtijgdlanjhcabaaBox8bT
import Derived.Test.YtijgdlanjhcabaaBox3I
namespace Go.Proofs.Ytijgdlanjhcabaa
open Go.RowKit Go.Lib Go.Conc
set_option maxRecDepth 100000
set_option linter.unusedVariables false

/-- Things as the cells of a row. -/
def cells2 (F : List (ByteArray × Int)) : List Value := F.flatMap fun v => [Value.string v.1, Value.int .u64 v.2]
theorem cells2_add (F G : List (ByteArray × Int)) : cells2 F ++ cells2 G = cells2 (F ++ G) := by simp [cells2]
theorem cells2_len (F : List (ByteArray × Int)) : (cells2 F).length = F.length * 2 := by
  induction F with
  | nil => rfl
  | cons a l ih => simp only [cells2, List.flatMap_cons, List.length_append, List.length_cons, List.length_nil] at *; omega
theorem cells2_one (F : List (ByteArray × Int)) : ∀ u ∈ cells2 F, u.oneCell' = true := by
  intro u hu
  simp only [cells2, List.mem_flatMap] at hu
  obtain ⟨v, _, hv⟩ := hu
  simp at hv
  rcases hv with rfl | rfl <;> rfl
theorem cells2_at : ∀ (F : List (ByteArray × Int)) (k : Nat) (v : ByteArray × Int), F[k]? = some v → (cells2 F)[k * 2]? = some (.string v.1) ∧ (cells2 F)[k * 2 + 1]? = some (.int .u64 v.2)
  | [], _, _, h => by simp at h
  | a :: l, 0, v, h => by simp at h; subst h; exact ⟨rfl, rfl⟩
  | a :: l, k + 1, v, h => by
    have ih := cells2_at l k v (by simpa using h)
    have e1 : (k + 1) * 2 = k * 2 + 1 + 1 := by omega
    have e2 : (k + 1) * 2 + 1 = k * 2 + 1 + 1 + 1 := by omega
    rw [e1]
    exact ih
theorem thing_info : ∃ i : TypeInfo, Try.prog.info? 49 = some i ∧ i.zero = some (.agg #[.string ⟨#[]⟩, .int .u64 0]) ∧ i.size = 2 ∧ i.bytes = 24 := ⟨_, rfl, rfl, rfl, rfl⟩
section
variable {W w w' : World}
theorem src_two (w : World) (s : ByteArray) (n : Int) (T : TypeId) : SrcAt (w.alloc (.cells #[.string s, .int .u64 n] T)) 2 (.slice (some ⟨w.heap.size, 0, none⟩) 1 1) 1 (cells2 [(s, n)]) := by
  refine Or.inl ⟨_, 1, rfl, rfl, fun j x hx => ?_, cells2_one _⟩
  match j with
  | 0 =>
    simp [cells2] at hx
    subst hx
    exact World.cell?_alloc_at _ T _ 0 rfl
  | 1 =>
    simp [cells2] at hx
    subst hx
    exact World.cell?_alloc_at _ T _ 1 rfl
  | j + 2 => simp [cells2] at hx
theorem own_cell2 {B n : Nat} {e : TypeId} {v : Value} {xs : List Value} (h : w.ownsRow B e 2 v n xs) {j : Nat} {u : Value} (hu : xs[j]? = some u) {g : Nat} (hg : v.ownBlock = some g) : w.cell? ⟨g, j, none⟩ = some u := by
  have := h.cells hg j u hu
  by_cases hj : j = 0
  · subst hj; simpa [Addr.add] using this
  · simpa [Addr.add, hj] using this
theorem src_own2 {B : Nat} {v : Value} {F : List (ByteArray × Int)} (h : w.ownsRow B 49 2 v F.length (cells2 F)) : SrcAt w 2 v F.length (cells2 F) := by
  rcases h.2 with ⟨h0, hn⟩ | ⟨r, cap, cur, hv, hb, hg, rest⟩
  · refine Or.inr ⟨0, by rw [h0], hn, ?_⟩
    have : F = [] := List.length_eq_zero_iff.1 hn
    rw [this]; rfl
  · subst hv
    exact Or.inl ⟨_, cap, rfl, cells2_len F, fun j u hu => h.cells rfl j u hu, cells2_one F⟩
theorem lit2 (w : World) (B : Nat) (hB : B ≤ w.heap.size) : (w.alloc (.cells #[] 49)).ownsRow B 49 2 (.slice (some ⟨w.heap.size, 0, none⟩) 0 0) 0 (cells2 []) :=
  World.ownsRow_made w #[] 0 hB (by decide) rfl
theorem own_keep2 {B n size : Nat} {e : TypeId} {v : Value} {xs : List Value} (h : w.ownsRow B e size v n xs) (k : w.grownBy w' none) : w'.ownsRow B e size v n xs :=
  BI.own_blk h fun g hg => k.block g (h.lt g hg).2 (by simp)
end
section
variable {w w' : World} {bb c cap : Nat} {L : List (Nat × BT.Vt)} {M : Nat → Bool}
theorem rowT (H : BT.BxM w bb c cap L M) {B n : Nat} {v : Value} {xs : List Value} (h : w.ownsRow B 49 2 v n xs) : ∀ g, v.ownBlock = some g → g ≠ bb ∧ g ≠ c ∧ ∀ x ∈ L, g ≠ x.1 := by
  intro g hg
  obtain ⟨_, _, _, hf, _⟩ := BI.own_at h
  obtain ⟨_, _, cur, hb⟩ := hf g hg
  refine ⟨?_, ?_, fun x hx => ?_⟩
  · rintro rfl
    rw [H.b] at hb
    injection hb with hb
    injection hb with _ hb
    exact absurd hb (by decide)
  · rintro rfl
    obtain ⟨s, r, hc⟩ := H.ch
    rw [hc] at hb
    cases hb
  · rintro rfl
    rw [H.th x hx] at hb
    injection hb with hb
    injection hb with _ hb
    exact absurd hb (by decide)
theorem byRowT (H : BT.BxM w bb c cap L M) {B n : Nat} {v : Value} {xs : List Value} (h : w.ownsRow B 49 2 v n xs) (k : w.grownBy w' v.ownBlock) : BT.BxM w' bb c cap L M := by
  have hr := rowT H h
  exact H.off (k.block _ H.lt.1 (fun e => (hr _ e.symm).1 rfl)) (k.block _ H.lt.2.1 (fun e => (hr _ e.symm).2.1 rfl)) fun x hx => k.block _ (H.lt.2.2 x hx) (fun e => (hr _ e.symm).2.2 x hx rfl)
theorem own_chT {B n size : Nat} {e : TypeId} {v : Value} {xs : List Value} (h : w.ownsRow B e size v n xs) (H : BT.BxM w bb c cap L M) (k : Only c (c + 1) w w') : w'.ownsRow B e size v n xs := by
  refine BI.own_blk h fun g hg => ?_
  obtain ⟨_, _, _, hf, _⟩ := BI.own_at h
  obtain ⟨_, _, cur, hb⟩ := hf g hg
  refine k.block g (BI.blk_lt hb) ?_
  have : g ≠ c := by
    rintro rfl
    obtain ⟨s, r, hc⟩ := H.ch
    rw [hc] at hb
    cases hb
  omega
theorem ch_notT (H : BT.BxM w bb c cap L M) : ∀ a t fr, w.heap[c]? ≠ some (.cells a t fr) := fun a t fr e => by obtain ⟨s, r, h⟩ := H.ch; rw [h] at e; cases e
end

/-- Two boxes of things. -/
structure KB (W w : World) (ba ca bb cb n : Nat) (LA LB : List (Nat × BT.Vt)) : Prop where
  a : BT.Bx w ba ca n LA
  b : BT.Bx w bb cb n LB
  gw : W.grownBy w none
  ne : ca ≠ cb
  la : W.heap.size ≤ ca
  lb : W.heap.size ≤ cb
section
variable {W w w' : World} {ba ca bb cb n : Nat} {LA LB L' : List (Nat × BT.Vt)}
theorem KB.on_a (H : KB W w ba ca bb cb n LA LB) (h : BT.Bx w' ba ca n L') (k : Only ca (ca + 1) w w') : KB W w' ba ca bb cb n L' LB := ⟨h, H.b.only k H.ne (ch_notT H.a), Only.on H.gw k H.la, H.ne, H.la, H.lb⟩
theorem KB.on_b (H : KB W w ba ca bb cb n LA LB) (h : BT.Bx w' bb cb n L') (k : Only cb (cb + 1) w w') : KB W w' ba ca bb cb n LA L' := ⟨H.a.only k H.ne.symm (ch_notT H.b), h, Only.on H.gw k H.lb, H.ne, H.la, H.lb⟩
theorem KB.kept (H : KB W w ba ca bb cb n LA LB) (k : w.grownBy w' none) : KB W w' ba ca bb cb n LA LB := ⟨H.a.kept k, H.b.kept k, H.gw.trans k, H.ne, H.la, H.lb⟩
theorem KB.byRow (H : KB W w ba ca bb cb n LA LB) {m : Nat} {v : Value} {xs : List Value} (h : w.ownsRow W.heap.size 49 2 v m xs) (k : w.grownBy w' v.ownBlock) : KB W w' ba ca bb cb n LA LB :=
  ⟨byRowT H.a h k, byRowT H.b h k, ⟨k.os.trans H.gw.os, k.tape.trans H.gw.tape, k.output.trans H.gw.output, Nat.le_trans H.gw.size k.size, fun j hj _ => (k.block j (Nat.lt_of_lt_of_le hj H.gw.size) (fun e => by have := (h.lt j e.symm).1; omega)).trans (H.gw.block j hj (by simp))⟩, H.ne, H.la, H.lb⟩
end
/-- And a row of what went into each. -/
structure KS (W w : World) (ba ca bb cb n : Nat) (LA LB : List (Nat × BT.Vt)) (vx vy : Value) : Prop where
  k : KB W w ba ca bb cb n LA LB
  rx : w.ownsRow W.heap.size 49 2 vx LA.length (cells2 (LA.map Prod.snd))
  ry : w.ownsRow W.heap.size 49 2 vy LB.length (cells2 (LB.map Prod.snd))
  ne : ∀ g, vx.ownBlock = some g → vy.ownBlock ≠ some g
section
variable {W w w' : World} {ba ca bb cb n : Nat} {LA LB L' : List (Nat × BT.Vt)} {vx vy v' : Value}
theorem KS.kept (H : KS W w ba ca bb cb n LA LB vx vy) (k : w.grownBy w' none) : KS W w' ba ca bb cb n LA LB vx vy := ⟨H.k.kept k, own_keep2 H.rx k, own_keep2 H.ry k, H.ne⟩
/-- A thing went into the first box, and to the end of its row. -/
theorem KS.app_x {q : Nat} {s : ByteArray} {u : Int} {w3 w4 : World} (H : KS W w ba ca bb cb n LA LB vx vy) (h : BT.Bx w3 ba ca n (LA ++ [(q, (s, u))])) (k : Only ca (ca + 1) w w3) (k3 : w3.grownBy w4 none)
    (ho : w'.ownsRow W.heap.size 49 2 v' (LA.length + 1) (cells2 (LA.map Prod.snd) ++ cells2 [(s, u)])) (kg : w4.grownBy w' vx.ownBlock) (hat : v'.ownBlock = vx.ownBlock ∨ v'.ownBlock = some w4.heap.size) : KS W w' ba ca bb cb n (LA ++ [(q, (s, u))]) LB v' vy := by
  have rx4 := own_keep2 (own_chT H.rx H.k.a k) k3
  have ry4 := own_keep2 (own_chT H.ry H.k.a k) k3
  refine ⟨((H.k.on_a h k).kept k3).byRow rx4 kg, ?_, BI.own_blk ry4 fun g hg => kg.block g (ry4.lt g hg).2 (fun e => H.ne g e.symm hg), fun g hg hg' => ?_⟩
  · rw [cells2_add] at ho
    simpa using ho
  · rcases hat with e | e
    · exact H.ne g (e ▸ hg) hg'
    · have : g = w4.heap.size := by rw [hg] at e; exact Option.some.inj e
      have := (ry4.lt g hg').2
      omega
theorem KS.app_y {q : Nat} {s : ByteArray} {u : Int} {w3 w4 : World} (H : KS W w ba ca bb cb n LA LB vx vy) (h : BT.Bx w3 bb cb n (LB ++ [(q, (s, u))])) (k : Only cb (cb + 1) w w3) (k3 : w3.grownBy w4 none)
    (ho : w'.ownsRow W.heap.size 49 2 v' (LB.length + 1) (cells2 (LB.map Prod.snd) ++ cells2 [(s, u)])) (kg : w4.grownBy w' vy.ownBlock) (hat : v'.ownBlock = vy.ownBlock ∨ v'.ownBlock = some w4.heap.size) : KS W w' ba ca bb cb n LA (LB ++ [(q, (s, u))]) vx v' := by
  have rx4 := own_keep2 (own_chT H.rx H.k.b k) k3
  have ry4 := own_keep2 (own_chT H.ry H.k.b k) k3
  refine ⟨((H.k.on_b h k).kept k3).byRow ry4 kg, BI.own_blk rx4 fun g hg => kg.block g (rx4.lt g hg).2 (fun e => H.ne g hg e.symm), ?_, fun g hg hg' => ?_⟩
  · rw [cells2_add] at ho
    simpa using ho
  · rcases hat with e | e
    · exact H.ne g hg (e ▸ hg')
    · have : g = w4.heap.size := by rw [hg'] at e; exact Option.some.inj e
      have := (rx4.lt g hg).2
      omega
end
end Go.Proofs.Ytijgdlanjhcabaa
