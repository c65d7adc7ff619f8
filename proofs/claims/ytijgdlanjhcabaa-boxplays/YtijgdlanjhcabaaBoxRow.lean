/-
  Rows of numbers beside a box, over this seat's translation; nightjarref03.Same.
-/
import Derived.Test.YtijgdlanjhcabaaAlive10
import Derived.Test.YtijgdlanjhcabaaBox5I
import Derived.Deep.Onto
namespace Go.Proofs.Ytijgdlanjhcabaa
open Go.RowKit Go.Lib Go.Conc
set_option maxRecDepth 100000
set_option linter.unusedVariables false

/-- Numbers as the cells of a row of ints. -/
def zints (F : List Int) : List Value := F.map fun x => Value.int .i64 x
theorem zints_len (F : List Int) : (zints F).length = F.length := by simp [zints]
theorem zints_snoc (F : List Int) (k : Int) : zints F ++ [Value.int .i64 k] = zints (F ++ [k]) := by simp [zints]
theorem zints_add (F G : List Int) : zints F ++ zints G = zints (F ++ G) := by simp [zints]
theorem zints_one (F : List Int) : ∀ u ∈ zints F, u.oneCell' = true := by
  intro u hu
  simp only [zints, List.mem_map] at hu
  obtain ⟨i, _, rfl⟩ := hu
  rfl
theorem vals_z (L : List (Nat × Int)) : BI.vals L = zints (L.map Prod.snd) := by
  unfold BI.vals zints BI.valOf
  rw [List.map_map]
  rfl
/-- A slice whose numbers can be read. -/
def ReadsZ (w : World) (v : Value) (F : List Int) : Prop := ∃ a cap, v = .slice a F.length cap ∧ ∀ j (h : j < F.length), ∃ b o, a = some ⟨b, o, none⟩ ∧ b < w.heap.size ∧ w.cell? ⟨b, o + j, none⟩ = some (.int .i64 F[j])
theorem ReadsZ.kept {w w' : World} {v : Value} {F : List Int} (h : ReadsZ w v F) (hg : w.grownBy w' none) : ReadsZ w' v F := by
  obtain ⟨a, cap, rfl, hc⟩ := h
  refine ⟨a, cap, rfl, fun j hj => ?_⟩
  obtain ⟨b, o, e, hb, h⟩ := hc j hj
  exact ⟨b, o, e, Nat.lt_of_lt_of_le hb hg.size, (hg.cell_far ⟨b, o + j, none⟩ hb (by simp)).trans h⟩
theorem reads_own {w : World} {B : Nat} {v : Value} {F : List Int} (h : w.ownsRow B 3 1 v F.length (zints F)) : ReadsZ w v F := by
  obtain ⟨sa, cp, rfl, _, hg⟩ := BI.own_at h
  refine ⟨sa, cp, rfl, fun j hj => ?_⟩
  obtain ⟨g, rfl, hb⟩ := hg (by omega)
  refine ⟨g, 0, rfl, (h.lt g hb).2, ?_⟩
  rw [Nat.zero_add]
  exact BI.own_cell h (by unfold zints; rw [List.getElem?_map, List.getElem?_eq_getElem hj]; rfl) hb
theorem src_own {w : World} {B : Nat} {v : Value} {F : List Int} (h : w.ownsRow B 3 1 v F.length (zints F)) : SrcAt w 1 v F.length (zints F) := by
  rcases h.2 with ⟨h0, hn⟩ | ⟨r, cap, cur, hv, hb, hg, rest⟩
  · refine Or.inr ⟨0, by rw [h0], hn, ?_⟩
    have : F = [] := List.length_eq_zero_iff.1 hn
    rw [this]; rfl
  · subst hv
    exact Or.inl ⟨_, cap, rfl, by rw [zints_len, Nat.mul_one], fun j u hu => h.cells rfl j u hu, zints_one F⟩

set_option maxHeartbeats 1000000 in
theorem sameZ_yes {w : World} {va vb : Value} {F : List Int} (ha : ReadsZ w va F) (hb : ReadsZ w vb F) (hF : F.length ≤ 1000000) :
    Calls Try.prog 11 #[va, vb] w fun e w' => e = .returned (.bool true) ∧ w.grownBy w' none := by
  obtain ⟨a, cap, rfl, HA⟩ := ha
  obtain ⟨b, cap2, rfl, HB⟩ := hb
  have HA' := Lib.hid HA
  have HB' := Lib.hid HB
  clear HA HB
  have hx0 : w.grownBy w none := ⟨rfl, rfl, rfl, Nat.le_refl _, fun _ _ _ => rfl⟩
  go_enter Try.func11, Try.ntmps11
  go_wp2
  go_loopw [5] (fun it wr => ∃ j : Nat, j ≤ F.length ∧ it = .int .i64 j ∧ w.grownBy wr none) (fun it _ => F.length - (intOf it).toNat)
  case atStart => exact ⟨0, Nat.zero_le _, rfl, hx0⟩
  case round =>
    obtain ⟨j, hj, rfl, hG⟩ := hrel
    clear hx0
    by_cases hlt : j < F.length
    · obtain ⟨b1, o1, e1, hb1, c1⟩ := HA'.out j hlt
      obtain ⟨b2, o2, e2, hb2, c2⟩ := HB'.out j hlt
      subst e1
      subst e2
      have d1 := (hG.cell_far ⟨b1, o1 + j, none⟩ hb1 (by simp)).trans c1
      have d2 := (hG.cell_far ⟨b2, o2 + j, none⟩ hb2 (by simp)).trans c2
      clear c1 c2
      generalize F[j] = x at d1 d2
      have q1 : (j : Int) < (F.length : Int) := by omega
      go_wp2_with fail
      go_quiet (fail)
      go_wp2
      go_roundw
      case rel => exact ⟨j + 1, by omega, by go_num, hG.trans (⟨rfl, rfl, rfl, Nat.le_refl _, fun _ _ _ => rfl⟩)⟩
      case measure => simp [intOf]; omega
    · go_wp2
      go_ret
      exact ⟨rfl, hG⟩

/-- A box, and two rows of numbers beside it, all of the call's own. -/
structure OS (W w : World) (bb c cap : Nat) (L : List (Nat × Int)) (vi : Value) (I : List Int) (vo : Value) (O : List Int) : Prop where
  bx : BI.Bx w bb c cap L
  ri : w.ownsRow W.heap.size 3 1 vi I.length (zints I)
  ro : w.ownsRow W.heap.size 3 1 vo O.length (zints O)
  ne : ∀ g, vi.ownBlock = some g → vo.ownBlock ≠ some g
  gw : W.grownBy w none
  lc : W.heap.size ≤ c
section
variable {W w w' : World} {bb c cap : Nat} {L L' : List (Nat × Int)} {vi vo v' : Value} {I O : List Int}
theorem OS.on (H : OS W w bb c cap L vi I vo O) (h : BI.Bx w' bb c cap L') (k : Only c (c + 1) w w') : OS W w' bb c cap L' vi I vo O :=
  ⟨h, BI.own_ch H.ri H.bx k, BI.own_ch H.ro H.bx k, H.ne, Only.on H.gw k H.lc, H.lc⟩
theorem own_keep {B n size : Nat} {e : TypeId} {v : Value} {xs : List Value} (h : w.ownsRow B e size v n xs) (k : w.grownBy w' none) : w'.ownsRow B e size v n xs :=
  BI.own_blk h fun g hg => k.block g (h.lt g hg).2 (by simp)
theorem OS.kept (H : OS W w bb c cap L vi I vo O) (k : w.grownBy w' none) : OS W w' bb c cap L vi I vo O :=
  ⟨H.bx.kept k, own_keep H.ri k, own_keep H.ro k, H.ne, H.gw.trans k, H.lc⟩
/-- Numbers go to the end of the first row. -/
theorem OS.app_i (H : OS W w bb c cap L vi I vo O) (G : List Int) (h : w'.ownsRow W.heap.size 3 1 v' (I.length + G.length) (zints I ++ zints G)) (k : w.grownBy w' vi.ownBlock) (hat : v'.ownBlock = vi.ownBlock ∨ v'.ownBlock = some w.heap.size) : OS W w' bb c cap L v' (I ++ G) vo O := by
  refine ⟨H.bx.byRow H.ri (by decide) (by decide) k, by rw [← zints_add, List.length_append]; exact h, BI.own_blk H.ro fun g hg => k.block g (H.ro.lt g hg).2 (fun e => H.ne g e.symm hg), fun g hg hg' => ?_, ?_, H.lc⟩
  · rcases hat with e | e
    · exact H.ne g (e ▸ hg) hg'
    · have : g = w.heap.size := by rw [hg] at e; exact Option.some.inj e
      have := (H.ro.lt g hg').2
      omega
  · exact ⟨k.os.trans H.gw.os, k.tape.trans H.gw.tape, k.output.trans H.gw.output, Nat.le_trans H.gw.size k.size, fun j hj _ => (k.block j (Nat.lt_of_lt_of_le hj H.gw.size) (fun e => by have := (H.ri.lt j e.symm).1; omega)).trans (H.gw.block j hj (by simp))⟩
theorem OS.app_o (H : OS W w bb c cap L vi I vo O) (G : List Int) (h : w'.ownsRow W.heap.size 3 1 v' (O.length + G.length) (zints O ++ zints G)) (k : w.grownBy w' vo.ownBlock) (hat : v'.ownBlock = vo.ownBlock ∨ v'.ownBlock = some w.heap.size) : OS W w' bb c cap L vi I v' (O ++ G) := by
  refine ⟨H.bx.byRow H.ro (by decide) (by decide) k, BI.own_blk H.ri fun g hg => k.block g (H.ri.lt g hg).2 (fun e => H.ne g hg e.symm), by rw [← zints_add, List.length_append]; exact h, fun g hg hg' => ?_, ?_, H.lc⟩
  · rcases hat with e | e
    · exact H.ne g hg (e ▸ hg')
    · have : g = w.heap.size := by rw [hg'] at e; exact Option.some.inj e
      have := (H.ri.lt g hg).2
      omega
  · exact ⟨k.os.trans H.gw.os, k.tape.trans H.gw.tape, k.output.trans H.gw.output, Nat.le_trans H.gw.size k.size, fun j hj _ => (k.block j (Nat.lt_of_lt_of_le hj H.gw.size) (fun e => by have := (H.ro.lt j e.symm).1; omega)).trans (H.gw.block j hj (by simp))⟩
theorem litZ (w : World) (B : Nat) (hB : B ≤ w.heap.size) : (w.alloc (.cells #[] 3)).ownsRow B 3 1 (.slice (some ⟨w.heap.size, 0, none⟩) 0 0) 0 (zints []) :=
  World.ownsRow_made w #[] 0 hB (by decide) rfl
end
end Go.Proofs.Ytijgdlanjhcabaa
