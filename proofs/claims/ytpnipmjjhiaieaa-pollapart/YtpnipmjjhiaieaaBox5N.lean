/-
  Contracts of package box (things of type poll.Note), over this seat's translation: things, All.
-/
import Derived.Test.YtpnipmjjhiaieaaBox4N
import Derived.Test.YtpnipmjjhiaieaaQueue4
namespace Go.Proofs.Ytpnipmjjhiaieaa.BN
open Go.RowKit Go.Lib Go.Conc
set_option maxRecDepth 100000
set_option linter.unusedVariables false
section
variable {w w' : World} {bb c cap : Nat} {L : List (Nat × Vt)} {M : Nat → Bool}
theorem own_cell {B n : Nat} {e : TypeId} {v : Value} {xs : List Value} (h : w.ownsRow B e 1 v n xs) {j : Nat} {u : Value} (hu : xs[j]? = some u) {g : Nat} (hg : v.ownBlock = some g) : w.cell? ⟨g, j, none⟩ = some u := by
  have := h.cells hg j u hu
  by_cases hj : j = 0
  · subst hj; simpa [Addr.add] using this
  · simpa [Addr.add, hj] using this
/-- Two rows of things of two kinds are two rows. -/
theorem own_apart {B B' n n' z z' : Nat} {e e' : TypeId} {v v' : Value} {xs xs' : List Value} (h : w.ownsRow B e z v n xs) (h' : w.ownsRow B' e' z' v' n' xs') (he : e ≠ e') : v.ownBlock = none ∨ v.ownBlock ≠ v'.ownBlock := by
  cases hv : v.ownBlock with
  | none => exact Or.inl rfl
  | some g =>
    refine Or.inr fun e1 => ?_
    obtain ⟨_, _, _, hf, _⟩ := own_at h
    obtain ⟨_, _, _, hf', _⟩ := own_at h'
    obtain ⟨_, _, cur, h1⟩ := hf g hv
    obtain ⟨_, _, cur', h2⟩ := hf' g e1.symm
    rw [h1] at h2
    injection h2 with h2
    injection h2 with _ h2
    exact he h2
/-- A row's block is none of a box's. -/
theorem BxM.row (H : BxM w bb c cap L M) {B n z : Nat} {e : TypeId} {v : Value} {xs : List Value} (h : w.ownsRow B e z v n xs) (h1 : e ≠ 90) (h2 : e ≠ 96) : ∀ g, v.ownBlock = some g → g ≠ bb ∧ g ≠ c ∧ ∀ x ∈ L, g ≠ x.1 := by
  intro g hg
  obtain ⟨_, _, _, hf, _⟩ := own_at h
  obtain ⟨_, _, cur, hb⟩ := hf g hg
  refine ⟨?_, ?_, fun x hx => ?_⟩
  · rintro rfl
    rw [H.b] at hb
    injection hb with hb
    injection hb with _ hb
    exact h1 hb.symm
  · rintro rfl
    obtain ⟨s, r, hc⟩ := H.ch
    rw [hc] at hb
    cases hb
  · rintro rfl
    rw [H.th x hx] at hb
    injection hb with hb
    injection hb with _ hb
    exact h2 hb.symm
/-- A row turns: a box stays. -/
theorem BxM.byRow (H : BxM w bb c cap L M) {B n z : Nat} {e : TypeId} {v : Value} {xs : List Value} (h : w.ownsRow B e z v n xs) (h1 : e ≠ 90) (h2 : e ≠ 96) (k : w.grownBy w' v.ownBlock) : BxM w' bb c cap L M := by
  have hr := H.row h h1 h2
  exact H.off (k.block _ H.lt.1 (fun e => (hr _ e.symm).1 rfl)) (k.block _ H.lt.2.1 (fun e => (hr _ e.symm).2.1 rfl)) fun x hx => k.block _ (H.lt.2.2 x hx) (fun e => (hr _ e.symm).2.2 x hx rfl)
/-- A channel turns: a row stays. -/
theorem own_ch {B n : Nat} {e : TypeId} {v : Value} {xs : List Value} (h : w.ownsRow B e 1 v n xs) (H : BxM w bb c cap L M) (k : Only c (c + 1) w w') : w'.ownsRow B e 1 v n xs := by
  refine own_blk h fun g hg => ?_
  obtain ⟨_, _, _, hf, _⟩ := own_at h
  obtain ⟨_, _, cur, hb⟩ := hf g hg
  refine k.block g (blk_lt hb) ?_
  have : g ≠ c := by
    rintro rfl
    obtain ⟨s, r, hc⟩ := H.ch
    rw [hc] at hb
    cases hb
  omega

def ptrs (L : List (Nat × Vt)) : List Value := L.map fun x => ptr x.1
def vals (L : List (Nat × Vt)) : List Value := cellsP (L.map Prod.snd)

set_option maxHeartbeats 4000000 in
theorem things_any (H : BxM w bb c cap L M) : Calls Try.prog 55 #[.pointer (some ⟨bb, 0, none⟩)] w fun e w' => (∃ v, e = .returned v ∧ w'.ownsRow (w.heap.size + 1) 94 1 v L.length (ptrs L)) ∧ BxM w' bb c cap L M ∧ Only c (c + 1) w w' := by
  have hmf : ∀ (fn : Fn) (first cap : Array Value) (w : World), (Instr.makeFunc fn first cap).run Try.prog w = .ok (.func fn first cap) w := fun _ _ _ _ => rfl
  have ka := World.grownBy_alloc w (.cells #[.slice none 0 0] 92) none
  have hlt := H.lt
  have hle : L.length ≤ 4096 := by have := H.le; omega
  have h0 : (w.alloc (.cells #[.slice none 0 0] 92)).heap[w.heap.size]? = some (.cells #[.slice none 0 0] 92 (0, 0)) := heap_alloc_new _ _
  have CT := Lib.hid (turn_cap (cv := .pointer (some ⟨w.heap.size, 0, none⟩)) (fun _ => true)
    (fun i wr => (∃ v, wr.heap[w.heap.size]? = some (.cells #[v] 92 (0, 0)) ∧ wr.ownsRow (w.heap.size + 1) 94 1 v i (ptrs (L.take i))) ∧ Only c (c + 1) w wr)
    (fun i wr l s r hJ => by
      obtain ⟨⟨v, h1, h2⟩, h3⟩ := hJ
      have k := only_setChan wr c cap l false s r false
      refine ⟨⟨v, (k.block _ (blk_lt h1) (by omega)).trans h1, own_blk h2 fun g hg => ?_⟩, h3.trans k⟩
      have := h2.lt g hg
      exact k.block g this.2 (by omega))
    (fun i wr hi hJ HT => by
      obtain ⟨⟨v, h1, h2⟩, h3⟩ := hJ
      refine (things1 L[i].1 w.heap.size i v _ h1 h2 (by omega)).mono ?_
      rintro e w2 ⟨rfl, ⟨v', h4, h5⟩, k⟩
      have hbl := blk_lt h1
      refine ⟨rfl, ⟨⟨v', h4, ?_⟩, ⟨k.os.trans h3.os, k.tape.trans h3.tape, k.output.trans h3.output, Nat.le_trans h3.size k.size, fun j hj hr => (k.block j (Nat.lt_of_lt_of_le hj h3.size) (Or.inl hj)).trans (h3.block j hj hr)⟩⟩, fun j hj => ?_⟩
      · have e : ptrs (L.take (i + 1)) = ptrs (L.take i) ++ [ptr L[i].1] := by
          unfold ptrs
          rw [List.take_add_one, List.map_append, List.getElem?_eq_getElem hi]
          rfl
        rw [e]
        exact h5
      · have hjl : j < w.heap.size := by
          rcases hj with rfl | rfl | ⟨x, hx, rfl⟩
          · exact hlt.1
          · exact hlt.2.1
          · exact hlt.2.2 x hx
        exact k.block j (by omega) (Or.inl hjl))
    (H.kept ka) ⟨⟨.slice none 0 0, h0, World.ownsRow_nil ..⟩, Only.of_none ka⟩)
  clear H ka hlt h0
  go_enter Try.func55, Try.ntmps55
  go_wp2_with fail
  refine CT.out.mono ?_
  rintro e w1 ⟨rfl, h1, ⟨v, h2, h3⟩, h4⟩
  obtain ⟨sa, cp, rfl, _, _⟩ := own_at h3
  have c0 := cell_blk h2 0
  simp only [List.getElem?_toArray, List.getElem?_cons_zero] at c0
  have R := Lib.hid (And.intro h1 (And.intro h3 h4))
  clear h1 h2 h3 h4 CT
  go_wp2
  go_ret
  refine ⟨⟨_, rfl, ?_⟩, ?_, R.out.2.2⟩
  · simpa using R.out.2.1
  · have e : L.filter (fun _ => true) = L := List.filter_eq_self.2 (fun _ _ => rfl)
    have := R.out.1
    rw [e] at this
    exact this

theorem vals_succ {i : Nat} (hi : i < L.length) : vals (L.take (i + 1)) = vals (L.take i) ++ cellsP [L[i].2] := by
  unfold vals
  rw [List.take_add_one, List.map_append, List.getElem?_eq_getElem hi, cellsP_add]
  rfl

theorem note_info : ∃ i : TypeInfo, Try.prog.info? 67 = some i ∧ i.zero = some (.agg #[.int .i64 0, .int .i64 0]) ∧ i.size = 2 ∧ i.bytes = 16 := ⟨_, rfl, rfl, rfl, rfl⟩
set_option maxHeartbeats 4000000 in
theorem all_any (H : BxM w bb c cap L M) : Calls Try.prog 37 #[.pointer (some ⟨bb, 0, none⟩)] w fun e w' => (∃ v, e = .returned v ∧ w'.ownsRow (w.heap.size + 1) 67 2 v L.length (vals L)) ∧ BxM w' bb c cap L M ∧ Only c (c + 1) w w' := by
  have CT := Lib.hid (things_any H)
  have hle : L.length ≤ 4096 := by have := H.le; omega
  obtain ⟨i0, hi0, hi1, hi2, hi3⟩ := note_info
  have I0 := Lib.hid hi0
  have I1 := Lib.hid hi1
  have I2 := Lib.hid hi2
  have I3 := Lib.hid hi3
  clear H hi0 hi1 hi2 hi3
  go_enter Try.func37, Try.ntmps37
  go_wp2_with fail
  refine CT.out.mono ?_
  rintro e w1 ⟨⟨v, rfl, h1⟩, h2, h3⟩
  obtain ⟨sa, cp, rfl, hf, hg⟩ := own_at h1
  have PR := Lib.hid h1
  have HB := Lib.hid h2
  have HO := Lib.hid h3
  have HG := Lib.hid hg
  clear h1 h2 h3 CT hf hg
  go_wp2_with fail
  go_loopw [3, 9] (fun s it wr => ∃ (i : Nat), i ≤ L.length ∧ it = .int .i64 i ∧ Hid (wr.ownsRow (w.heap.size + 1) 67 2 s i (vals (L.take i))) ∧ Hid (wr.ownsRow (w.heap.size + 1) 94 1 (.slice sa L.length cp) L.length (ptrs L)) ∧ Hid (BxM wr bb c cap L M) ∧ Hid (Only c (c + 1) w wr)) (fun s it _ => L.length - (Go.RowKit.intOf it).toNat)
  case atStart => exact ⟨0, Nat.zero_le _, rfl, Lib.hid (World.ownsRow_nil ..), PR, HB, HO⟩
  case round =>
    clear PR HB HO
    obtain ⟨i, hi, rfl, VR, PR, HB, HO⟩ := hrel
    by_cases hlt : i < L.length
    · have qi : (i : Int) < (L.length : Int) := by omega
      obtain ⟨g, hsa, hgb⟩ := HG.out (by omega)
      subst hsa
      have c1 : wr.cell? ⟨g, i, none⟩ = some (.pointer (some ⟨L[i].1, 0, none⟩)) := own_cell PR.out (u := ptr L[i].1) (by unfold ptrs; rw [List.getElem?_map, List.getElem?_eq_getElem hlt]; rfl) hgb
      have hth := HB.out.th L[i] (List.getElem_mem hlt)
      have c2 := cell_blk hth 0
      have c3 := cell_blk hth 1
      simp only [cellsOf, List.getElem?_toArray, List.getElem?_cons_zero, List.getElem?_cons_succ] at c2 c3
      have hvs := vals_succ hlt
      clear hth
      generalize L[i].1 = q at *
      obtain ⟨⟨za, zb⟩, hz⟩ : ∃ z, L[i].2 = z := ⟨_, rfl⟩
      rw [hz] at c2 c3 hvs
      clear hz
      simp only at c2 c3
      have hvs := Lib.hid hvs
      have ka := World.grownBy_alloc wr (.cells #[.int .i64 za, .int .i64 zb] 67) none
      have SR := Lib.hid (src_P wr za zb 67)
      have V2 := Lib.hid (VR.out.alloc (.cells #[.int .i64 za, .int .i64 zb] 67))
      have P2 := Lib.hid (PR.out.alloc (.cells #[.int .i64 za, .int .i64 zb] 67))
      have B2 := Lib.hid (HB.out.kept ka)
      have O2 := Lib.hid (HO.out.trans (Only.of_none ka))
      have hbase : Hid (w.heap.size + 1 ≤ (wr.alloc (.cells #[.int .i64 za, .int .i64 zb] 67)).heap.size) := Lib.hid (by
        have := (PR.out.lt g hgb).1
        have := (PR.out.lt g hgb).2
        have := ka.size
        omega)
      obtain ⟨sv, cv, hsv, _, _⟩ := own_at VR.out
      subst hsv
      clear VR PR HB HO ka hgb
      go_wp2_with (
        at_builtin
        refine wpList_append_src _ rfl _ _ 35 rfl (w.heap.size + 1) 67 i0 (.agg #[.int .i64 0, .int .i64 0]) 2 16 Try.underlying35 I0.out I1.out I2.out I3.out rfl (by decide) _ _ _ rfl V2.out _ 1 _ rfl SR.out (by unfold maxLen; omega) (by omega) hbase.out ?_
        intro v' w5 hown' hgrow hnil hat
        have hgr : Hid ((wr.alloc (.cells #[.int .i64 za, .int .i64 zb] 67)).grownBy w5 (Value.slice sv i cv).ownBlock) := Lib.hid hgrow
        have V3 := Lib.hid hown'
        clear hgrow hnil hat hown')
      go_wp2
      go_roundw
      case rel =>
        refine ⟨i + 1, hlt, by go_num, Lib.hid (by rw [hvs.out]; exact V3.out), Lib.hid (P2.out.kept hgr.out (own_apart P2.out V2.out (by decide))), Lib.hid (B2.out.byRow V2.out (by decide) (by decide) hgr.out), Lib.hid ?_⟩
        refine ⟨hgr.out.os.trans O2.out.os, hgr.out.tape.trans O2.out.tape, hgr.out.output.trans O2.out.output, Nat.le_trans O2.out.size hgr.out.size, fun k hk hr => (hgr.out.block k (Nat.lt_of_lt_of_le hk O2.out.size) (fun e => ?_)).trans (O2.out.block k hk hr)⟩
        have := (V2.out.lt k e.symm).1
        omega
      case measure => simp [Go.RowKit.intOf]; omega
    · obtain rfl : i = L.length := by omega
      go_wp2
      go_ret
      refine ⟨⟨_, rfl, ?_⟩, HB.out, HO.out⟩
      have := VR.out
      rw [List.take_length] at this
      exact this
end
end Go.Proofs.Ytpnipmjjhiaieaa.BN
