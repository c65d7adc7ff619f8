/-
  wire.Write, over this seat's translation: the bytes of entries.
-/
import Derived.Test.YtcnojgkolpdomaaDoorWire6a
import Derived.Test.YtcnojgkolpdomaaDoorWire5
import Derived.Test.YtcnojgkolpdomaaDoorWire3
namespace Go.Proofs.YtcnojgkolpdomaaDoor
open Go.RowKit Go.Lib
set_option maxRecDepth 100000
set_option linter.unusedVariables false

def wrB (L : List En) : List Nat := L.flatMap ew
theorem wrB_snoc (L : List En) (e : En) : wrB (L ++ [e]) = wrB L ++ ((eb e).length :: eb e) := by simp [wrB, ew]
theorem wrB_len : ∀ L : List En, (∀ e ∈ L, okE e = true) → (wrB L).length ≤ L.length * 28
  | [], _ => by simp [wrB]
  | e :: L, h => by
    have h1 := wrB_len L (fun x hx => h x (by simp [hx]))
    have h2 := eb_len (h e (by simp))
    simp only [wrB, List.flatMap_cons, List.length_append, ew, List.length_cons] at h1 ⊢
    omega
theorem wrB_isB {L : List En} (h : ∀ e ∈ L, okE e = true) : isB (wrB L) := by
  intro x hx
  simp only [wrB, List.mem_flatMap] at hx
  obtain ⟨e, he, hx⟩ := hx
  exact ew_isB (h e he) x hx
def wrV (L : List En) (v : Value) : Value := if L.all okE = true then .tuple #[v, .int .i64 0] else .tuple #[.slice none 0 0, .int .i64 11]

set_option maxHeartbeats 8000000 in
theorem wwrite {w : World} {v : Value} {L : List En} (H : ReadsE w v L) (HT : FormsAt w) (hL : L.length ≤ 2048) :
    Calls Tryd.prog 33 #[v] w fun r w' => w.grownBy w' none ∧ ∃ v', r = .returned (wrV L v') ∧ (L.all okE = true → BRow w' w.heap.size v' (wrB L)) := by
  have HT0 := Lib.hid HT
  have HE0 := Lib.hid H
  obtain ⟨a0, cap0, rfl, h1, h2, h3, h4⟩ := H
  have HC : Hid (∀ (wz : World) (j : Nat) (hj : j < L.length), w.grownBy wz none → ∃ b o, a0 = some ⟨b, o, none⟩ ∧ b < wz.heap.size ∧ ∀ i, i < 9 → wz.cell? ⟨b, o + j * 9 + i, none⟩ = (L[j]).cells[i]?) := Lib.hid (fun wz j hj hg => by
    obtain ⟨b, o, rfl, hb, hc⟩ := h4 (by omega)
    exact ⟨b, o, rfl, Nat.lt_of_lt_of_le hb hg.size, fun i hi => (hg.cell_far ⟨b, o + j * 9 + i, none⟩ hb (by simp)).trans (hc j hj i hi)⟩)
  have HSM := Lib.hid h3
  have q1 : ¬ (((L.length : Nat) : Int) > 2048) := by omega
  obtain ⟨i0, hi0, hz0, hz1, hz2⟩ := byte_info
  have I0 := Lib.hid hi0
  have I1 := Lib.hid hz0
  have I2 := Lib.hid hz1
  have I3 := Lib.hid hz2
  clear hi0 hz0 hz1 hz2 h1 h2 h3 h4 HT
  obtain ⟨B, hB⟩ : ∃ B, B = w.heap.size := ⟨_, rfl⟩
  have HB := Lib.hid hB
  rw [← hB]
  clear hB
  go_enter Tryd.func33, Tryd.ntmps33
  go_wp2
  go_loopw [2, 3, 4, 13] (fun rv ev av iv wr => ∃ j : Nat, j ≤ L.length ∧ iv = .int .i64 (j : Int) ∧ rv = .slice none 0 0 ∧ ev = .int .i64 0 ∧ Hid (∀ e ∈ L.take j, okE e = true) ∧ Hid (BRow wr B av (wrB (L.take j))) ∧ Hid (w.grownBy wr none)) (fun _ _ _ iv _ => L.length - (RowKit.intOf iv).toNat)
  case atStart => exact ⟨0, Nat.zero_le _, rfl, rfl, rfl, Lib.hid (fun e he => absurd he (by simp)), Lib.hid (brow_nil w B), Lib.hid (World.grownBy.refl w none)⟩
  case round =>
    obtain ⟨j, hj, rfl, rfl, rfl, HOK, HRW, HG⟩ := hrel
    by_cases hlt : j < L.length
    · obtain ⟨b, o, ha0, hbw, hcell⟩ := HC.out wr j hlt HG.out
      have htk : L.take (j + 1) = L.take j ++ [L[j]] := List.take_succ_eq_append_getElem hlt
      have HTK := Lib.hid htk
      have hsm := HSM.out L[j] (List.getElem_mem hlt)
      have hin : L[j] ∈ L := List.getElem_mem hlt
      have HIN := Lib.hid hin
      obtain ⟨e, he⟩ : ∃ e, e = L[j] := ⟨_, rfl⟩
      rw [← he] at hcell hsm
      have HTK2 : Hid (L.take (j + 1) = L.take j ++ [e]) := Lib.hid (by rw [he]; exact htk)
      have HIN2 : Hid (e ∈ L) := Lib.hid (by rw [he]; exact hin)
      clear HTK HIN hin htk he
      have HS := Lib.hid hsm
      have CR := wright (w := wr.alloc (.cells e.cells.toArray 55)) e hsm (HT0.out.kept (HG.out.trans (World.grownBy_alloc wr _ none)))
      obtain ⟨k, who, n, ⟨op, a, b2, c⟩, d, m⟩ := e
      have kx := World.grownBy_alloc wr (.cells #[.int .i64 k, .int .i64 who, .int .i64 n, .int .i64 op, .int .u64 (a : Nat), .int .u64 (b2 : Nat), .int .u64 (c : Nat), .int .i64 d, .int .i64 m] 55) none
      have c0 : wr.cell? ⟨b, o + j * 9, none⟩ = some (.int .i64 k) := hcell 0 (by decide)
      have c1 : wr.cell? ⟨b, o + j * 9 + 1, none⟩ = some (.int .i64 who) := hcell 1 (by decide)
      have c2 : wr.cell? ⟨b, o + j * 9 + 2, none⟩ = some (.int .i64 n) := hcell 2 (by decide)
      have c3 : wr.cell? ⟨b, o + j * 9 + 3, none⟩ = some (.int .i64 op) := hcell 3 (by decide)
      have c4 : wr.cell? ⟨b, o + j * 9 + 4, none⟩ = some (.int .u64 (a : Nat)) := hcell 4 (by decide)
      have c5 : wr.cell? ⟨b, o + j * 9 + 5, none⟩ = some (.int .u64 (b2 : Nat)) := hcell 5 (by decide)
      have c6 : wr.cell? ⟨b, o + j * 9 + 6, none⟩ = some (.int .u64 (c : Nat)) := hcell 6 (by decide)
      have c7 : wr.cell? ⟨b, o + j * 9 + 7, none⟩ = some (.int .i64 d) := hcell 7 (by decide)
      have c8 : wr.cell? ⟨b, o + j * 9 + 8, none⟩ = some (.int .i64 m) := hcell 8 (by decide)
      have hhs : o + j * 9 = o + j * 9 := rfl
      subst ha0
      unfold En.val En.cells at CR
      simp only at CR
      obtain ⟨q, hq⟩ : ∃ q, q = okE ⟨k, who, n, ⟨op, a, b2, c⟩, d, m⟩ := ⟨_, rfl⟩
      have HQ := Lib.hid hq
      rw [← hq] at CR
      have CR := Lib.hid CR
      have HG1 := Lib.hid (HG.out.trans kx)
      have HRW1 := Lib.hid (HRW.out.grown kx)
      have hszx : wr.heap.size < (wr.alloc (.cells #[.int .i64 k, .int .i64 who, .int .i64 n, .int .i64 op, .int .u64 (a : Nat), .int .u64 (b2 : Nat), .int .u64 (c : Nat), .int .i64 d, .int .i64 m] 55)).heap.size := by simp
      have HBr : Hid (B ≤ wr.heap.size) := Lib.hid (by rw [HB.out]; exact HG.out.size)
      clear hcell hq hsm
      go_wp2_with fail
      refine CR.out.mono ?_
      rintro r w1 ⟨rfl, g1⟩
      have e0 : w1.cell? ⟨wr.heap.size, 0, none⟩ = some (.int .i64 k) := (g1.cell_far ⟨wr.heap.size, 0, none⟩ hszx (by simp)).trans (World.cell?_alloc_new ..)
      have e1 : w1.cell? ⟨wr.heap.size, 1, none⟩ = some (.int .i64 who) := (g1.cell_far ⟨wr.heap.size, 1, none⟩ hszx (by simp)).trans (World.cell?_alloc_new ..)
      have e2 : w1.cell? ⟨wr.heap.size, 2, none⟩ = some (.int .i64 n) := (g1.cell_far ⟨wr.heap.size, 2, none⟩ hszx (by simp)).trans (World.cell?_alloc_new ..)
      have e3 : w1.cell? ⟨wr.heap.size, 3, none⟩ = some (.int .i64 op) := (g1.cell_far ⟨wr.heap.size, 3, none⟩ hszx (by simp)).trans (World.cell?_alloc_new ..)
      have e4 : w1.cell? ⟨wr.heap.size, 4, none⟩ = some (.int .u64 (a : Nat)) := (g1.cell_far ⟨wr.heap.size, 4, none⟩ hszx (by simp)).trans (World.cell?_alloc_new ..)
      have e5 : w1.cell? ⟨wr.heap.size, 5, none⟩ = some (.int .u64 (b2 : Nat)) := (g1.cell_far ⟨wr.heap.size, 5, none⟩ hszx (by simp)).trans (World.cell?_alloc_new ..)
      have e6 : w1.cell? ⟨wr.heap.size, 6, none⟩ = some (.int .u64 (c : Nat)) := (g1.cell_far ⟨wr.heap.size, 6, none⟩ hszx (by simp)).trans (World.cell?_alloc_new ..)
      have e7 : w1.cell? ⟨wr.heap.size, 7, none⟩ = some (.int .i64 d) := (g1.cell_far ⟨wr.heap.size, 7, none⟩ hszx (by simp)).trans (World.cell?_alloc_new ..)
      have e8 : w1.cell? ⟨wr.heap.size, 8, none⟩ = some (.int .i64 m) := (g1.cell_far ⟨wr.heap.size, 8, none⟩ hszx (by simp)).trans (World.cell?_alloc_new ..)
      have hsY := Nat.lt_of_lt_of_le hszx g1.size
      have HG2 := Lib.hid (HG1.out.trans g1)
      have HRW2 := Lib.hid (HRW1.out.grown g1)
      clear CR g1 kx c0 c1 c2 c3 c4 c5 c6 c7 c8 hszx
      generalize wr.heap.size = Y at *
      cases q with
      | false =>
        have hall : L.all okE = false := by
          rw [List.all_eq_false]
          exact ⟨_, HIN2.out, by rw [← HQ.out]; simp⟩
        have HALL := Lib.hid hall
        clear hall
        go_wp2
        go_ret2
        exact ⟨HG2.out, .slice none 0 0, by rw [wrV, HALL.out]; simp, fun h => absurd (HALL.out.symm.trans h) (by simp)⟩
      | true =>
        have CB := wbytesOf (w := w1) ⟨k, who, n, ⟨op, a, b2, c⟩, d, m⟩ HS.out (HT0.out.kept HG2.out) HQ.out.symm
        have hel := eb_len HQ.out.symm
        have heB := eb_isB HQ.out.symm
        have HEB : Hid (wrB (L.take (j + 1)) = wrB (L.take j) ++ ((eb ⟨k, who, n, ⟨op, a, b2, c⟩, d, m⟩).length :: eb ⟨k, who, n, ⟨op, a, b2, c⟩, d, m⟩)) := Lib.hid (by rw [HTK2.out, wrB_snoc])
        have HOK2 : Hid (∀ e ∈ L.take (j + 1), okE e = true) := Lib.hid (fun e he => by
          rw [HTK2.out] at he
          rcases List.mem_append.1 he with he | he
          · exact HOK.out e he
          · simp at he; subst he; exact HQ.out.symm)
        have hwl := wrB_len _ HOK.out
        rw [List.length_take, Nat.min_eq_left hj] at hwl
        unfold En.val at CB
        simp only at CB
        have CB := Lib.hid CB
        generalize eb ⟨k, who, n, ⟨op, a, b2, c⟩, d, m⟩ = E at *
        generalize wrB (L.take j) = P at *
        go_wp2_with fail
        refine CB.out.mono ?_
        rintro r w2 ⟨ve, rfl, q2, g2⟩
        have HG3 := Lib.hid (HG2.out.trans g2)
        have HRW3 := HRW2.out.grown g2
        have HE := Lib.hid q2
        obtain ⟨re, ce, rfl, hre⟩ : ∃ re ce, ve = .slice (some ⟨re, 0, none⟩) E.length ce ∧ w1.heap.size ≤ re := by
          rcases q2.form with ⟨_, h⟩ | ⟨r', c', h1, h2, _⟩
          · rw [h] at hel; simp at hel
          · exact ⟨r', c', h1, h2⟩
        have hw8 : IntKind.u8.wrap ((E.length : Nat) : Int) = ((E.length : Nat) : Int) := by rw [wrap8]; omega
        have hBw2 : B ≤ w2.heap.size := Nat.le_trans HBr.out (by have := g2.size; omega)
        have HV3 := Lib.hid HRW3
        clear CB g2 q2
        obtain ⟨av, hav⟩ : ∃ av, av = u4 := ⟨_, rfl⟩
        have HRW3' : w2.ownsRow B 5 1 u4 P.length (bys P) := HRW3
        go_wp2_with (first
        | (
        at_builtin
        refine wpList_append_own_at _ rfl _ _ 38 rfl B 5 i0 (.int .u8 0) 1 1 Tryd.underlying38 I0.out I1.out I2.out I3.out rfl (by decide) u4 _ _ rfl (World.ownsRow.alloc HRW3' _) ⟨_, 0, none⟩ 1 1 [.int .u8 ((E.length : Nat) : Int)] rfl rfl (cell_one_at _ _ _ _ (by first | rfl | simp)) (fun x hx => by simp at hx; subst hx; rfl) (by unfold maxLen; omega) (by omega) (by simp; omega) ?_
        intro v' w5 hown' hgrow3 hnil3 hat0
        have hgr : (World.alloc (w2) (.cells #[.int .u8 ((E.length : Nat) : Int)] 5)).grownBy w5 (Value.ownBlock u4) := hgrow3
        have hat1 : v'.ownBlock = Value.ownBlock u4 ∨ v'.ownBlock = some (World.alloc (w2) (.cells #[.int .u8 ((E.length : Nat) : Int)] 5)).heap.size := hat0
        clear hgrow3 hat0
        obtain ⟨h5, g5⟩ := byte_put (k := E.length) hown' rfl hgr hat1
        have HX5 := Lib.hid h5
        have HG5 := Lib.hid (grow_own HG3.out HV3.out (by rw [HB.out]; exact Nat.le_refl _) g5.g)
        have hE5 : ReadsB w5 (.slice (some ⟨re, 0, none⟩) E.length ce) E := (HE.out.reads heB).kept g5.g (fun r hr => by
          simp [Value.ownBlock] at hr
          subst hr
          intro h
          have := (HV3.out.own re h.symm).1
          have h6 := HRW2.out
          rcases h6.form with ⟨h7, _⟩ | ⟨r7, c7, h7, _, h8, _⟩
          · rw [h7] at h; simp [Value.ownBlock] at h
          · rw [h7] at h; simp [Value.ownBlock] at h; omega)
        have sr := hE5.src (by omega)
        have hlen5 : (P ++ [E.length]).length ≤ 60000 := by rw [List.length_append]; simp; omega
        have hB5 : B ≤ w5.heap.size := Nat.le_trans hBw2 g5.g.size
        obtain ⟨P5, hP5⟩ : ∃ P5, P5 = P ++ [E.length] := ⟨_, rfl⟩
        have HP5 := Lib.hid hP5
        rw [← hP5] at HX5 hlen5
        clear hown' hgr hat1 h5 g5 hnil3 HRW3' HRW3 hP5
        )
        | (
        at_builtin
        refine wpList_append_src _ rfl _ _ 38 rfl B 5 i0 (.int .u8 0) 1 1 Tryd.underlying38 I0.out I1.out I2.out I3.out rfl (by decide) v' P5.length (bys P5) rfl HX5.out _ E.length (bys E) rfl sr (by unfold maxLen; omega) (by omega) hB5 ?_
        intro v6 w6 hown6 hg6 hnil6 hat6
        have HX6 := Lib.hid (src_put hown6)
        have HG6 := Lib.hid (grow_own HG5.out HX5.out (by rw [HB.out]; exact Nat.le_refl _) hg6)
        clear hown6 hg6 hnil6 hat6 sr hE5
        ))
        go_roundw
        case rel => exact ⟨j + 1, by omega, by go_num, rfl, rfl, HOK2, Lib.hid (by rw [HEB.out, show P ++ E.length :: E = P5 ++ E by rw [HP5.out]; simp]; exact HX6.out), HG6⟩
        case measure => simp [RowKit.intOf]; omega
    · obtain rfl : j = L.length := by omega
      have hall : L.all okE = true := by
        rw [List.all_eq_true]
        intro e he
        exact HOK.out e (by rw [List.take_length]; exact he)
      go_wp2
      go_ret2
      refine ⟨HG.out, u4, by rw [wrV, hall]; simp, fun _ => ?_⟩
      have := HRW.out
      rw [List.take_length] at this
      exact this
end Go.Proofs.YtcnojgkolpdomaaDoor
