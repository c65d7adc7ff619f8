/-
  The document's answers for layer 3, over this seat's translation: New: a row of rows of places.
-/
import Derived.Test.YtchookgdajkipaaDoorRef3
import Derived.Maps.AppendAt
namespace Go.Proofs.YtchookgdajkipaaDoor
open Go.RowKit Go.Lib
set_option maxRecDepth 100000

theorem made_pl (n k : Nat) (h : k < n) : (madeCells #[.bool false, .int .i64 0] (n * 2))[k * 2]? = some (.bool false) ∧ (madeCells #[.bool false, .int .i64 0] (n * 2))[k * 2 + 1]? = some (.int .i64 0) := by
  have h1 : k * 2 < n * 2 := by omega
  have h2 : k * 2 + 1 < n * 2 := by omega
  have e1 : k * 2 % 2 = 0 := by omega
  have e2 : (k * 2 + 1) % 2 = 1 := by omega
  constructor
  · simp [madeCells, h1, e1]
  · simp [madeCells, h2, e2]
theorem make_pl (n : Nat) (hn : n ≤ 256) (w : World) :
    (Instr.makeSlice 34 (.int .i64 (n : Int)) (.int .i64 (n : Int))).run Tryd.prog w =
      .ok (.slice (some ⟨w.heap.size, 0, none⟩) n n) (w.alloc (.cells (madeCells #[.bool false, .int .i64 0] (n * 2)) 114)) := by
  obtain ⟨i, hi, hz⟩ : ∃ i : TypeInfo, Tryd.prog.info? 114 = some i ∧ i.zero = some (.agg #[.bool false, .int .i64 0]) ∧ i.bytes = 16 ∧ i.size = 2 := ⟨_, rfl, rfl, rfl, rfl⟩
  have h := run_make (P := Tryd.prog) w 34 114 i _ Tryd.underlying34 hi hz.1 .i64 .i64 (n : Int) (n : Int) (by omega) (by omega) (by rw [hz.2.1]; omega) (by omega)
  rw [hz.2.2, Int.toNat_natCast] at h
  exact h

/-- Rows as the cells of a row of rows. -/
def rcells (r n : Nat → Nat) : Nat → List Value
  | 0 => []
  | m + 1 => rcells r n m ++ [.slice (some ⟨r m, 0, none⟩) (n m) (n m)]
theorem rcells_len (r n : Nat → Nat) : ∀ m, (rcells r n m).length = m
  | 0 => rfl
  | m + 1 => by simp [rcells, rcells_len r n m]
theorem rcells_at (r n : Nat → Nat) : ∀ m j, j < m → (rcells r n m)[j]? = some (.slice (some ⟨r j, 0, none⟩) (n j) (n j))
  | m + 1, j, hj => by
    have hl := rcells_len r n m
    simp only [rcells]
    by_cases h : j < m
    · rw [List.getElem?_append_left (by omega)]; exact rcells_at r n m j h
    · obtain rfl : j = m := by omega
      rw [List.getElem?_append_right (by omega), hl]; simp
theorem rcells_congr {r r' n : Nat → Nat} : ∀ {m}, (∀ j, j < m → r j = r' j) → rcells r n m = rcells r' n m
  | 0, _ => rfl
  | m + 1, h => by simp only [rcells]; rw [rcells_congr (fun j hj => h j (by omega)), h m (by omega)]
theorem prow_info : ∃ i : TypeInfo, Tryd.prog.info? 34 = some i ∧ i.zero = some (.slice none 0 0) ∧ i.size = 1 ∧ i.bytes = 24 := ⟨_, rfl, rfl, rfl, rfl⟩
theorem grow_in {W a b : World} {o : Option Nat} (h : W.grownBy a none) (k : a.grownBy b o) (ho : ∀ x, o = some x → W.heap.size ≤ x) : W.grownBy b none :=
  ⟨k.os.trans h.os, k.tape.trans h.tape, k.output.trans h.output, Nat.le_trans h.size k.size, fun i hi _ => (k.block i (Nat.lt_of_lt_of_le hi h.size) (fun e => by have := ho i e.symm; omega)).trans (h.block i hi (by simp))⟩

set_option maxRecDepth 100000 in
set_option maxHeartbeats 4000000 in
theorem new3_any {w : World} {sa : Option Addr} {len cap : Nat} {zs : Nat → Int} (h : CapsAt w sa len cap zs) (hl : len ≤ 8) :
    Calls Tryd.prog 12 #[.slice sa len cap] w fun e w' => ∃ (ob cp : Nat) (r : Nat → Nat), e = .returned (.slice (some ⟨ob, 0, none⟩) len cp) ∧ w.grownBy w' none ∧ w'.ownsRow w.heap.size 34 1 (.slice (some ⟨ob, 0, none⟩) len cp) len (rcells r (nOf zs) len) ∧ ∀ i, i < len → PlAt w' (r i) (nOf zs i) (fun _ => false) (fun _ => 0) ∧ w.heap.size ≤ r i ∧ r i ≠ ob := by
  have HC := Lib.hid h
  obtain ⟨i0, hi0, hz0, hz1, hz2⟩ := prow_info
  have I0 := Lib.hid hi0
  have I1 := Lib.hid hz0
  have I2 := Lib.hid hz1
  have I3 := Lib.hid hz2
  have HN : Hid (∀ i, nOf zs i ≤ 256) := Lib.hid fun i => roomN_le _
  have HNE : Hid (∀ i, nOf zs i = (max 0 (min (zs i) 256)).toNat) := Lib.hid fun i => rfl
  clear hi0 hz0 hz1 hz2 h
  have k0 := World.grownBy_alloc w (.cells #[] 34) none
  have o0 : (w.alloc (.cells #[] 34)).ownsRow w.heap.size 34 1 (.slice (some ⟨w.heap.size, 0, none⟩) 0 0) 0 (rcells (fun _ => 0) (nOf zs) 0) := World.ownsRow_made w #[] 0 (Nat.le_refl _) (by decide) rfl
  go_enter Tryd.func12, Tryd.ntmps12
  go_wp2_with fail
  generalize w.alloc (.cells #[] 34) = w1 at *
  go_loopw [3, 4] (fun ov it wr => ∃ (j : Nat) (r : Nat → Nat) (v : Value), j ≤ len ∧ it = .int .i64 j ∧ v = ov ∧ wr.ownsRow w.heap.size 34 1 v j (rcells r (nOf zs) j) ∧ v ≠ .slice none 0 0 ∧ Hid (∀ i, i < j → PlAt wr (r i) (nOf zs i) (fun _ => false) (fun _ => 0) ∧ w.heap.size ≤ r i ∧ v.ownBlock ≠ some (r i)) ∧ w.grownBy wr none) (fun _ it _ => len - (intOf it).toNat)
  case atStart => exact ⟨0, _, _, Nat.zero_le _, rfl, rfl, o0, (by intro h; cases h), Lib.hid fun i hi => absurd hi (by omega), k0⟩
  case round =>
    obtain ⟨j, r, v, hj, rfl, hv, hown, hnn, hpl, hG⟩ := hrel
    subst hv
    clear o0 k0
    by_cases hlt : j < len
    · obtain ⟨b, o, rfl, hb, hc⟩ := HC.out.at_ (by omega)
      have hcell : wr.cell? ⟨b, o + j, none⟩ = some (.int .i64 (zs j)) := (hG.cell_far ⟨b, o + j, none⟩ hb (by simp)).trans (hc j hlt)
      have q1 : (j : Int) < (len : Int) := by omega
      have q2 : (j : Int) < 64 := by omega
      have hsz : w.heap.size ≤ wr.heap.size := hG.size
      have hn := HN.out j
      have hne := HNE.out j
      generalize hnj : nOf zs j = nj at *
      generalize zs j = z at *
      by_cases hz1 : z < 0
      · obtain rfl : nj = 0 := by omega
        clear hne
        have hmk : ∀ W : World, (Instr.makeSlice 34 (.int .i64 0) (.int .i64 0)).run Tryd.prog W = .ok (.slice (some ⟨W.heap.size, 0, none⟩) 0 0) (W.alloc (.cells (madeCells #[.bool false, .int .i64 0] (0 * 2)) 114)) := fun W => make_pl 0 (by decide) W
        have ka := World.grownBy_alloc wr (.cells (madeCells #[.bool false, .int .i64 0] (0 * 2)) 114) none
        have hsa : (wr.alloc (.cells (madeCells #[.bool false, .int .i64 0] (0 * 2)) 114)).heap.size = wr.heap.size + 1 := by simp
        have PN : PlAt (wr.alloc (.cells (madeCells #[.bool false, .int .i64 0] (0 * 2)) 114)) wr.heap.size 0 (fun _ => false) (fun _ => 0) := ⟨by simp, fun k hk => by rw [World.cell?_alloc_new]; exact (made_pl 0 k hk).1, fun k hk => by rw [World.cell?_alloc_new]; exact (made_pl 0 k hk).2⟩
        have kb := World.grownBy_alloc (wr.alloc (.cells (madeCells #[.bool false, .int .i64 0] (0 * 2)) 114)) (.cells #[.slice (some ⟨wr.heap.size, 0, none⟩) 0 0] 34) none
        have hOW := Lib.hid ((hown.alloc (.cells (madeCells #[.bool false, .int .i64 0] (0 * 2)) 114)).alloc (.cells #[.slice (some ⟨wr.heap.size, 0, none⟩) 0 0] 34))
        have HNW : Hid (∀ i u, [Value.slice (some ⟨wr.heap.size, 0, none⟩) 0 0][i]? = some u → ((wr.alloc (.cells (madeCells #[.bool false, .int .i64 0] (0 * 2)) 114)).alloc (.cells #[.slice (some ⟨wr.heap.size, 0, none⟩) 0 0] 34)).cell? ((⟨wr.heap.size + 1, 0, none⟩ : Addr).add i) = some u) := Lib.hid fun i u hu => by
          match i, hu with
          | 0, hu => simp at hu; subst hu; rw [← hsa]; exact World.cell?_alloc_new ..
        have KB := Lib.hid (ka.trans kb)
        have HP : Hid (∀ i, i < j → PlAt ((wr.alloc (.cells (madeCells #[.bool false, .int .i64 0] (0 * 2)) 114)).alloc (.cells #[.slice (some ⟨wr.heap.size, 0, none⟩) 0 0] 34)) (r i) (nOf zs i) (fun _ => false) (fun _ => 0) ∧ w.heap.size ≤ r i ∧ v.ownBlock ≠ some (r i) ∧ r i < wr.heap.size) := Lib.hid fun i hi => by
          obtain ⟨p1, p2, p3⟩ := hpl.out i hi
          exact ⟨p1.kept KB.out, p2, p3, p1.lt⟩
        have PN2 := Lib.hid (PN.kept kb)
        have HV : Hid (∀ x, v.ownBlock = some x → w.heap.size ≤ x ∧ x < wr.heap.size) := Lib.hid fun x hx => hown.lt x hx
        have HSZ : Hid (w.heap.size ≤ ((wr.alloc (.cells (madeCells #[.bool false, .int .i64 0] (0 * 2)) 114)).alloc (.cells #[.slice (some ⟨wr.heap.size, 0, none⟩) 0 0] 34)).heap.size) := Lib.hid (Nat.le_trans hsz KB.out.size)
        have HS2 : Hid (((wr.alloc (.cells (madeCells #[.bool false, .int .i64 0] (0 * 2)) 114)).alloc (.cells #[.slice (some ⟨wr.heap.size, 0, none⟩) 0 0] 34)).heap.size = wr.heap.size + 1 + 1) := Lib.hid (by simp)
        have GG := Lib.hid (hG.trans KB.out)
        have H0 : Hid (nOf zs j = 0) := Lib.hid (by rw [hnj])
        clear hown hpl hc hG ka kb PN hsa HNE HN
        go_wp2_with (
          at_builtin
          refine wpList_append_own_at _ rfl _ _ 27 rfl w.heap.size 34 i0 (.slice none 0 0) 1 24 Tryd.underlying27 I0.out I1.out I2.out I3.out rfl (by decide) v j (rcells r (nOf zs) j) rfl hOW.out ⟨wr.heap.size + 1, 0, none⟩ 1 1 [.slice (some ⟨wr.heap.size, 0, none⟩) 0 0] rfl rfl HNW.out (fun u hu => by simp at hu; subst hu; rfl) (by unfold maxLen; omega) (by omega) HSZ.out ?_
          intro v' w5 hown' hgrow hnil hat
          have O := Lib.hid hown'
          have GR := Lib.hid hgrow
          have NN : Hid (v' ≠ .slice none 0 0) := Lib.hid (fun h => hnn (hnil.1 h).1)
          have AT := Lib.hid hat
          clear hgrow hnil hat hown')
        go_roundw
        case rel =>
          have hw5 := GR.out
          refine ⟨j + 1, fun i => if i = j then wr.heap.size else r i, v', by omega, by go_num, rfl, ?_, NN.out, Lib.hid fun i hi => ?_, grow_in GG.out GR.out (fun x hx => (HV.out x hx).1)⟩
          · have e := O.out
            simp only [rcells]
            rw [rcells_congr (r' := r) (fun q hq => by simp; omega), H0.out]
            simpa using e
          · have hat : v'.ownBlock = v.ownBlock ∨ v'.ownBlock = some _ := AT.out
            rw [HS2.out] at hat
            have hvn : v.ownBlock ≠ some wr.heap.size := fun h => by have := (HV.out _ h).2; omega
            by_cases e : i = j
            · subst e
              simp only [if_true]
              rw [H0.out]
              refine ⟨⟨Nat.lt_of_lt_of_le PN2.out.lt hw5.size, fun k hk => (hw5.cell_far ⟨wr.heap.size, _, none⟩ PN2.out.lt (Ne.symm hvn)).trans (PN2.out.is k hk), fun k hk => (hw5.cell_far ⟨wr.heap.size, _, none⟩ PN2.out.lt (Ne.symm hvn)).trans (PN2.out.val k hk)⟩, hsz, fun h => ?_⟩
              rcases hat with h2 | h2
              · exact hvn (by rw [← h2]; exact h)
              · rw [h2] at h
                have : wr.heap.size + 1 + 1 = wr.heap.size := by simpa using h
                omega
            · simp only [e, if_false]
              obtain ⟨p1, p2, p3, p4⟩ := HP.out i (by omega)
              refine ⟨⟨Nat.lt_of_lt_of_le p1.lt hw5.size, fun k hk => (hw5.cell_far ⟨r i, _, none⟩ p1.lt (Ne.symm p3)).trans (p1.is k hk), fun k hk => (hw5.cell_far ⟨r i, _, none⟩ p1.lt (Ne.symm p3)).trans (p1.val k hk)⟩, p2, fun h => ?_⟩
              rcases hat with h2 | h2
              · exact p3 (by rw [← h2]; exact h)
              · rw [h2] at h
                have : wr.heap.size + 1 + 1 = r i := by simpa using h
                omega
        case measure => simp [intOf]; omega
      · by_cases hz2 : 256 < z
        · obtain rfl : nj = 256 := by omega
          clear hne
          have hmk : ∀ W : World, (Instr.makeSlice 34 (.int .i64 256) (.int .i64 256)).run Tryd.prog W = .ok (.slice (some ⟨W.heap.size, 0, none⟩) 256 256) (W.alloc (.cells (madeCells #[.bool false, .int .i64 0] (256 * 2)) 114)) := fun W => make_pl 256 (by decide) W
          have ka := World.grownBy_alloc wr (.cells (madeCells #[.bool false, .int .i64 0] (256 * 2)) 114) none
          have hsa : (wr.alloc (.cells (madeCells #[.bool false, .int .i64 0] (256 * 2)) 114)).heap.size = wr.heap.size + 1 := by simp
          have PN : PlAt (wr.alloc (.cells (madeCells #[.bool false, .int .i64 0] (256 * 2)) 114)) wr.heap.size 256 (fun _ => false) (fun _ => 0) := ⟨by simp, fun k hk => by rw [World.cell?_alloc_new]; exact (made_pl 256 k hk).1, fun k hk => by rw [World.cell?_alloc_new]; exact (made_pl 256 k hk).2⟩
          have kb := World.grownBy_alloc (wr.alloc (.cells (madeCells #[.bool false, .int .i64 0] (256 * 2)) 114)) (.cells #[.slice (some ⟨wr.heap.size, 0, none⟩) 256 256] 34) none
          have hOW := Lib.hid ((hown.alloc (.cells (madeCells #[.bool false, .int .i64 0] (256 * 2)) 114)).alloc (.cells #[.slice (some ⟨wr.heap.size, 0, none⟩) 256 256] 34))
          have HNW : Hid (∀ i u, [Value.slice (some ⟨wr.heap.size, 0, none⟩) 256 256][i]? = some u → ((wr.alloc (.cells (madeCells #[.bool false, .int .i64 0] (256 * 2)) 114)).alloc (.cells #[.slice (some ⟨wr.heap.size, 0, none⟩) 256 256] 34)).cell? ((⟨wr.heap.size + 1, 0, none⟩ : Addr).add i) = some u) := Lib.hid fun i u hu => by
            match i, hu with
            | 0, hu => simp at hu; subst hu; rw [← hsa]; exact World.cell?_alloc_new ..
          have KB := Lib.hid (ka.trans kb)
          have HP : Hid (∀ i, i < j → PlAt ((wr.alloc (.cells (madeCells #[.bool false, .int .i64 0] (256 * 2)) 114)).alloc (.cells #[.slice (some ⟨wr.heap.size, 0, none⟩) 256 256] 34)) (r i) (nOf zs i) (fun _ => false) (fun _ => 0) ∧ w.heap.size ≤ r i ∧ v.ownBlock ≠ some (r i) ∧ r i < wr.heap.size) := Lib.hid fun i hi => by
            obtain ⟨p1, p2, p3⟩ := hpl.out i hi
            exact ⟨p1.kept KB.out, p2, p3, p1.lt⟩
          have PN2 := Lib.hid (PN.kept kb)
          have HV : Hid (∀ x, v.ownBlock = some x → w.heap.size ≤ x ∧ x < wr.heap.size) := Lib.hid fun x hx => hown.lt x hx
          have HSZ : Hid (w.heap.size ≤ ((wr.alloc (.cells (madeCells #[.bool false, .int .i64 0] (256 * 2)) 114)).alloc (.cells #[.slice (some ⟨wr.heap.size, 0, none⟩) 256 256] 34)).heap.size) := Lib.hid (Nat.le_trans hsz KB.out.size)
          have HS2 : Hid (((wr.alloc (.cells (madeCells #[.bool false, .int .i64 0] (256 * 2)) 114)).alloc (.cells #[.slice (some ⟨wr.heap.size, 0, none⟩) 256 256] 34)).heap.size = wr.heap.size + 1 + 1) := Lib.hid (by simp)
          have GG := Lib.hid (hG.trans KB.out)
          have H256 : Hid (nOf zs j = 256) := Lib.hid (by rw [hnj])
          clear hown hpl hc hG ka kb PN hsa HNE HN
          go_wp2_with (
            at_builtin
            refine wpList_append_own_at _ rfl _ _ 27 rfl w.heap.size 34 i0 (.slice none 0 0) 1 24 Tryd.underlying27 I0.out I1.out I2.out I3.out rfl (by decide) v j (rcells r (nOf zs) j) rfl hOW.out ⟨wr.heap.size + 1, 0, none⟩ 1 1 [.slice (some ⟨wr.heap.size, 0, none⟩) 256 256] rfl rfl HNW.out (fun u hu => by simp at hu; subst hu; rfl) (by unfold maxLen; omega) (by omega) HSZ.out ?_
            intro v' w5 hown' hgrow hnil hat
            have O := Lib.hid hown'
            have GR := Lib.hid hgrow
            have NN : Hid (v' ≠ .slice none 0 0) := Lib.hid (fun h => hnn (hnil.1 h).1)
            have AT := Lib.hid hat
            clear hgrow hnil hat hown')
          go_roundw
          case rel =>
            have hw5 := GR.out
            refine ⟨j + 1, fun i => if i = j then wr.heap.size else r i, v', by omega, by go_num, rfl, ?_, NN.out, Lib.hid fun i hi => ?_, grow_in GG.out GR.out (fun x hx => (HV.out x hx).1)⟩
            · have e := O.out
              simp only [rcells]
              rw [rcells_congr (r' := r) (fun q hq => by simp; omega), H256.out]
              simpa using e
            · have hat : v'.ownBlock = v.ownBlock ∨ v'.ownBlock = some _ := AT.out
              rw [HS2.out] at hat
              have hvn : v.ownBlock ≠ some wr.heap.size := fun h => by have := (HV.out _ h).2; omega
              by_cases e : i = j
              · subst e
                simp only [if_true]
                rw [H256.out]
                refine ⟨⟨Nat.lt_of_lt_of_le PN2.out.lt hw5.size, fun k hk => (hw5.cell_far ⟨wr.heap.size, _, none⟩ PN2.out.lt (Ne.symm hvn)).trans (PN2.out.is k hk), fun k hk => (hw5.cell_far ⟨wr.heap.size, _, none⟩ PN2.out.lt (Ne.symm hvn)).trans (PN2.out.val k hk)⟩, hsz, fun h => ?_⟩
                rcases hat with h2 | h2
                · exact hvn (by rw [← h2]; exact h)
                · rw [h2] at h
                  have : wr.heap.size + 1 + 1 = wr.heap.size := by simpa using h
                  omega
              · simp only [e, if_false]
                obtain ⟨p1, p2, p3, p4⟩ := HP.out i (by omega)
                refine ⟨⟨Nat.lt_of_lt_of_le p1.lt hw5.size, fun k hk => (hw5.cell_far ⟨r i, _, none⟩ p1.lt (Ne.symm p3)).trans (p1.is k hk), fun k hk => (hw5.cell_far ⟨r i, _, none⟩ p1.lt (Ne.symm p3)).trans (p1.val k hk)⟩, p2, fun h => ?_⟩
                rcases hat with h2 | h2
                · exact p3 (by rw [← h2]; exact h)
                · rw [h2] at h
                  have : wr.heap.size + 1 + 1 = r i := by simpa using h
                  omega
          case measure => simp [intOf]; omega
        · obtain rfl : z = (nj : Int) := by omega
          clear hne
          have hmk : ∀ W : World, (Instr.makeSlice 34 (.int .i64 (nj : Nat)) (.int .i64 (nj : Nat))).run Tryd.prog W = .ok (.slice (some ⟨W.heap.size, 0, none⟩) nj nj) (W.alloc (.cells (madeCells #[.bool false, .int .i64 0] (nj * 2)) 114)) := fun W => make_pl nj hn W
          have ka := World.grownBy_alloc wr (.cells (madeCells #[.bool false, .int .i64 0] (nj * 2)) 114) none
          have hsa : (wr.alloc (.cells (madeCells #[.bool false, .int .i64 0] (nj * 2)) 114)).heap.size = wr.heap.size + 1 := by simp
          have PN : PlAt (wr.alloc (.cells (madeCells #[.bool false, .int .i64 0] (nj * 2)) 114)) wr.heap.size nj (fun _ => false) (fun _ => 0) := ⟨by simp, fun k hk => by rw [World.cell?_alloc_new]; exact (made_pl nj k hk).1, fun k hk => by rw [World.cell?_alloc_new]; exact (made_pl nj k hk).2⟩
          have kb := World.grownBy_alloc (wr.alloc (.cells (madeCells #[.bool false, .int .i64 0] (nj * 2)) 114)) (.cells #[.slice (some ⟨wr.heap.size, 0, none⟩) nj nj] 34) none
          have hOW := Lib.hid ((hown.alloc (.cells (madeCells #[.bool false, .int .i64 0] (nj * 2)) 114)).alloc (.cells #[.slice (some ⟨wr.heap.size, 0, none⟩) nj nj] 34))
          have HNW : Hid (∀ i u, [Value.slice (some ⟨wr.heap.size, 0, none⟩) nj nj][i]? = some u → ((wr.alloc (.cells (madeCells #[.bool false, .int .i64 0] (nj * 2)) 114)).alloc (.cells #[.slice (some ⟨wr.heap.size, 0, none⟩) nj nj] 34)).cell? ((⟨wr.heap.size + 1, 0, none⟩ : Addr).add i) = some u) := Lib.hid fun i u hu => by
            match i, hu with
            | 0, hu => simp at hu; subst hu; rw [← hsa]; exact World.cell?_alloc_new ..
          have KB := Lib.hid (ka.trans kb)
          have HP : Hid (∀ i, i < j → PlAt ((wr.alloc (.cells (madeCells #[.bool false, .int .i64 0] (nj * 2)) 114)).alloc (.cells #[.slice (some ⟨wr.heap.size, 0, none⟩) nj nj] 34)) (r i) (nOf zs i) (fun _ => false) (fun _ => 0) ∧ w.heap.size ≤ r i ∧ v.ownBlock ≠ some (r i) ∧ r i < wr.heap.size) := Lib.hid fun i hi => by
            obtain ⟨p1, p2, p3⟩ := hpl.out i hi
            exact ⟨p1.kept KB.out, p2, p3, p1.lt⟩
          have PN2 := Lib.hid (PN.kept kb)
          have HV : Hid (∀ x, v.ownBlock = some x → w.heap.size ≤ x ∧ x < wr.heap.size) := Lib.hid fun x hx => hown.lt x hx
          have HSZ : Hid (w.heap.size ≤ ((wr.alloc (.cells (madeCells #[.bool false, .int .i64 0] (nj * 2)) 114)).alloc (.cells #[.slice (some ⟨wr.heap.size, 0, none⟩) nj nj] 34)).heap.size) := Lib.hid (Nat.le_trans hsz KB.out.size)
          have HS2 : Hid (((wr.alloc (.cells (madeCells #[.bool false, .int .i64 0] (nj * 2)) 114)).alloc (.cells #[.slice (some ⟨wr.heap.size, 0, none⟩) nj nj] 34)).heap.size = wr.heap.size + 1 + 1) := Lib.hid (by simp)
          have GG := Lib.hid (hG.trans KB.out)
          have Hnj : Hid (nOf zs j = nj) := Lib.hid (by rw [hnj])
          clear hown hpl hc hG ka kb PN hsa HNE HN
          go_wp2_with (
            at_builtin
            refine wpList_append_own_at _ rfl _ _ 27 rfl w.heap.size 34 i0 (.slice none 0 0) 1 24 Tryd.underlying27 I0.out I1.out I2.out I3.out rfl (by decide) v j (rcells r (nOf zs) j) rfl hOW.out ⟨wr.heap.size + 1, 0, none⟩ 1 1 [.slice (some ⟨wr.heap.size, 0, none⟩) nj nj] rfl rfl HNW.out (fun u hu => by simp at hu; subst hu; rfl) (by unfold maxLen; omega) (by omega) HSZ.out ?_
            intro v' w5 hown' hgrow hnil hat
            have O := Lib.hid hown'
            have GR := Lib.hid hgrow
            have NN : Hid (v' ≠ .slice none 0 0) := Lib.hid (fun h => hnn (hnil.1 h).1)
            have AT := Lib.hid hat
            clear hgrow hnil hat hown')
          go_roundw
          case rel =>
            have hw5 := GR.out
            refine ⟨j + 1, fun i => if i = j then wr.heap.size else r i, v', by omega, by go_num, rfl, ?_, NN.out, Lib.hid fun i hi => ?_, grow_in GG.out GR.out (fun x hx => (HV.out x hx).1)⟩
            · have e := O.out
              simp only [rcells]
              rw [rcells_congr (r' := r) (fun q hq => by simp; omega), Hnj.out]
              simpa using e
            · have hat : v'.ownBlock = v.ownBlock ∨ v'.ownBlock = some _ := AT.out
              rw [HS2.out] at hat
              have hvn : v.ownBlock ≠ some wr.heap.size := fun h => by have := (HV.out _ h).2; omega
              by_cases e : i = j
              · subst e
                simp only [if_true]
                rw [Hnj.out]
                refine ⟨⟨Nat.lt_of_lt_of_le PN2.out.lt hw5.size, fun k hk => (hw5.cell_far ⟨wr.heap.size, _, none⟩ PN2.out.lt (Ne.symm hvn)).trans (PN2.out.is k hk), fun k hk => (hw5.cell_far ⟨wr.heap.size, _, none⟩ PN2.out.lt (Ne.symm hvn)).trans (PN2.out.val k hk)⟩, hsz, fun h => ?_⟩
                rcases hat with h2 | h2
                · exact hvn (by rw [← h2]; exact h)
                · rw [h2] at h
                  have : wr.heap.size + 1 + 1 = wr.heap.size := by simpa using h
                  omega
              · simp only [e, if_false]
                obtain ⟨p1, p2, p3, p4⟩ := HP.out i (by omega)
                refine ⟨⟨Nat.lt_of_lt_of_le p1.lt hw5.size, fun k hk => (hw5.cell_far ⟨r i, _, none⟩ p1.lt (Ne.symm p3)).trans (p1.is k hk), fun k hk => (hw5.cell_far ⟨r i, _, none⟩ p1.lt (Ne.symm p3)).trans (p1.val k hk)⟩, p2, fun h => ?_⟩
                rcases hat with h2 | h2
                · exact p3 (by rw [← h2]; exact h)
                · rw [h2] at h
                  have : wr.heap.size + 1 + 1 = r i := by simpa using h
                  omega
          case measure => simp [intOf]; omega
    · obtain rfl : j = len := by omega
      have q1 : ¬ (j : Int) < (j : Int) := by omega
      go_wp2
      go_ret
      rcases hown.2 with ⟨h, _⟩ | ⟨g, cp, cur, rfl, h⟩
      · exact absurd h hnn
      · exact ⟨g, cp, rfl, hG, r, hown, fun i hi => by
          obtain ⟨p1, p2, p3⟩ := hpl.out i hi
          exact ⟨p1, p2, fun e => p3 (by rw [e]; rfl)⟩⟩
end Go.Proofs.YtchookgdajkipaaDoor
