/-
  Contracts of nightjarref04, over this seat's translation: Pull.
-/
import Derived.Test.YtbkjdbimkofceaaRef4b
namespace Go.Proofs.Ytbkjdbimkofceaa
open Go.RowKit Go.Lib
set_option maxRecDepth 100000

theorem take_filter_step {l : List Nat} {k j : Nat} (h : j < l.length) : (l.take (j + 1)).filter (fun x => !decide (x = k)) = if l[j] = k then (l.take j).filter (fun x => !decide (x = k)) else (l.take j).filter (fun x => !decide (x = k)) ++ [l[j]] := by
  rw [List.take_succ_eq_append_getElem h, List.filter_append]
  by_cases e : l[j] = k <;> simp [e]

set_option maxHeartbeats 4000000 in
theorem rpull4_ok (i k : Nat) {w : World} {B : Nat → Prop} {m n : Nat} {v : Value} {L : Nat → List Nat} (H : Rows4 w B v m L) (hm : m ≤ 4096) (hl : ∀ i, i < m → (L i).length ≤ 4096) (hB : ∀ b, w.heap.size ≤ b → B b) (hi : i < m) (hk : k ∈ L i) (hf : ∀ j, j < m → k ∈ L j → j = i) :
    Calls Try.prog 13 #[.agg #[.int .i64 (n : Nat), v], .int .i64 k] w fun e w' => ∃ v', e = .returned (.tuple #[.agg #[.int .i64 (n : Nat), v'], .bool true]) ∧ w.grownBy w' none ∧ Rows4 w' B v' m (upL L i ((L i).filter fun x => !decide (x = k))) := by
  have H0 := H
  have HBB := Lib.hid hB
  clear hB
  obtain ⟨R, cp, V, rfl, h1, h2, hc⟩ := H
  obtain ⟨j0, a0, a1, a2, a3⟩ := row_info
  have I0 := Lib.hid a0
  have I1 := Lib.hid a1
  have I2 := Lib.hid a2
  have I3 := Lib.hid a3
  obtain ⟨j1, b0, b1, b2, b3⟩ := int_info
  have J0 := Lib.hid b0
  have J1 := Lib.hid b1
  have J2 := Lib.hid b2
  have J3 := Lib.hid b3
  clear a0 a1 a2 a3 b0 b1 b2 b3
  have ka := World.grownBy_alloc w (.cells #[.int .i64 (n : Nat), .slice (some ⟨R, 0, none⟩) m cp] 30) none
  have kb := World.grownBy_alloc (w.alloc (.cells #[.int .i64 (n : Nat), .slice (some ⟨R, 0, none⟩) m cp] 30)) (.cells #[.int .i64 0, .slice none 0 0] 30) none
  have kab := ka.trans kb
  have o0 : ((w.alloc (.cells #[.int .i64 (n : Nat), .slice (some ⟨R, 0, none⟩) m cp] 30)).alloc (.cells #[.int .i64 0, .slice none 0 0] 30)).cell? ⟨w.heap.size, 0, none⟩ = some (.int .i64 (n : Nat)) := by simp
  have o1 : ((w.alloc (.cells #[.int .i64 (n : Nat), .slice (some ⟨R, 0, none⟩) m cp] 30)).alloc (.cells #[.int .i64 0, .slice none 0 0] 30)).cell? ⟨w.heap.size, 0 + 1, none⟩ = some (.slice (some ⟨R, 0, none⟩) m cp) := by simp
  have o1' : ((w.alloc (.cells #[.int .i64 (n : Nat), .slice (some ⟨R, 0, none⟩) m cp] 30)).alloc (.cells #[.int .i64 0, .slice none 0 0] 30)).cell? ⟨w.heap.size, 1, none⟩ = some (.slice (some ⟨R, 0, none⟩) m cp) := by simp
  have p0 : ((w.alloc (.cells #[.int .i64 (n : Nat), .slice (some ⟨R, 0, none⟩) m cp] 30)).alloc (.cells #[.int .i64 0, .slice none 0 0] 30)).cell? ⟨w.heap.size + 1, 0, none⟩ = some (.int .i64 0) := by simp
  have p1 : ((w.alloc (.cells #[.int .i64 (n : Nat), .slice (some ⟨R, 0, none⟩) m cp] 30)).alloc (.cells #[.int .i64 0, .slice none 0 0] 30)).cell? ⟨w.heap.size + 1, 0 + 1, none⟩ = some (.slice none 0 0) := by simp
  have f0 : ∀ j, ((w.alloc (.cells #[.int .i64 (n : Nat), .slice (some ⟨R, 0, none⟩) m cp] 30)).alloc (.cells #[.int .i64 0, .slice none 0 0] 30)).frozen? ⟨w.heap.size + 1, j, none⟩ = false := fun j => by simp
  have hs0 : ((w.alloc (.cells #[.int .i64 (n : Nat), .slice (some ⟨R, 0, none⟩) m cp] 30)).alloc (.cells #[.int .i64 0, .slice none 0 0] 30)).heap.size = w.heap.size + 2 := by simp
  have CO := Lib.hid (ron_any (k : Int) (n : Nat) (H0.kept kab) hm hl)
  have KAB := Lib.hid kab
  have HC := Lib.hid hc
  have HL := Lib.hid hl
  have HF := Lib.hid hf
  have q1 : (i : Int) < (m : Int) := by omega
  have z1 : decide ((i : Int) < 0) = false := by simp
  have HK := Lib.hid hk
  clear ka kb kab H0 hc hl hf hk
  go_enter Try.func13, Try.ntmps13
  go_wp2_with fail
  refine CO.out.mono ?_
  rintro e w2 ⟨k2, hres⟩
  obtain rfl : e = .returned (.int .i64 (i : Nat)) := by
    rcases hres with ⟨j, he, hj, x, hx, hxk⟩ | ⟨_, hno⟩
    · have e1 : x = k := by omega
      subst e1
      have e2 := HF.out j hj hx
      subst e2
      exact he
    · exact absurd rfl (hno i hi k HK.out)
  have s2 := k2.size
  rw [hs0] at s2
  have o0 := (k2.cell_far ⟨w.heap.size, 0, none⟩ (show w.heap.size < _ by omega) (by simp)).trans o0
  have o1' := (k2.cell_far ⟨w.heap.size, 1, none⟩ (show w.heap.size < _ by omega) (by simp)).trans o1'
  have p0 := (k2.cell_far ⟨w.heap.size + 1, 0, none⟩ (show w.heap.size + 1 < _ by omega) (by simp)).trans p0
  have p1 := (k2.cell_far ⟨w.heap.size + 1, 0 + 1, none⟩ (show w.heap.size + 1 < _ by omega) (by simp)).trans p1
  have f0 : ∀ j, w2.frozen? ⟨w.heap.size + 1, j, none⟩ = false := fun j => (k2.frozen_far ⟨w.heap.size + 1, j, none⟩ (show w.heap.size + 1 < _ by omega) (by simp)).trans (f0 j)
  have K2 := Lib.hid (KAB.out.trans k2)
  clear hres CO o1 k2 KAB hs0
  have kc := World.grownBy_alloc w2 (.cells #[] 57) none
  have h0r : (w2.alloc (.cells #[] 57)).ownsRow w2.heap.size 57 1 (.slice (some ⟨w2.heap.size, 0, none⟩) 0 0) 0 [] := World.ownsRow_made w2 #[] 0 (Nat.le_refl _) (by decide) rfl
  have SR := Lib.hid (rows_src (w := w2.alloc (.cells #[] 57)) (cp := cp) (fun i hi => ((K2.out.trans kc).cell_far ⟨R, i, none⟩ h2 (by simp)).trans (HC.out i hi).1) (fun i hi => readsB_one (HC.out i hi).2))
  have KC := Lib.hid kc
  have o1c := (kc.cell_far ⟨w.heap.size, 1, none⟩ (show w.heap.size < _ by omega) (by simp)).trans o1'
  clear kc
  go_upto_region 5 with (
    at_builtin
    refine wpList_append_src _ rfl _ _ 28 rfl w2.heap.size 57 j0 (.slice none 0 0) 1 24 Try.underlying28 I0.out I1.out I2.out I3.out rfl (by decide) _ _ _ rfl h0r _ m _ rfl SR.out (by unfold maxLen; omega) (by omega) (by simp) ?_
    intro v5 w5 hown hgrow hnil hat
    have hgr : (w2.alloc (.cells #[] 57)).grownBy w5 (some w2.heap.size) := hgrow
    have hnn : v5 ≠ .slice none 0 0 := fun h => absurd (hnil.1 h).1 (fun e => by cases e)
    obtain ⟨r5, cp5, rfl, r5a, r5b, r5c, r5d⟩ := srow_of_owns hown hnn
    clear hown hgrow hnil hat hnn h0r)
  have K5 := Lib.hid (grow_on (K2.out.trans KC.out) hgr (by omega))
  have c5 : ∀ j, j < m → w5.cell? ⟨r5, j, none⟩ = some (V j) := fun j hj => by rw [r5c j (by omega)]; simp [hj]
  have FK : Hid (∀ b j, b < w2.heap.size → w5.cell? ⟨b, j, none⟩ = w2.cell? ⟨b, j, none⟩) := Lib.hid fun b j hb => (hgr.cell_far ⟨b, j, none⟩ (show b < _ by simp; omega) (show (some b : Option Nat) ≠ some w2.heap.size from fun e => by cases e; omega)).trans (KC.out.cell_far ⟨b, j, none⟩ hb (by simp))
  have FF : Hid (∀ b j, b < w2.heap.size → w5.frozen? ⟨b, j, none⟩ = w2.frozen? ⟨b, j, none⟩) := Lib.hid fun b j hb => (hgr.frozen_far ⟨b, j, none⟩ (show b < _ by simp; omega) (show (some b : Option Nat) ≠ some w2.heap.size from fun e => by cases e; omega)).trans (KC.out.frozen_far ⟨b, j, none⟩ hb (by simp))
  have s5 : w2.heap.size < w5.heap.size := Nat.lt_of_lt_of_le (by simp) hgr.size
  clear hgr r5c SR KC o1c
  have ke := World.grownBy_alloc w5 (.cells #[] 3) none
  have hli := HL.out i hi
  have row6 : RowOf (w5.alloc (.cells #[] 3)) w5.heap.size w5.heap.size 0 [] := lit_room w5 _ (Nat.le_refl _)
  have CI : Hid (∀ v : World, w5.grownBy v none → v.cell? ⟨r5, i, none⟩ = some (V i)) := Lib.hid fun v kv => (kv.cell_far ⟨r5, i, none⟩ r5b (by simp)).trans (c5 i hi)
  obtain ⟨aV, capV, hV, hrd⟩ := ((HC.out i hi).2.kept K5.out).reads
  have HRD := Lib.hid hrd
  have HVE := Lib.hid hV
  have HFI : Hid (∀ v : World, w5.grownBy v none → v.frozen? ⟨r5, i, none⟩ = false) := Lib.hid fun v kv => (kv.frozen_far ⟨r5, i, none⟩ r5b (by simp)).trans (r5d i (by omega))
  have R6 := Lib.hid row6
  have KE := Lib.hid ke
  clear ke row6 hrd hV
  go_wp2_with fail
  generalize hw6 : w5.alloc (.cells #[] 3) = w6 at *
  go_loopw [8, 9] (fun ov it wr => ∃ (j r c : Nat), j ≤ (L i).length ∧ it = .int .i64 j ∧ ov = .slice (some ⟨r, 0, none⟩) (((L i).take j).filter fun x => !decide (x = k)).length c ∧ Hid (RowOf wr w5.heap.size r c (((L i).take j).filter fun x => !decide (x = k))) ∧ w5.grownBy wr none) (fun _ it _ => (L i).length - (intOf it).toNat)
  case atStart => exact ⟨0, _, _, Nat.zero_le _, rfl, rfl, R6, KE.out⟩
  case round =>
    obtain ⟨j, r, c, hj, rfl, rfl, row, k5⟩ := hrel
    have cV := CI.out wr k5
    have hVE := HVE.out
    rw [hVE] at cV
    clear R6
    by_cases hlt : j < (L i).length
    · have qj : (j : Int) < ((L i).length : Int) := by omega
      have qj0 : ¬ (j : Int) < 0 := by omega
      have st := take_filter_step (k := k) hlt
      have hF40 : (((L i).take j).filter fun x => !decide (x = k)).length ≤ 4096 := by
        have h1 := List.length_filter_le (fun x => !decide (x = k)) ((L i).take j)
        rw [List.length_take] at h1
        omega
      obtain ⟨bV, oV, rfl, hb1, hcell⟩ := HRD.out j hlt
      have cx := (k5.cell_far ⟨bV, oV + j, none⟩ hb1 (by simp)).trans hcell
      have ST := Lib.hid st
      clear st hcell
      generalize ((L i).take j).filter (fun x => !decide (x = k)) = F at *
      by_cases he : (L i)[j] = k
      · have hS : ((L i).take (j + 1)).filter (fun x => !decide (x = k)) = F := by rw [ST.out, if_pos he]
        rw [he] at cx
        have HS := Lib.hid hS
        clear hS he ST
        go_wp2
        go_roundw
        case rel => exact ⟨j + 1, r, c, by omega, by go_num, by rw [HS.out], by rw [HS.out]; exact row, k5⟩
        case measure => simp [intOf]; omega
      · have hS : ((L i).take (j + 1)).filter (fun x => !decide (x = k)) = F ++ [(L i)[j]] := by rw [ST.out, if_neg he]
        have qe : ((((L i)[j] : Nat) : Int) == (k : Int)) = false := by rw [beq_eq_false_iff_ne]; omega
        have qe' : ¬ (((L i)[j] : Nat) : Int) = (k : Int) := by omega
        generalize (L i)[j] = x at *
        have HS := Lib.hid hS
        have rl := row.out.lt
        have rw5 := row.out
        unfold RowOf at rw5
        clear hS he ST
        go_wp2_with (
          at_builtin
          refine wpList_append_src _ rfl _ _ 57 rfl w5.heap.size 3 j1 (.int .i64 0) 1 8 Try.underlying57 J0.out J1.out J2.out J3.out rfl (by decide) _ _ _ rfl (World.ownsRow.alloc rw5 _) _ 1 [.int .i64 (x : Int)] rfl (Or.inl ⟨⟨wr.heap.size, 0, none⟩, 1, rfl, rfl, cell_one_new _ _ _, fun x hx => by simp at hx; subst hx; rfl⟩) (by unfold maxLen; omega) (by omega) (by simp; omega) ?_
          intro v9 w9 hown hgrow hnil hat
          have hgr9 : (wr.alloc (.cells #[.int .i64 (x : Int)] 3)).grownBy w9 (some r) := hgrow
          have hnn : v9 ≠ .slice none 0 0 := fun h => absurd (hnil.1 h).2 (by decide)
          have k9 := Lib.hid (grow_on (k5.trans (World.grownBy_alloc wr (.cells #[.int .i64 (x : Int)] 3) none)) hgr9 (by omega))
          obtain ⟨r9, cp9, rfl, row9⟩ := row_of_owns hown (F := F ++ [x]) (by simp) (by rw [ints_snoc]) hnn
          have R9 := Lib.hid row9
          clear hown hgrow hnil hat hnn hgr9 row9 rw5)
        exact ⟨⟨j + 1, r9, cp9, by omega, by go_num, by rw [HS.out]; simp, by rw [HS.out]; exact R9, k9.out⟩, by simp [intOf]; omega⟩
    · have hje : j = (L i).length := by omega
      subst hje
      have qj : ¬ ((L i).length : Int) < ((L i).length : Int) := by omega
      rw [List.take_length] at row ⊢
      generalize hFl : (L i).filter (fun x => !decide (x = k)) = Fl at *
      have row9 := row.out
      have r9l := row9.lt
      have s9' := k5.size
      have x0 : wr.cell? ⟨w.heap.size, 0, none⟩ = some (.int .i64 (n : Nat)) := (k5.cell_far ⟨w.heap.size, 0, none⟩ (show w.heap.size < _ by omega) (by simp)).trans ((FK.out _ _ (by omega)).trans o0)
      have y0 : wr.cell? ⟨w.heap.size + 1, 0, none⟩ = some (.int .i64 0) := (k5.cell_far ⟨w.heap.size + 1, 0, none⟩ (show w.heap.size + 1 < _ by omega) (by simp)).trans ((FK.out _ _ (by omega)).trans p0)
      have y1 : wr.cell? ⟨w.heap.size + 1, 0 + 1, none⟩ = some (.slice none 0 0) := (k5.cell_far ⟨w.heap.size + 1, 0 + 1, none⟩ (show w.heap.size + 1 < _ by omega) (by simp)).trans ((FK.out _ _ (by omega)).trans p1)
      have y2 : ∀ j, wr.frozen? ⟨w.heap.size + 1, j, none⟩ = false := fun j => (k5.frozen_far ⟨w.heap.size + 1, j, none⟩ (show w.heap.size + 1 < _ by omega) (by simp)).trans ((FF.out _ _ (by omega)).trans (f0 j))
      have c9a : Hid (∀ j, j < m → wr.cell? ⟨r5, j, none⟩ = some (V j)) := Lib.hid fun j hj => (k5.cell_far ⟨r5, j, none⟩ r5b (by simp)).trans (c5 j hj)
      have e9 := HFI.out wr k5
      have R9 := Lib.hid row9
      have K9 := Lib.hid (K5.out.trans k5)
      have r5b9 := Nat.lt_of_lt_of_le r5b s9'
      clear FK FF KE o0 o1' p0 p1 f0 c5 row9 K5 K2 r5d row HRD HVE hVE CI HFI
      go_upto_region 12 with fail
      have ne1 : w.heap.size ≠ r5 := by omega
      have ne2 : w.heap.size + 1 ≠ r5 := by omega
      have ne3 : r ≠ r5 := by omega
      have ne4 : r ≠ w.heap.size + 1 := by omega
      obtain ⟨v9, hv9⟩ : ∃ v9, v9 = Value.slice (some ⟨r, 0, none⟩) Fl.length c := ⟨_, rfl⟩
      rw [← hv9]
      have x0' : (wr.setCell ⟨r5, i, none⟩ v9).cell? ⟨w.heap.size, 0, none⟩ = some (.int .i64 (n : Nat)) := (set_far _ _ _ _ _ _ (Or.inl ne1)).trans x0
      have y0' : (wr.setCell ⟨r5, i, none⟩ v9).cell? ⟨w.heap.size + 1, 0, none⟩ = some (.int .i64 0) := (set_far _ _ _ _ _ _ (Or.inl ne2)).trans y0
      have y1' : (wr.setCell ⟨r5, i, none⟩ v9).cell? ⟨w.heap.size + 1, 0 + 1, none⟩ = some (.slice none 0 0) := (set_far _ _ _ _ _ _ (Or.inl ne2)).trans y1
      have y2' : ∀ j, (wr.setCell ⟨r5, i, none⟩ v9).frozen? ⟨w.heap.size + 1, j, none⟩ = false := fun j => (World.frozen?_setCell ..).trans (y2 j)
      have c10 : Hid (∀ j, j < m → (wr.setCell ⟨r5, i, none⟩ v9).cell? ⟨r5, j, none⟩ = some (if j = i then v9 else V j)) := Lib.hid fun q hq => by
        by_cases e : q = i
        · rw [e] at hq ⊢; rw [World.cell?_setCell_same _ _ _ (c9a.out i hq)]; simp
        · rw [set_far _ _ _ _ _ _ (Or.inr e), c9a.out q hq]; simp [e]
      have R10 : Hid (∀ j (h : j < Fl.length), (wr.setCell ⟨r5, i, none⟩ v9).cell? ⟨r, j, none⟩ = some (.int .i64 (Fl[j] : Nat))) := Lib.hid fun j h => (set_far _ _ _ _ _ _ (Or.inl ne3)).trans (R9.out.cell j h)
      have K10 := Lib.hid (grow_set4 K9.out r5 i v9 (by omega))
      have s10 : (wr.setCell ⟨r5, i, none⟩ v9).heap.size = wr.heap.size := size_set ..
      clear x0 y0 y1 y2 c9a R9 K9
      generalize wr.setCell ⟨r5, i, none⟩ v9 = w10 at *
      have y2a := y2' 0
      have y2b := y2' (0 + 1)
      have hwb : w.heap.size + 1 < w10.heap.size := by omega
      have z0 : (w10.setCell ⟨w.heap.size + 1, 0, none⟩ (.int .i64 (n : Nat))).cell? ⟨w.heap.size + 1, 0 + 1, none⟩ = some (.slice none 0 0) := (set_far _ _ _ _ _ _ (Or.inr (by omega))).trans y1'
      have z3 : (w10.setCell ⟨w.heap.size + 1, 0, none⟩ (.int .i64 (n : Nat))).frozen? ⟨w.heap.size + 1, 0 + 1, none⟩ = false := (World.frozen?_setCell ..).trans y2b
      go_wp2
      have u0 : ((w10.setCell ⟨w.heap.size + 1, 0, none⟩ (.int .i64 (n : Nat))).setCell ⟨w.heap.size + 1, 1, none⟩ (.slice (some ⟨r5, 0, none⟩) m cp5)).cell? ⟨w.heap.size + 1, 0, none⟩ = some (.int .i64 (n : Nat)) := (set_far _ _ _ _ _ _ (Or.inr (by omega))).trans (World.cell?_setCell_same _ _ _ y0')
      have u1 : ((w10.setCell ⟨w.heap.size + 1, 0, none⟩ (.int .i64 (n : Nat))).setCell ⟨w.heap.size + 1, 1, none⟩ (.slice (some ⟨r5, 0, none⟩) m cp5)).cell? ⟨w.heap.size + 1, 1, none⟩ = some (.slice (some ⟨r5, 0, none⟩) m cp5) := World.cell?_setCell_same _ _ _ z0
      have K12 : w.grownBy ((w10.setCell ⟨w.heap.size + 1, 0, none⟩ (.int .i64 (n : Nat))).setCell ⟨w.heap.size + 1, 1, none⟩ (.slice (some ⟨r5, 0, none⟩) m cp5)) none := grow_set4 (grow_set4 K10.out _ _ _ (by omega)) _ _ _ (by omega)
      have s12 : ((w10.setCell ⟨w.heap.size + 1, 0, none⟩ (.int .i64 (n : Nat))).setCell ⟨w.heap.size + 1, 1, none⟩ (.slice (some ⟨r5, 0, none⟩) m cp5)).heap.size = w10.heap.size := by rw [size_set, size_set]
      have fin : ∀ b j, b ≠ w.heap.size + 1 → ((w10.setCell ⟨w.heap.size + 1, 0, none⟩ (.int .i64 (n : Nat))).setCell ⟨w.heap.size + 1, 1, none⟩ (.slice (some ⟨r5, 0, none⟩) m cp5)).cell? ⟨b, j, none⟩ = w10.cell? ⟨b, j, none⟩ := fun b j hb => (set_far _ _ _ _ _ _ (Or.inl hb)).trans (set_far _ _ _ _ _ _ (Or.inl hb))
      refine bodyPost_ret (v := .tuple #[.agg #[.int .i64 (n : Nat), .slice (some ⟨r5, 0, none⟩) m cp5], .bool true]) (by simp [results, Try.results13, go_sem, u0, u1]) rfl ⟨_, rfl, K12, ?_⟩
      refine rows_set (fun i hi => (HC.out i hi).2) HBB.out K12 (by omega) (by omega) (fun j hj => (fin r5 j (Ne.symm ne2)).trans (c10.out j hj)) ?_
      subst hv9
      exact ⟨some ⟨r, 0, none⟩, c, rfl, fun j h => ⟨r, 0, rfl, HBB.out r (by omega), by omega, by rw [Nat.zero_add, fin r j ne4]; exact R10.out j h⟩⟩


set_option maxHeartbeats 2000000 in
theorem rpull4_no (k : Int) {w : World} {B : Nat → Prop} {m n : Nat} {v : Value} {L : Nat → List Nat} (H : Rows4 w B v m L) (hm : m ≤ 4096) (hl : ∀ i, i < m → (L i).length ≤ 4096) (h : ∀ j, j < m → ∀ x ∈ L j, (x : Int) ≠ k) :
    Calls Try.prog 13 #[.agg #[.int .i64 (n : Nat), v], .int .i64 k] w fun e w' => e = .returned (.tuple #[.agg #[.int .i64 (n : Nat), v], .bool false]) ∧ w.grownBy w' none := by
  have H0 := H
  obtain ⟨R, cp, V, rfl, h1, h2, hc⟩ := H
  have ka := World.grownBy_alloc w (.cells #[.int .i64 (n : Nat), .slice (some ⟨R, 0, none⟩) m cp] 30) none
  have kb := World.grownBy_alloc (w.alloc (.cells #[.int .i64 (n : Nat), .slice (some ⟨R, 0, none⟩) m cp] 30)) (.cells #[.int .i64 0, .slice none 0 0] 30) none
  have kab := ka.trans kb
  have o0 : ((w.alloc (.cells #[.int .i64 (n : Nat), .slice (some ⟨R, 0, none⟩) m cp] 30)).alloc (.cells #[.int .i64 0, .slice none 0 0] 30)).cell? ⟨w.heap.size, 0, none⟩ = some (.int .i64 (n : Nat)) := by simp
  have o1 : ((w.alloc (.cells #[.int .i64 (n : Nat), .slice (some ⟨R, 0, none⟩) m cp] 30)).alloc (.cells #[.int .i64 0, .slice none 0 0] 30)).cell? ⟨w.heap.size, 0 + 1, none⟩ = some (.slice (some ⟨R, 0, none⟩) m cp) := by simp
  have p0 : ((w.alloc (.cells #[.int .i64 (n : Nat), .slice (some ⟨R, 0, none⟩) m cp] 30)).alloc (.cells #[.int .i64 0, .slice none 0 0] 30)).cell? ⟨w.heap.size + 1, 0, none⟩ = some (.int .i64 0) := by simp
  have p1 : ((w.alloc (.cells #[.int .i64 (n : Nat), .slice (some ⟨R, 0, none⟩) m cp] 30)).alloc (.cells #[.int .i64 0, .slice none 0 0] 30)).cell? ⟨w.heap.size + 1, 0 + 1, none⟩ = some (.slice none 0 0) := by simp
  have f0 : ∀ j, ((w.alloc (.cells #[.int .i64 (n : Nat), .slice (some ⟨R, 0, none⟩) m cp] 30)).alloc (.cells #[.int .i64 0, .slice none 0 0] 30)).frozen? ⟨w.heap.size + 1, j, none⟩ = false := fun j => by simp
  have hs0 : ((w.alloc (.cells #[.int .i64 (n : Nat), .slice (some ⟨R, 0, none⟩) m cp] 30)).alloc (.cells #[.int .i64 0, .slice none 0 0] 30)).heap.size = w.heap.size + 2 := by simp
  have CO := Lib.hid (ron_any k (n : Nat) (H0.kept kab) hm hl)
  have KAB := Lib.hid kab
  have END : Hid (∀ v : World, ((w.alloc (.cells #[.int .i64 (n : Nat), .slice (some ⟨R, 0, none⟩) m cp] 30)).alloc (.cells #[.int .i64 0, .slice none 0 0] 30)).grownBy v none → v.cell? ⟨w.heap.size, 0, none⟩ = some (.int .i64 (n : Nat)) ∧ v.cell? ⟨w.heap.size, 0 + 1, none⟩ = some (.slice (some ⟨R, 0, none⟩) m cp) ∧ v.cell? ⟨w.heap.size + 1, 0, none⟩ = some (.int .i64 0) ∧ (v.setCell ⟨w.heap.size + 1, 0, none⟩ (.int .i64 (n : Nat))).cell? ⟨w.heap.size + 1, 0 + 1, none⟩ = some (.slice none 0 0) ∧ v.frozen? ⟨w.heap.size + 1, 0, none⟩ = false ∧ (v.setCell ⟨w.heap.size + 1, 0, none⟩ (.int .i64 (n : Nat))).frozen? ⟨w.heap.size + 1, 0 + 1, none⟩ = false ∧ w.heap.size + 1 < v.heap.size) := Lib.hid fun v kv => by
    have s2 := kv.size
    rw [hs0] at s2
    refine ⟨(kv.cell_far ⟨w.heap.size, 0, none⟩ (show w.heap.size < _ by omega) (by simp)).trans o0, (kv.cell_far ⟨w.heap.size, 0 + 1, none⟩ (show w.heap.size < _ by omega) (by simp)).trans o1, (kv.cell_far ⟨w.heap.size + 1, 0, none⟩ (show w.heap.size + 1 < _ by omega) (by simp)).trans p0, (set_far _ _ _ _ _ _ (Or.inr (by omega))).trans ((kv.cell_far ⟨w.heap.size + 1, 0 + 1, none⟩ (show w.heap.size + 1 < _ by omega) (by simp)).trans p1), (kv.frozen_far ⟨w.heap.size + 1, 0, none⟩ (show w.heap.size + 1 < _ by omega) (by simp)).trans (f0 0), (World.frozen?_setCell ..).trans ((kv.frozen_far ⟨w.heap.size + 1, 0 + 1, none⟩ (show w.heap.size + 1 < _ by omega) (by simp)).trans (f0 _)), by omega⟩
  have FIN : Hid (∀ (v : World), ((w.alloc (.cells #[.int .i64 (n : Nat), .slice (some ⟨R, 0, none⟩) m cp] 30)).alloc (.cells #[.int .i64 0, .slice none 0 0] 30)).grownBy v none → w.grownBy ((v.setCell ⟨w.heap.size + 1, 0, none⟩ (.int .i64 (n : Nat))).setCell ⟨w.heap.size + 1, 1, none⟩ (.slice (some ⟨R, 0, none⟩) m cp)) none ∧ ((v.setCell ⟨w.heap.size + 1, 0, none⟩ (.int .i64 (n : Nat))).setCell ⟨w.heap.size + 1, 1, none⟩ (.slice (some ⟨R, 0, none⟩) m cp)).cell? ⟨w.heap.size + 1, 0, none⟩ = some (.int .i64 (n : Nat)) ∧ ((v.setCell ⟨w.heap.size + 1, 0, none⟩ (.int .i64 (n : Nat))).setCell ⟨w.heap.size + 1, 1, none⟩ (.slice (some ⟨R, 0, none⟩) m cp)).cell? ⟨w.heap.size + 1, 1, none⟩ = some (.slice (some ⟨R, 0, none⟩) m cp)) := Lib.hid fun v kv => by
    obtain ⟨e0, e1, e2, e3, e4, e5, e6⟩ := END.out v kv
    exact ⟨grow_set4 (grow_set4 (KAB.out.trans kv) _ _ _ (by omega)) _ _ _ (by omega), (set_far _ _ _ _ _ _ (Or.inr (by omega))).trans (World.cell?_setCell_same _ _ _ e2), World.cell?_setCell_same _ _ _ e3⟩
  clear ka kb kab H0 hc hl p0 p1 f0 hs0
  have HX := Lib.hid h
  clear h
  go_enter Try.func13, Try.ntmps13
  go_wp2_with fail
  refine CO.out.mono ?_
  rintro e w2 ⟨k2, hres⟩
  obtain rfl : e = .returned (.int .i64 (-1)) := by
    rcases hres with ⟨j, _, hj, x, hx, hxk⟩ | ⟨he, _⟩
    · exact absurd hxk (HX.out j hj x hx)
    · exact he
  obtain ⟨e0, e1, e2, e3, e4, e5, e6⟩ := END.out _ k2
  obtain ⟨g0, g1, g2⟩ := FIN.out _ k2
  clear hres CO o0 o1
  go_wp2
  exact bodyPost_ret (v := .tuple #[.agg #[.int .i64 (n : Nat), .slice (some ⟨R, 0, none⟩) m cp], .bool false]) (by simp [results, Try.results13, go_sem, g1, g2]) rfl ⟨rfl, g0⟩
end Go.Proofs.Ytbkjdbimkofceaa
