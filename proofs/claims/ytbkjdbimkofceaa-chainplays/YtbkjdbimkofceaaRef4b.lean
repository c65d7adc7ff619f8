/-
  Contracts of nightjarref04, over this seat's translation: Push, Pull.
-/
import Derived.Test.YtbkjdbimkofceaaRef4
import Derived.Test.YtbkjdbimkofceaaAppSrc
namespace Go.Proofs.Ytbkjdbimkofceaa
open Go.RowKit Go.Lib
set_option maxRecDepth 100000

theorem add_off (b j : Nat) : (⟨b, 0, none⟩ : Addr).add j = ⟨b, j, none⟩ := by unfold Addr.add; split <;> simp_all
theorem add_off' (b o j : Nat) : (⟨b, o, none⟩ : Addr).add j = ⟨b, o + j, none⟩ := by unfold Addr.add; split <;> simp_all
/-- A row of numbers that can be read is a source. -/
theorem Reads.src {w : World} {v : Value} {F : List Nat} (h : Reads w v F) : SrcAt w 1 v F.length (ints F) := by
  obtain ⟨a, cap, rfl, hc⟩ := h
  cases a with
  | none =>
    have : F.length = 0 := by
      cases e : F.length with
      | zero => rfl
      | succ q => obtain ⟨b, o, h, _⟩ := hc 0 (by omega); cases h
    exact Or.inr ⟨cap, by rw [this], this, by rw [List.length_eq_zero_iff.1 this]; rfl⟩
  | some ad =>
    refine Or.inl ⟨ad, cap, rfl, by simp [ints], fun j u hu => ?_, ints_one F⟩
    have hj : j < F.length := by rw [← ints_len F]; exact (List.getElem?_eq_some_iff.1 hu).1
    obtain ⟨b, o, e, _, h⟩ := hc j hj
    cases e
    rw [add_off', h]
    simp [ints, hj] at hu
    rw [hu]
/-- The rows' own cells are a source. -/
theorem rows_src {w : World} {R cp m : Nat} {V : Nat → Value} (hc : ∀ i, i < m → w.cell? ⟨R, i, none⟩ = some (V i)) (h1 : ∀ i, i < m → (V i).oneCell' = true) : SrcAt w 1 (.slice (some ⟨R, 0, none⟩) m cp) m ((List.range m).map V) := by
  refine Or.inl ⟨_, cp, rfl, by simp, fun j u hu => ?_, fun u hu => ?_⟩
  · have hj : j < m := by
      have := (List.getElem?_eq_some_iff.1 hu).1
      simpa using this
    rw [add_off, hc j hj]
    simp [hj] at hu
    rw [hu]
  · simp only [List.mem_map, List.mem_range] at hu
    obtain ⟨i, hi, rfl⟩ := hu
    exact h1 i hi
theorem readsB_one {w : World} {B : Nat → Prop} {v : Value} {F : List Nat} (h : ReadsB w B v F) : v.oneCell' = true := by
  obtain ⟨a, cap, rfl, _⟩ := h
  rfl
theorem row_info : ∃ i : TypeInfo, Try.prog.info? 57 = some i ∧ i.zero = some (.slice none 0 0) ∧ i.size = 1 ∧ i.bytes = 24 := ⟨_, rfl, rfl, rfl, rfl⟩
/-- An own row of slices. -/
theorem srow_of_owns {w : World} {B : Nat} {v : Value} {k : Nat} {xs : List Value} (h : w.ownsRow B 57 1 v k xs) (hv : v ≠ .slice none 0 0) : ∃ r cp, v = .slice (some ⟨r, 0, none⟩) k cp ∧ B ≤ r ∧ r < w.heap.size ∧ (∀ j, j < k → w.cell? ⟨r, j, none⟩ = xs[j]?) ∧ ∀ j, j < k → w.frozen? ⟨r, j, none⟩ = false := by
  have h' := h
  rcases h.2 with ⟨h0, _⟩ | ⟨r, cp, cur, hv', _⟩
  · exact absurd h0 hv
  · subst hv'
    have hl := World.ownsRow.lt h' r rfl
    exact ⟨r, cp, rfl, hl.1, hl.2, fun j hj => World.ownsRow.cellAt h' j (by omega), fun j hj => World.ownsRow.frozenAt h' j⟩

theorem grow_set4 {W w : World} (h : W.grownBy w none) (b j : Nat) (v : Value) (hb : W.heap.size ≤ b) : W.grownBy (w.setCell ⟨b, j, none⟩ v) none :=
  Only.on h (Only.set (lo := b) (hi := b + 1) w ⟨b, j, none⟩ v (Nat.le_refl _) (Nat.lt_succ_self _)) hb
theorem set_far (w : World) (b j b' j' : Nat) (v : Value) (h : b' ≠ b ∨ j' ≠ j) : (w.setCell ⟨b, j, none⟩ v).cell? ⟨b', j', none⟩ = w.cell? ⟨b', j', none⟩ :=
  World.cell?_setCell_other _ _ _ _ (by intro e; injection e with e1 e2; omega)

/-- Rows of which one was set to a new value. -/
theorem rows_set {w w' : World} {B : Nat → Prop} {m i r5 cp5 : Nat} {V : Nat → Value} {L : Nat → List Nat} {v9 : Value} {F : List Nat} (hc : ∀ i, i < m → ReadsB w B (V i) (L i)) (hBw : ∀ b, w.heap.size ≤ b → B b)
    (k5 : w.grownBy w' none) (hr : w.heap.size ≤ r5) (hr5 : r5 < w'.heap.size) (h5 : ∀ j, j < m → w'.cell? ⟨r5, j, none⟩ = some (if j = i then v9 else V j)) (h9 : ReadsB w' B v9 F) : Rows4 w' B (.slice (some ⟨r5, 0, none⟩) m cp5) m (upL L i F) := by
  refine ⟨r5, cp5, fun j => if j = i then v9 else V j, rfl, hBw r5 hr, hr5, fun j hj => ⟨h5 j hj, ?_⟩⟩
  by_cases e : j = i
  · subst e
    simp only [if_true, upL_same]; exact h9
  · simp only [e, if_false, upL_other _ _ _ _ e]; exact (hc j hj).kept k5

set_option maxHeartbeats 4000000 in
theorem rpush4_ok (i k : Nat) {w : World} {B : Nat → Prop} {m n : Nat} {v : Value} {L : Nat → List Nat} (H : Rows4 w B v m L) (hm : m ≤ 4096) (hl : ∀ i, i < m → (L i).length ≤ 4096) (hB : ∀ b, w.heap.size ≤ b → B b) (hi : i < m) (hk : k < n) (hf : ∀ j, j < m → k ∉ L j) :
    Calls Try.prog 11 #[.agg #[.int .i64 (n : Nat), v], .int .i64 i, .int .i64 k] w fun e w' => ∃ v', e = .returned (.tuple #[.agg #[.int .i64 (n : Nat), v'], .bool true]) ∧ w.grownBy w' none ∧ Rows4 w' B v' m (upL L i (L i ++ [k])) := by
  have H0 := H
  have HBB := Lib.hid hB
  clear hB
  obtain ⟨R, cp, V, rfl, h1, h2, hc⟩ := H
  obtain ⟨j0, a0, a1, a2, a3⟩ := row_info
  have I0 := Lib.hid a0
  have I1 := Lib.hid a1
  have I2 := Lib.hid a2
  have I3 := Lib.hid a3
  obtain ⟨j1, b0, b1, b2, b3⟩ := int_info
  have J0 := Lib.hid b0
  have J1 := Lib.hid b1
  have J2 := Lib.hid b2
  have J3 := Lib.hid b3
  clear a0 a1 a2 a3 b0 b1 b2 b3
  have ka := World.grownBy_alloc w (.cells #[.int .i64 (n : Nat), .slice (some ⟨R, 0, none⟩) m cp] 30) none
  have kb := World.grownBy_alloc (w.alloc (.cells #[.int .i64 (n : Nat), .slice (some ⟨R, 0, none⟩) m cp] 30)) (.cells #[.int .i64 0, .slice none 0 0] 30) none
  have kab := ka.trans kb
  have o0 : ((w.alloc (.cells #[.int .i64 (n : Nat), .slice (some ⟨R, 0, none⟩) m cp] 30)).alloc (.cells #[.int .i64 0, .slice none 0 0] 30)).cell? ⟨w.heap.size, 0, none⟩ = some (.int .i64 (n : Nat)) := by simp
  have o1 : ((w.alloc (.cells #[.int .i64 (n : Nat), .slice (some ⟨R, 0, none⟩) m cp] 30)).alloc (.cells #[.int .i64 0, .slice none 0 0] 30)).cell? ⟨w.heap.size, 0 + 1, none⟩ = some (.slice (some ⟨R, 0, none⟩) m cp) := by simp
  have o1' : ((w.alloc (.cells #[.int .i64 (n : Nat), .slice (some ⟨R, 0, none⟩) m cp] 30)).alloc (.cells #[.int .i64 0, .slice none 0 0] 30)).cell? ⟨w.heap.size, 1, none⟩ = some (.slice (some ⟨R, 0, none⟩) m cp) := by simp
  have p0 : ((w.alloc (.cells #[.int .i64 (n : Nat), .slice (some ⟨R, 0, none⟩) m cp] 30)).alloc (.cells #[.int .i64 0, .slice none 0 0] 30)).cell? ⟨w.heap.size + 1, 0, none⟩ = some (.int .i64 0) := by simp
  have p1 : ((w.alloc (.cells #[.int .i64 (n : Nat), .slice (some ⟨R, 0, none⟩) m cp] 30)).alloc (.cells #[.int .i64 0, .slice none 0 0] 30)).cell? ⟨w.heap.size + 1, 0 + 1, none⟩ = some (.slice none 0 0) := by simp
  have f0 : ∀ j, ((w.alloc (.cells #[.int .i64 (n : Nat), .slice (some ⟨R, 0, none⟩) m cp] 30)).alloc (.cells #[.int .i64 0, .slice none 0 0] 30)).frozen? ⟨w.heap.size + 1, j, none⟩ = false := fun j => by simp
  have hs0 : ((w.alloc (.cells #[.int .i64 (n : Nat), .slice (some ⟨R, 0, none⟩) m cp] 30)).alloc (.cells #[.int .i64 0, .slice none 0 0] 30)).heap.size = w.heap.size + 2 := by simp
  have CO := Lib.hid (ron_any (k : Int) (n : Nat) (H0.kept kab) hm hl)
  have KAB := Lib.hid kab
  have HC := Lib.hid hc
  have HL := Lib.hid hl
  have HF := Lib.hid hf
  have q1 : (i : Int) < (m : Int) := by omega
  have q2 : (k : Int) < (n : Int) := by omega
  have q1' : ¬ (m : Int) ≤ (i : Int) := by omega
  have z1 : decide ((i : Int) < 0) = false := by simp
  have z2 : decide ((k : Int) < 0) = false := by simp
  have q2' : ¬ (n : Int) ≤ (k : Int) := by omega
  clear ka kb kab H0 hc hl hf
  go_enter Try.func11, Try.ntmps11
  go_wp2_with fail
  refine CO.out.mono ?_
  rintro e w2 ⟨k2, hres⟩
  obtain rfl : e = .returned (.int .i64 (-1)) := by
    rcases hres with ⟨j, _, hj, x, hx, hxk⟩ | ⟨he, _⟩
    · have : x = k := by omega
      subst this
      exact absurd hx (HF.out j hj)
    · exact he
  have s2 := k2.size
  rw [hs0] at s2
  have o0 := (k2.cell_far ⟨w.heap.size, 0, none⟩ (show w.heap.size < _ by omega) (by simp)).trans o0
  have o1' := (k2.cell_far ⟨w.heap.size, 1, none⟩ (show w.heap.size < _ by omega) (by simp)).trans o1'
  have p0 := (k2.cell_far ⟨w.heap.size + 1, 0, none⟩ (show w.heap.size + 1 < _ by omega) (by simp)).trans p0
  have p1 := (k2.cell_far ⟨w.heap.size + 1, 0 + 1, none⟩ (show w.heap.size + 1 < _ by omega) (by simp)).trans p1
  have f0 : ∀ j, w2.frozen? ⟨w.heap.size + 1, j, none⟩ = false := fun j => (k2.frozen_far ⟨w.heap.size + 1, j, none⟩ (show w.heap.size + 1 < _ by omega) (by simp)).trans (f0 j)
  have K2 := Lib.hid (KAB.out.trans k2)
  clear hres CO o1 k2 KAB hs0
  have kc := World.grownBy_alloc w2 (.cells #[] 57) none
  have h0r : (w2.alloc (.cells #[] 57)).ownsRow w2.heap.size 57 1 (.slice (some ⟨w2.heap.size, 0, none⟩) 0 0) 0 [] := World.ownsRow_made w2 #[] 0 (Nat.le_refl _) (by decide) rfl
  have SR := Lib.hid (rows_src (w := w2.alloc (.cells #[] 57)) (cp := cp) (fun i hi => ((K2.out.trans kc).cell_far ⟨R, i, none⟩ h2 (by simp)).trans (HC.out i hi).1) (fun i hi => readsB_one (HC.out i hi).2))
  have KC := Lib.hid kc
  have o1c := (kc.cell_far ⟨w.heap.size, 1, none⟩ (show w.heap.size < _ by omega) (by simp)).trans o1'
  clear kc
  go_upto_region 4 with (
    at_builtin
    refine wpList_append_src _ rfl _ _ 28 rfl w2.heap.size 57 j0 (.slice none 0 0) 1 24 Try.underlying28 I0.out I1.out I2.out I3.out rfl (by decide) _ _ _ rfl h0r _ m _ rfl SR.out (by unfold maxLen; omega) (by omega) (by simp) ?_
    intro v5 w5 hown hgrow hnil hat
    have hgr : (w2.alloc (.cells #[] 57)).grownBy w5 (some w2.heap.size) := hgrow
    have hnn : v5 ≠ .slice none 0 0 := fun h => absurd (hnil.1 h).1 (fun e => by cases e)
    obtain ⟨r5, cp5, rfl, r5a, r5b, r5c, r5d⟩ := srow_of_owns hown hnn
    clear hown hgrow hnil hat hnn h0r)
  have K5 := Lib.hid (grow_on (K2.out.trans KC.out) hgr (by omega))
  have c5 : ∀ j, j < m → w5.cell? ⟨r5, j, none⟩ = some (V j) := fun j hj => by rw [r5c j (by omega)]; simp [hj]
  have FK : Hid (∀ b j, b < w2.heap.size → w5.cell? ⟨b, j, none⟩ = w2.cell? ⟨b, j, none⟩) := Lib.hid fun b j hb => (hgr.cell_far ⟨b, j, none⟩ (show b < _ by simp; omega) (show (some b : Option Nat) ≠ some w2.heap.size from fun e => by cases e; omega)).trans (KC.out.cell_far ⟨b, j, none⟩ hb (by simp))
  have FF : Hid (∀ b j, b < w2.heap.size → w5.frozen? ⟨b, j, none⟩ = w2.frozen? ⟨b, j, none⟩) := Lib.hid fun b j hb => (hgr.frozen_far ⟨b, j, none⟩ (show b < _ by simp; omega) (show (some b : Option Nat) ≠ some w2.heap.size from fun e => by cases e; omega)).trans (KC.out.frozen_far ⟨b, j, none⟩ hb (by simp))
  have s5 : w2.heap.size < w5.heap.size := Nat.lt_of_lt_of_le (by simp) hgr.size
  clear hgr r5c SR KC o1c
  have ke := World.grownBy_alloc w5 (.cells #[] 3) none
  have hV5 : Reads (w5.alloc (.cells #[] 3)) (V i) (L i) := (((HC.out i hi).2.kept K5.out).kept ke).reads
  have hli := HL.out i hi
  have row6 : RowOf (w5.alloc (.cells #[] 3)) w5.heap.size w5.heap.size 0 [] := lit_room w5 _ (Nat.le_refl _)
  have c5i : (w5.alloc (.cells #[] 3)).cell? ⟨r5, i, none⟩ = some (V i) := (ke.cell_far ⟨r5, i, none⟩ r5b (by simp)).trans (c5 i hi)
  have SV := Lib.hid hV5.src
  have KE := Lib.hid ke
  unfold RowOf at row6
  clear ke hV5
  go_upto_region 5 with (first
    | (
      at_builtin
      refine wpList_append_src _ rfl _ _ 57 rfl w5.heap.size 3 j1 (.int .i64 0) 1 8 Try.underlying57 J0.out J1.out J2.out J3.out rfl (by decide) _ _ _ rfl (World.ownsRow.alloc row7 _) _ 1 [.int .i64 (k : Int)] rfl (Or.inl ⟨⟨w7.heap.size, 0, none⟩, 1, rfl, rfl, cell_one_new _ _ _, fun x hx => by simp at hx; subst hx; rfl⟩) (by unfold maxLen; omega) (by omega) (by simp; omega) ?_
      intro v9 w9 hown hgrow hnil hat
      have hgr9 : (w7.alloc (.cells #[.int .i64 (k : Int)] 3)).grownBy w9 (some r7) := hgrow
      have hnn : v9 ≠ .slice none 0 0 := fun h => absurd (hnil.1 h).2 (by decide)
      obtain ⟨r9, cp9, rfl, row9⟩ := row_of_owns hown (F := L i ++ [k]) (by simp) (by rw [ints_snoc]) hnn
      have s9 := hgr9.size
      have c9 : w9.cell? ⟨r5, i, none⟩ = some (V i) := (hgr9.cell_far ⟨r5, i, none⟩ (show r5 < _ by simp; omega) (show (some r5 : Option Nat) ≠ some r7 from fun e => by cases e; omega)).trans (((World.grownBy_alloc w7 (.cells #[.int .i64 (k : Int)] 3) none).cell_far ⟨r5, i, none⟩ (show r5 < _ by omega) (by simp)).trans c7i)
      have e9 : w9.frozen? ⟨r5, i, none⟩ = false := (hgr9.frozen_far ⟨r5, i, none⟩ (show r5 < _ by simp; omega) (show (some r5 : Option Nat) ≠ some r7 from fun e => by cases e; omega)).trans (((World.grownBy_alloc w7 (.cells #[.int .i64 (k : Int)] 3) none).frozen_far ⟨r5, i, none⟩ (show r5 < _ by omega) (by simp)).trans e7i)
      clear hown hgrow hnil hat hnn)
    | (
      at_builtin
      refine wpList_append_src _ rfl _ _ 57 rfl w5.heap.size 3 j1 (.int .i64 0) 1 8 Try.underlying57 J0.out J1.out J2.out J3.out rfl (by decide) _ _ _ rfl row6 _ (L i).length (ints (L i)) rfl SV.out (by unfold maxLen; simp; omega) (by simp; omega) (by simp) ?_
      intro v7 w7 hown hgrow hnil hat
      have hgr7 : (w5.alloc (.cells #[] 3)).grownBy w7 (some w5.heap.size) := hgrow
      have hnn : v7 ≠ .slice none 0 0 := fun h => absurd (hnil.1 h).1 (fun e => by cases e)
      obtain ⟨r7, cp7, rfl, row7⟩ := row_of_owns hown (F := L i) (by simp) (by simp [ints]) hnn
      have r7l := row7.lt
      have s7 := hgr7.size
      have s7' : w5.heap.size < w7.heap.size := Nat.lt_of_lt_of_le (by simp) s7
      have c7i := (hgr7.cell_far ⟨r5, i, none⟩ (show r5 < _ by simp; omega) (show (some r5 : Option Nat) ≠ some w5.heap.size from fun e => by cases e; omega)).trans c5i
      have e7i : w7.frozen? ⟨r5, i, none⟩ = false := (hgr7.frozen_far ⟨r5, i, none⟩ (show r5 < _ by simp; omega) (show (some r5 : Option Nat) ≠ some w5.heap.size from fun e => by cases e; omega)).trans ((KE.out.frozen_far ⟨r5, i, none⟩ r5b (by simp)).trans (r5d i (by omega)))
      unfold RowOf at row7
      clear hown hgrow hnil hat hnn row6))
  have r9l := row9.lt
  have F9 : Hid (∀ b j, b < w5.heap.size → w9.cell? ⟨b, j, none⟩ = w5.cell? ⟨b, j, none⟩) := Lib.hid fun b j hb => (hgr9.cell_far ⟨b, j, none⟩ (show b < _ by simp; omega) (show (some b : Option Nat) ≠ some r7 from fun e => by cases e; omega)).trans (((World.grownBy_alloc w7 (.cells #[.int .i64 (k : Int)] 3) none).cell_far ⟨b, j, none⟩ (show b < _ by omega) (by simp)).trans ((hgr7.cell_far ⟨b, j, none⟩ (show b < _ by simp; omega) (show (some b : Option Nat) ≠ some w5.heap.size from fun e => by cases e; omega)).trans (KE.out.cell_far ⟨b, j, none⟩ hb (by simp))))
  have E9 : Hid (∀ b j, b < w5.heap.size → w9.frozen? ⟨b, j, none⟩ = w5.frozen? ⟨b, j, none⟩) := Lib.hid fun b j hb => (hgr9.frozen_far ⟨b, j, none⟩ (show b < _ by simp; omega) (show (some b : Option Nat) ≠ some r7 from fun e => by cases e; omega)).trans (((World.grownBy_alloc w7 (.cells #[.int .i64 (k : Int)] 3) none).frozen_far ⟨b, j, none⟩ (show b < _ by omega) (by simp)).trans ((hgr7.frozen_far ⟨b, j, none⟩ (show b < _ by simp; omega) (show (some b : Option Nat) ≠ some w5.heap.size from fun e => by cases e; omega)).trans (KE.out.frozen_far ⟨b, j, none⟩ hb (by simp))))
  have K9 := Lib.hid (grow_on (grow_on (K5.out.trans KE.out) hgr7 (by omega) |>.trans (World.grownBy_alloc w7 (.cells #[.int .i64 (k : Int)] 3) none)) hgr9 (by omega))
  have s9' : w5.heap.size ≤ w9.heap.size := by simp at s9; omega
  have x0 : w9.cell? ⟨w.heap.size, 0, none⟩ = some (.int .i64 (n : Nat)) := (F9.out _ _ (by omega)).trans ((FK.out _ _ (by omega)).trans o0)
  have y0 : w9.cell? ⟨w.heap.size + 1, 0, none⟩ = some (.int .i64 0) := (F9.out _ _ (by omega)).trans ((FK.out _ _ (by omega)).trans p0)
  have y1 : w9.cell? ⟨w.heap.size + 1, 0 + 1, none⟩ = some (.slice none 0 0) := (F9.out _ _ (by omega)).trans ((FK.out _ _ (by omega)).trans p1)
  have y2 : ∀ j, w9.frozen? ⟨w.heap.size + 1, j, none⟩ = false := fun j => (E9.out _ _ (by omega)).trans ((FF.out _ _ (by omega)).trans (f0 j))
  have c9a : Hid (∀ j, j < m → w9.cell? ⟨r5, j, none⟩ = some (V j)) := Lib.hid fun j hj => (F9.out _ _ r5b).trans (c5 j hj)
  have R9 := Lib.hid row9
  have hl9 : (L i ++ [k]).length = (L i).length + 1 := by simp
  clear hgr9 hgr7 F9 E9 FK FF KE o0 o1' p0 p1 f0 c5 c5i c7i e7i row7 row9 K5 K2 SV r5d
  have ne1 : w.heap.size ≠ r5 := by omega
  have ne2 : w.heap.size + 1 ≠ r5 := by omega
  have ne3 : r9 ≠ r5 := by omega
  have ne4 : r9 ≠ w.heap.size + 1 := by omega
  obtain ⟨v9, hv9⟩ : ∃ v9, v9 = Value.slice (some ⟨r9, 0, none⟩) ((L i).length + 1) cp9 := ⟨_, rfl⟩
  rw [← hv9]
  have x0' : (w9.setCell ⟨r5, i, none⟩ v9).cell? ⟨w.heap.size, 0, none⟩ = some (.int .i64 (n : Nat)) := (set_far _ _ _ _ _ _ (Or.inl ne1)).trans x0
  have y0' : (w9.setCell ⟨r5, i, none⟩ v9).cell? ⟨w.heap.size + 1, 0, none⟩ = some (.int .i64 0) := (set_far _ _ _ _ _ _ (Or.inl ne2)).trans y0
  have y1' : (w9.setCell ⟨r5, i, none⟩ v9).cell? ⟨w.heap.size + 1, 0 + 1, none⟩ = some (.slice none 0 0) := (set_far _ _ _ _ _ _ (Or.inl ne2)).trans y1
  have y2' : ∀ j, (w9.setCell ⟨r5, i, none⟩ v9).frozen? ⟨w.heap.size + 1, j, none⟩ = false := fun j => (World.frozen?_setCell ..).trans (y2 j)
  have c10 : Hid (∀ j, j < m → (w9.setCell ⟨r5, i, none⟩ v9).cell? ⟨r5, j, none⟩ = some (if j = i then v9 else V j)) := Lib.hid fun j hj => by
    by_cases e : j = i
    · subst e; rw [World.cell?_setCell_same _ _ _ (c9a.out j hj)]; simp
    · rw [set_far _ _ _ _ _ _ (Or.inr e), c9a.out j hj]; simp [e]
  have R10 : Hid (∀ j (h : j < (L i ++ [k]).length), (w9.setCell ⟨r5, i, none⟩ v9).cell? ⟨r9, j, none⟩ = some (.int .i64 ((L i ++ [k])[j] : Nat))) := Lib.hid fun j h => (set_far _ _ _ _ _ _ (Or.inl ne3)).trans (R9.out.cell j h)
  have K10 := Lib.hid (grow_set4 K9.out r5 i v9 (by omega))
  have s10 : (w9.setCell ⟨r5, i, none⟩ v9).heap.size = w9.heap.size := size_set ..
  have hwc : w.heap.size < w9.heap.size := by omega
  clear x0 y0 y1 y2 c9 e9 c9a R9 K9
  generalize w9.setCell ⟨r5, i, none⟩ v9 = w10 at *
  have y2a := y2' 0
  have y2b := y2' (0 + 1)
  have hwb : w.heap.size + 1 < w10.heap.size := by omega
  have z0 : (w10.setCell ⟨w.heap.size + 1, 0, none⟩ (.int .i64 (n : Nat))).cell? ⟨w.heap.size + 1, 0 + 1, none⟩ = some (.slice none 0 0) := (set_far _ _ _ _ _ _ (Or.inr (by omega))).trans y1'
  have z3 : (w10.setCell ⟨w.heap.size + 1, 0, none⟩ (.int .i64 (n : Nat))).frozen? ⟨w.heap.size + 1, 0 + 1, none⟩ = false := (World.frozen?_setCell ..).trans y2b
  go_wp2
  have u0 : ((w10.setCell ⟨w.heap.size + 1, 0, none⟩ (.int .i64 (n : Nat))).setCell ⟨w.heap.size + 1, 1, none⟩ (.slice (some ⟨r5, 0, none⟩) m cp5)).cell? ⟨w.heap.size + 1, 0, none⟩ = some (.int .i64 (n : Nat)) := (set_far _ _ _ _ _ _ (Or.inr (by omega))).trans (World.cell?_setCell_same _ _ _ y0')
  have u1 : ((w10.setCell ⟨w.heap.size + 1, 0, none⟩ (.int .i64 (n : Nat))).setCell ⟨w.heap.size + 1, 1, none⟩ (.slice (some ⟨r5, 0, none⟩) m cp5)).cell? ⟨w.heap.size + 1, 1, none⟩ = some (.slice (some ⟨r5, 0, none⟩) m cp5) := World.cell?_setCell_same _ _ _ z0
  have K12 : w.grownBy ((w10.setCell ⟨w.heap.size + 1, 0, none⟩ (.int .i64 (n : Nat))).setCell ⟨w.heap.size + 1, 1, none⟩ (.slice (some ⟨r5, 0, none⟩) m cp5)) none := grow_set4 (grow_set4 K10.out _ _ _ (by omega)) _ _ _ (by omega)
  have s12 : ((w10.setCell ⟨w.heap.size + 1, 0, none⟩ (.int .i64 (n : Nat))).setCell ⟨w.heap.size + 1, 1, none⟩ (.slice (some ⟨r5, 0, none⟩) m cp5)).heap.size = w10.heap.size := by rw [size_set, size_set]
  have fin : ∀ b j, b ≠ w.heap.size + 1 → ((w10.setCell ⟨w.heap.size + 1, 0, none⟩ (.int .i64 (n : Nat))).setCell ⟨w.heap.size + 1, 1, none⟩ (.slice (some ⟨r5, 0, none⟩) m cp5)).cell? ⟨b, j, none⟩ = w10.cell? ⟨b, j, none⟩ := fun b j hb => (set_far _ _ _ _ _ _ (Or.inl hb)).trans (set_far _ _ _ _ _ _ (Or.inl hb))
  refine bodyPost_ret (v := .tuple #[.agg #[.int .i64 (n : Nat), .slice (some ⟨r5, 0, none⟩) m cp5], .bool true]) (by simp [results, Try.results11, go_sem, u0, u1]) rfl ⟨_, rfl, K12, ?_⟩
  refine rows_set (fun i hi => (HC.out i hi).2) HBB.out K12 (by omega) (by omega) (fun j hj => (fin r5 j (Ne.symm ne2)).trans (c10.out j hj)) ?_
  subst hv9
  exact ⟨some ⟨r9, 0, none⟩, cp9, by rw [hl9], fun j h => ⟨r9, 0, rfl, HBB.out r9 (by omega), by omega, by rw [Nat.zero_add, fin r9 j ne4]; exact R10.out j h⟩⟩

theorem rpush4_no_end {w : World} {B : Nat → Prop} {m : Nat} {v : Value} {L : Nat → List Nat} (H : Rows4 w B v m L) {w' : World} (k : w.grownBy w' none) : Rows4 w' B v m L := H.kept k

set_option maxHeartbeats 2000000 in
theorem rpush4_no (i k : Int) {w : World} {B : Nat → Prop} {m n : Nat} {v : Value} {L : Nat → List Nat} (H : Rows4 w B v m L) (hm : m ≤ 4096) (hl : ∀ i, i < m → (L i).length ≤ 4096) (h : (i < 0 ∨ (m : Int) ≤ i) ∨ (k < 0 ∨ (n : Int) ≤ k) ∨ ∃ j, j < m ∧ ∃ x ∈ L j, (x : Int) = k) :
    Calls Try.prog 11 #[.agg #[.int .i64 (n : Nat), v], .int .i64 i, .int .i64 k] w fun e w' => e = .returned (.tuple #[.agg #[.int .i64 (n : Nat), v], .bool false]) ∧ w.grownBy w' none := by
  have H0 := H
  obtain ⟨R, cp, V, rfl, h1, h2, hc⟩ := H
  have ka := World.grownBy_alloc w (.cells #[.int .i64 (n : Nat), .slice (some ⟨R, 0, none⟩) m cp] 30) none
  have kb := World.grownBy_alloc (w.alloc (.cells #[.int .i64 (n : Nat), .slice (some ⟨R, 0, none⟩) m cp] 30)) (.cells #[.int .i64 0, .slice none 0 0] 30) none
  have kab := ka.trans kb
  have o0 : ((w.alloc (.cells #[.int .i64 (n : Nat), .slice (some ⟨R, 0, none⟩) m cp] 30)).alloc (.cells #[.int .i64 0, .slice none 0 0] 30)).cell? ⟨w.heap.size, 0, none⟩ = some (.int .i64 (n : Nat)) := by simp
  have o1 : ((w.alloc (.cells #[.int .i64 (n : Nat), .slice (some ⟨R, 0, none⟩) m cp] 30)).alloc (.cells #[.int .i64 0, .slice none 0 0] 30)).cell? ⟨w.heap.size, 0 + 1, none⟩ = some (.slice (some ⟨R, 0, none⟩) m cp) := by simp
  have p0 : ((w.alloc (.cells #[.int .i64 (n : Nat), .slice (some ⟨R, 0, none⟩) m cp] 30)).alloc (.cells #[.int .i64 0, .slice none 0 0] 30)).cell? ⟨w.heap.size + 1, 0, none⟩ = some (.int .i64 0) := by simp
  have p1 : ((w.alloc (.cells #[.int .i64 (n : Nat), .slice (some ⟨R, 0, none⟩) m cp] 30)).alloc (.cells #[.int .i64 0, .slice none 0 0] 30)).cell? ⟨w.heap.size + 1, 0 + 1, none⟩ = some (.slice none 0 0) := by simp
  have f0 : ∀ j, ((w.alloc (.cells #[.int .i64 (n : Nat), .slice (some ⟨R, 0, none⟩) m cp] 30)).alloc (.cells #[.int .i64 0, .slice none 0 0] 30)).frozen? ⟨w.heap.size + 1, j, none⟩ = false := fun j => by simp
  have hs0 : ((w.alloc (.cells #[.int .i64 (n : Nat), .slice (some ⟨R, 0, none⟩) m cp] 30)).alloc (.cells #[.int .i64 0, .slice none 0 0] 30)).heap.size = w.heap.size + 2 := by simp
  have CO := Lib.hid (ron_any k (n : Nat) (H0.kept kab) hm hl)
  have KAB := Lib.hid kab
  have END : Hid (∀ v : World, ((w.alloc (.cells #[.int .i64 (n : Nat), .slice (some ⟨R, 0, none⟩) m cp] 30)).alloc (.cells #[.int .i64 0, .slice none 0 0] 30)).grownBy v none → v.cell? ⟨w.heap.size, 0, none⟩ = some (.int .i64 (n : Nat)) ∧ v.cell? ⟨w.heap.size, 0 + 1, none⟩ = some (.slice (some ⟨R, 0, none⟩) m cp) ∧ v.cell? ⟨w.heap.size + 1, 0, none⟩ = some (.int .i64 0) ∧ (v.setCell ⟨w.heap.size + 1, 0, none⟩ (.int .i64 (n : Nat))).cell? ⟨w.heap.size + 1, 0 + 1, none⟩ = some (.slice none 0 0) ∧ v.frozen? ⟨w.heap.size + 1, 0, none⟩ = false ∧ (v.setCell ⟨w.heap.size + 1, 0, none⟩ (.int .i64 (n : Nat))).frozen? ⟨w.heap.size + 1, 0 + 1, none⟩ = false ∧ w.heap.size + 1 < v.heap.size) := Lib.hid fun v kv => by
    have s2 := kv.size
    rw [hs0] at s2
    refine ⟨(kv.cell_far ⟨w.heap.size, 0, none⟩ (show w.heap.size < _ by omega) (by simp)).trans o0, (kv.cell_far ⟨w.heap.size, 0 + 1, none⟩ (show w.heap.size < _ by omega) (by simp)).trans o1, (kv.cell_far ⟨w.heap.size + 1, 0, none⟩ (show w.heap.size + 1 < _ by omega) (by simp)).trans p0, (set_far _ _ _ _ _ _ (Or.inr (by omega))).trans ((kv.cell_far ⟨w.heap.size + 1, 0 + 1, none⟩ (show w.heap.size + 1 < _ by omega) (by simp)).trans p1), (kv.frozen_far ⟨w.heap.size + 1, 0, none⟩ (show w.heap.size + 1 < _ by omega) (by simp)).trans (f0 0), (World.frozen?_setCell ..).trans ((kv.frozen_far ⟨w.heap.size + 1, 0 + 1, none⟩ (show w.heap.size + 1 < _ by omega) (by simp)).trans (f0 _)), by omega⟩
  have FIN : Hid (∀ (v : World), ((w.alloc (.cells #[.int .i64 (n : Nat), .slice (some ⟨R, 0, none⟩) m cp] 30)).alloc (.cells #[.int .i64 0, .slice none 0 0] 30)).grownBy v none → w.grownBy ((v.setCell ⟨w.heap.size + 1, 0, none⟩ (.int .i64 (n : Nat))).setCell ⟨w.heap.size + 1, 1, none⟩ (.slice (some ⟨R, 0, none⟩) m cp)) none ∧ ((v.setCell ⟨w.heap.size + 1, 0, none⟩ (.int .i64 (n : Nat))).setCell ⟨w.heap.size + 1, 1, none⟩ (.slice (some ⟨R, 0, none⟩) m cp)).cell? ⟨w.heap.size + 1, 0, none⟩ = some (.int .i64 (n : Nat)) ∧ ((v.setCell ⟨w.heap.size + 1, 0, none⟩ (.int .i64 (n : Nat))).setCell ⟨w.heap.size + 1, 1, none⟩ (.slice (some ⟨R, 0, none⟩) m cp)).cell? ⟨w.heap.size + 1, 1, none⟩ = some (.slice (some ⟨R, 0, none⟩) m cp)) := Lib.hid fun v kv => by
    obtain ⟨e0, e1, e2, e3, e4, e5, e6⟩ := END.out v kv
    exact ⟨grow_set4 (grow_set4 (KAB.out.trans kv) _ _ _ (by omega)) _ _ _ (by omega), (set_far _ _ _ _ _ _ (Or.inr (by omega))).trans (World.cell?_setCell_same _ _ _ e2), World.cell?_setCell_same _ _ _ e3⟩
  clear ka kb kab H0 hc hl p0 p1 f0 hs0
  have o1' : ((w.alloc (.cells #[.int .i64 (n : Nat), .slice (some ⟨R, 0, none⟩) m cp] 30)).alloc (.cells #[.int .i64 0, .slice none 0 0] 30)).cell? ⟨w.heap.size, 1, none⟩ = some (.slice (some ⟨R, 0, none⟩) m cp) := o1
  have KZ := Lib.hid ((World.grownBy_alloc w (.cells #[.int .i64 (n : Nat), .slice (some ⟨R, 0, none⟩) m cp] 30) none).trans (World.grownBy_alloc (w.alloc (.cells #[.int .i64 (n : Nat), .slice (some ⟨R, 0, none⟩) m cp] 30)) (.cells #[.int .i64 (n : Nat), .slice (some ⟨R, 0, none⟩) m cp] 30) none))
  by_cases c1 : i < 0
  · clear h
    go_enter Try.func11, Try.ntmps11
    go_wp2
    exact bodyPost_ret (v := .tuple #[.agg #[.int .i64 (n : Nat), .slice (some ⟨R, 0, none⟩) m cp], .bool false]) (by simp [results, Try.results11, go_sem]) rfl ⟨rfl, KZ.out⟩
  by_cases c2 : (m : Int) ≤ i
  · clear h
    go_enter Try.func11, Try.ntmps11
    go_wp2
    exact bodyPost_ret (v := .tuple #[.agg #[.int .i64 (n : Nat), .slice (some ⟨R, 0, none⟩) m cp], .bool false]) (by simp [results, Try.results11, go_sem]) rfl ⟨rfl, KZ.out⟩
  by_cases c3 : k < 0
  · clear h
    go_enter Try.func11, Try.ntmps11
    go_wp2
    exact bodyPost_ret (v := .tuple #[.agg #[.int .i64 (n : Nat), .slice (some ⟨R, 0, none⟩) m cp], .bool false]) (by simp [results, Try.results11, go_sem]) rfl ⟨rfl, KZ.out⟩
  by_cases c4 : (n : Int) ≤ k
  · clear h
    go_enter Try.func11, Try.ntmps11
    go_wp2
    exact bodyPost_ret (v := .tuple #[.agg #[.int .i64 (n : Nat), .slice (some ⟨R, 0, none⟩) m cp], .bool false]) (by simp [results, Try.results11, go_sem]) rfl ⟨rfl, KZ.out⟩
  have hx : ∃ j, j < m ∧ ∃ x ∈ L j, (x : Int) = k := by
    rcases h with h | h | h
    · omega
    · omega
    · exact h
  have HX := Lib.hid hx
  have z1 : decide (i < 0) = false := by simp; omega
  have z2 : decide ((m : Int) ≤ i) = false := by simp; omega
  have z3 : decide (k < 0) = false := by simp; omega
  have z4 : decide ((n : Int) ≤ k) = false := by simp; omega
  clear h hx
  go_enter Try.func11, Try.ntmps11
  go_wp2_with fail
  refine CO.out.mono ?_
  rintro e w2 ⟨k2, hres⟩
  obtain ⟨q, rfl⟩ : ∃ q : Nat, e = .returned (.int .i64 q) := by
    rcases hres with ⟨j, he, _⟩ | ⟨_, hno⟩
    · exact ⟨j, he⟩
    · obtain ⟨j, hj, x, hx, hxk⟩ := HX.out
      exact absurd hxk (hno j hj x hx)
  obtain ⟨e0, e1, e2, e3, e4, e5, e6⟩ := END.out _ k2
  obtain ⟨g0, g1, g2⟩ := FIN.out _ k2
  have qq : (0 : Int) ≤ (q : Int) := by omega
  clear hres CO o0 o1 o1' KZ
  go_wp2
  exact bodyPost_ret (v := .tuple #[.agg #[.int .i64 (n : Nat), .slice (some ⟨R, 0, none⟩) m cp], .bool false]) (by simp [results, Try.results11, go_sem, g1, g2]) rfl ⟨rfl, g0⟩
end Go.Proofs.Ytbkjdbimkofceaa
