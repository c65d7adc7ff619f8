/-
  The plan of slots: plan.Of.
-/
import Derived.Test.YtacdmolkagcafaaPlanR
import Derived.Test.YtacdmolkagcafaaPlanF
import Derived.Laws.ResultCell
namespace Go.Proofs.Ytacdmolkagcafaa
open Go.RowKit Go.Lib
set_option maxRecDepth 100000
set_option linter.unusedVariables false

/-- The cells of a plan that has nothing. -/
def zeroPl : Array Value := ((List.range 128).map (fun _ => Value.int .i64 0) ++ [Value.int .i64 0, Value.int .u64 0]).toArray
theorem zero_info : (Try.prog.info? 29).map (fun i => (i.zero, i.size)) = some (some (.agg zeroPl), 130) := by kernel_rfl
theorem zero_run (w : World) : (zeroValue 29).run Try.prog w = .ok (.agg zeroPl) w := (zero_of_info zero_info).1 w

theorem zero_size : zeroPl.size = 130 := by decide

theorem zero_one : zeroPl.all (·.oneCell') = true := by
  simp [zeroPl, Value.oneCell']

/-- A whole plan into its box. -/
theorem store_plan {rest : List Oper} {ops : Array Oper} {dst : Option Nat} {tt : TypeId} {ps : String} {af : Array Edge} {x y : Operand} {f : Act} {w : World} {Q : Exit → Act → World → Prop} (b : Nat) (a : Array Value) (hr : w.there b 0 130) (hs : a.size = 130) (h1 : a.all (·.oneCell') = true)
    (hx : f.eval x = .pointer (some ⟨b, 0, none⟩)) (hy : f.eval y = .agg a) (hyp : wpList Try.prog ops Q rest (f.put dst undef) (w.setCells b 0 a.toList)) :
    wpList Try.prog ops Q ({ dst := dst, op := .store 29 x y, type := tt, pos := ps, after := af, guard := none } :: rest) f w :=
  wpList_store_mid rfl 29 x y rfl b 0 a hx hy (by rw [hs]; exact hr) (by rw [plan_info, hs]) h1 hyp

theorem only_setCells (b : Nat) : ∀ (vs : List Value) (o : Nat) (w : World), Only b (b + 1) w (w.setCells b o vs)
  | [], _, w => Only.refl _ _ w
  | v :: r, o, w => (Only.set (lo := b) (hi := b + 1) w ⟨b, o, none⟩ v (Nat.le_refl _) (Nat.lt_succ_self _)).trans (only_setCells b r (o + 1) _)

theorem there_new (w : World) (a : Array Value) (t : TypeId) (n : Nat) (hs : a.size = n) : (w.alloc (.cells a t)).there w.heap.size 0 n := fun j hj => by
  rw [Nat.zero_add]
  refine ⟨?_, by simp⟩
  rw [PlV.cell w t (show a[j]? = some a[j] from Array.getElem?_eq_getElem (by omega))]; rfl
theorem there_kept {w w' : World} {b n : Nat} (h : w.there b 0 n) (hb : b < w.heap.size) (k : w.grownBy w' none) : w'.there b 0 n := fun j hj => by
  obtain ⟨h1, h2⟩ := h j hj
  obtain ⟨u, hu⟩ := Option.isSome_iff_exists.1 h1
  exact ⟨by rw [k.cell hu (by simp)]; rfl, ((Only.of_none (lo := 0) (hi := 0) k).frozen ⟨b, 0 + j, none⟩ hb (Or.inr (Nat.zero_le _))).trans h2⟩

theorem there_only {w w' : World} {b n lo hi : Nat} (h : w.there b 0 n) (hb : b < w.heap.size) (k : Only lo hi w w') (hr : b < lo ∨ hi ≤ b) : w'.there b 0 n := fun j hj => by
  obtain ⟨h1, h2⟩ := h j hj
  exact ⟨by rw [k.cell ⟨b, 0 + j, none⟩ hb hr]; exact h1, (k.frozen ⟨b, 0 + j, none⟩ hb hr).trans h2⟩
theorem only_three {w : World} {b o0 o1 o2 : Nat} (v0 v1 v2 : Value) : Only b (b + 1) w (((w.setCell ⟨b, o0, none⟩ v0).setCell ⟨b, o1, none⟩ v1).setCell ⟨b, o2, none⟩ v2) :=
  (Only.set w ⟨b, o0, none⟩ v0 (Nat.le_refl _) (Nat.lt_succ_self _)).trans ((Only.set _ ⟨b, o1, none⟩ v1 (Nat.le_refl _) (Nat.lt_succ_self _)).trans (Only.set _ ⟨b, o2, none⟩ v2 (Nat.le_refl _) (Nat.lt_succ_self _)))

set_option maxHeartbeats 4000000 in
theorem of_no {w : World} {sa : Option Addr} {sb off n cap : Nat} {Z : Nat → Nat → Int} (h : SlAt w sa sb off n Z) (hm : n ≤ maxLen) (tn : Int) (hb : ¬ RightP n Z tn) :
    Calls Try.prog 10 #[.slice sa n cap, .int .i64 tn] w fun e w' => e = .returned (.tuple #[.agg zeroPl, .int .i64 1]) ∧ w.grownBy w' none := by
  have hz := zero_run
  have hzs := zero_size
  obtain ⟨zp, hzp⟩ : ∃ zp, zeroPl = zp := ⟨_, rfl⟩
  have hz1 := zero_one
  rw [hzp] at hz hzs hz1 ⊢
  clear hzp
  have TH0 := Lib.hid (there_new w zp 29 130 hzs)
  have k0 := World.grownBy_alloc w (.cells zp 29) none
  have C1 := Lib.hid (isRight_any (cap := cap) (h.kept k0) hm tn false ⟨(fun e => by cases e), fun e => absurd e hb⟩)
  have K0 := Lib.hid k0
  clear k0 h hb
  go_enter Try.func10, Try.ntmps10
  go_wp2_with fail
  refine C1.out.mono ?_
  rintro e w1 ⟨rfl, k1⟩
  have TH1 := Lib.hid (there_kept TH0.out (by simp) k1)
  have K1 := Lib.hid (K0.out.trans k1)
  clear C1 TH0 K0 k1
  obtain ⟨b, hb⟩ : ∃ b, w.heap.size = b := ⟨_, rfl⟩
  have HB := Lib.hid hb
  rw [hb] at TH1 ⊢
  clear hb
  go_wp2_with (refine store_plan b zp TH1.out hzs hz1 rfl rfl ?_)
  have RA := World.rangeAt_setCells_same w1 b 0 zp.toList (by simpa [hzs] using TH1.out)
  have LD := run_loadVar_mid (P := Try.prog) (w1.setCells b 0 zp.toList) b 0 29 zp.toList _ RA Try.underlying29 rfl (by rw [plan_info]; simp [hzs])
  refine bodyPost_ret (v := .tuple #[.agg zp, .int .i64 1]) ?_ rfl ?_
  · rw [results_cell_tmp rfl]
    simp only [Array.toArray_toList] at LD
    simp [asAddr, Result.andThen, LD]
  · exact ⟨rfl, Only.on K1.out (only_setCells b _ _ _) (Nat.le_of_eq HB.out)⟩

/-- A plan's box, the first k of its slots laid. -/
structure PlBox (w : World) (b n k C : Nat) (Z : Nat → Nat → Int) : Prop where
  lt : b < w.heap.size
  own : ∀ j, j < k → w.cell? ⟨b, j * 2, none⟩ = some (.int .i64 (Z j 0))
  len : ∀ j, j < k → w.cell? ⟨b, j * 2 + 1, none⟩ = some (.int .i64 (Z j 1))
  cnt : w.cell? ⟨b, 128, none⟩ = some (.int .i64 n)
  cyc : w.cell? ⟨b, 129, none⟩ = some (.int .u64 C)
  all : ∀ j, j < 130 → ∃ v, w.cell? ⟨b, j, none⟩ = some v ∧ v.oneCell' = true
  free : ∀ j, j < 130 → w.frozen? ⟨b, j, none⟩ = false
theorem PlBox.kept {w w' : World} {b n k C : Nat} {Z : Nat → Nat → Int} (h : PlBox w b n k C Z) (g : w.grownBy w' none) : PlBox w' b n k C Z :=
  ⟨Nat.lt_of_lt_of_le h.lt g.size, fun j hj => g.cell (h.own j hj) (by simp), fun j hj => g.cell (h.len j hj) (by simp), g.cell h.cnt (by simp), g.cell h.cyc (by simp),
    fun j hj => let ⟨v, h1, h2⟩ := h.all j hj; ⟨v, g.cell h1 (by simp), h2⟩, fun j hj => ((Only.of_none (lo := 0) (hi := 0) g).frozen ⟨b, j, none⟩ h.lt (Or.inr (Nat.zero_le _))).trans (h.free j hj)⟩
/-- One more slot. -/
theorem PlBox.put {w : World} {b n k C C' : Nat} {Z : Nat → Nat → Int} (h : PlBox w b n k C Z) (hk : k < 64) :
    PlBox (((w.setCell ⟨b, k * 2, none⟩ (.int .i64 (Z k 0))).setCell ⟨b, k * 2 + 1, none⟩ (.int .i64 (Z k 1))).setCell ⟨b, 129, none⟩ (.int .u64 C')) b n (k + 1) C' Z := by
  have oth : ∀ j, j ≠ k * 2 → j ≠ k * 2 + 1 → j ≠ 129 → (((w.setCell ⟨b, k * 2, none⟩ (.int .i64 (Z k 0))).setCell ⟨b, k * 2 + 1, none⟩ (.int .i64 (Z k 1))).setCell ⟨b, 129, none⟩ (.int .u64 C')).cell? ⟨b, j, none⟩ = w.cell? ⟨b, j, none⟩ := fun j h1 h2 h3 => by
    rw [World.cell?_setCell_other _ _ _ _ (by intro x; injection x with _ x2; exact h3 x2.symm), World.cell?_setCell_other _ _ _ _ (by intro x; injection x with _ x2; exact h2 x2.symm), World.cell?_setCell_other _ _ _ _ (by intro x; injection x with _ x2; exact h1 x2.symm)]
  obtain ⟨u0, a0, _⟩ := h.all (k * 2) (by omega)
  obtain ⟨u1, a1, _⟩ := h.all (k * 2 + 1) (by omega)
  obtain ⟨u2, a2, _⟩ := h.all 129 (by omega)
  have e0 : (((w.setCell ⟨b, k * 2, none⟩ (.int .i64 (Z k 0))).setCell ⟨b, k * 2 + 1, none⟩ (.int .i64 (Z k 1))).setCell ⟨b, 129, none⟩ (.int .u64 C')).cell? ⟨b, k * 2, none⟩ = some (.int .i64 (Z k 0)) := by
    rw [World.cell?_setCell_other _ _ _ _ (by intro x; injection x with _ x2; omega), World.cell?_setCell_other _ _ _ _ (by intro x; injection x with _ x2; omega)]
    exact World.cell?_setCell_same _ _ _ a0
  have e1 : (((w.setCell ⟨b, k * 2, none⟩ (.int .i64 (Z k 0))).setCell ⟨b, k * 2 + 1, none⟩ (.int .i64 (Z k 1))).setCell ⟨b, 129, none⟩ (.int .u64 C')).cell? ⟨b, k * 2 + 1, none⟩ = some (.int .i64 (Z k 1)) := by
    rw [World.cell?_setCell_other _ _ _ _ (by intro x; injection x with _ x2; omega)]
    exact World.cell?_setCell_same _ _ _ ((World.cell?_setCell_other _ _ _ _ (by intro x; injection x with _ x2; omega)).trans a1)
  have e2 : (((w.setCell ⟨b, k * 2, none⟩ (.int .i64 (Z k 0))).setCell ⟨b, k * 2 + 1, none⟩ (.int .i64 (Z k 1))).setCell ⟨b, 129, none⟩ (.int .u64 C')).cell? ⟨b, 129, none⟩ = some (.int .u64 C') := by
    exact World.cell?_setCell_same _ _ _ ((World.cell?_setCell_other _ _ _ _ (by intro x; injection x with _ x2; omega)).trans ((World.cell?_setCell_other _ _ _ _ (by intro x; injection x with _ x2; omega)).trans a2))
  refine ⟨by simpa [World.setCell] using h.lt, fun j hj => ?_, fun j hj => ?_, ?_, e2, fun j hj => ?_, fun j hj => by rw [World.frozen?_setCell, World.frozen?_setCell, World.frozen?_setCell]; exact h.free j hj⟩
  · by_cases e : j = k
    · subst e; exact e0
    · rw [oth _ (by omega) (by omega) (by omega)]; exact h.own j (by omega)
  · by_cases e : j = k
    · subst e; exact e1
    · rw [oth _ (by omega) (by omega) (by omega)]; exact h.len j (by omega)
  · rw [oth _ (by omega) (by omega) (by omega)]; exact h.cnt
  · by_cases c0 : j = k * 2
    · subst c0; exact ⟨_, e0, rfl⟩
    · by_cases c1 : j = k * 2 + 1
      · subst c1; exact ⟨_, e1, rfl⟩
      · by_cases c2 : j = 129
        · subst c2; exact ⟨_, e2, rfl⟩
        · rw [oth _ c0 c1 c2]; exact h.all j hj

theorem PlBox.value {w : World} {b n C : Nat} {Z : Nat → Nat → Int} (h : PlBox w b n n C Z) (hn : n ≤ 64) : ∃ a : Array Value, a.size = 130 ∧ w.rangeAt b 0 a.toList ∧ a.all (·.oneCell') = true ∧
    (∀ j, j < n → a[j * 2]? = some (.int .i64 (Z j 0))) ∧ (∀ j, j < n → a[j * 2 + 1]? = some (.int .i64 (Z j 1))) ∧ a[128]? = some (.int .i64 n) ∧ a[129]? = some (.int .u64 C) := by
  refine ⟨((List.range 130).map (fun j => (w.cell? ⟨b, j, none⟩).getD undef)).toArray, by simp, ?_, ?_, ?_, ?_, ?_, ?_⟩
  · intro j v hv
    simp only [List.getElem?_map, Option.map_eq_some_iff, List.getElem?_eq_some_iff] at hv
    obtain ⟨i, ⟨hi, rfl⟩, rfl⟩ := hv
    simp at hi
    obtain ⟨v, h1, _⟩ := h.all j (by omega)
    simp [h1]
  · rw [Array.all_eq_true_iff_forall_mem]
    intro v hv
    simp at hv
    obtain ⟨j, hj, rfl⟩ := hv
    obtain ⟨v, h1, h2⟩ := h.all j hj
    rw [h1]; exact h2
  · intro j hj; have hh : j * 2 < 130 := by omega
    simp [h.own j hj, hh]
  · intro j hj; have hh : j * 2 + 1 < 130 := by omega
    simp [h.len j hj, hh]
  · simp [h.cnt]
  · simp [h.cyc]

theorem zero_at (j : Nat) (hj : j < 128) : zeroPl[j]? = some (.int .i64 0) := by
  simp [zeroPl, List.getElem?_append, hj]
theorem zero_cyc : zeroPl[129]? = some (.int .u64 0) := by simp [zeroPl]

/-- The first box: no slot yet. -/
theorem PlBox.new {w : World} {b n : Nat} {Z : Nat → Nat → Int} {cs : Array Value} (hc : cs = zeroPl.setIfInBounds 128 (.int .i64 n)) (hb : b < w.heap.size) (hr : w.rangeAt b 0 cs.toList) (hf : ∀ j, j < 130 → w.frozen? ⟨b, j, none⟩ = false) : PlBox w b n 0 0 Z := by
  have hcell : ∀ j v, cs[j]? = some v → w.cell? ⟨b, j, none⟩ = some v := fun j v h => by
    have := hr j v (by simpa using h)
    rwa [Nat.zero_add] at this
  have h128 : cs[128]? = some (.int .i64 n) := by rw [hc, Array.getElem?_setIfInBounds]; simp [zero_size]
  have h129 : cs[129]? = some (.int .u64 0) := by rw [hc, Array.getElem?_setIfInBounds]; simp [zero_cyc]
  refine ⟨hb, fun j hj => absurd hj (by omega), fun j hj => absurd hj (by omega), hcell _ _ h128, hcell _ _ h129, fun j hj => ?_, hf⟩
  by_cases e : j = 128
  · subst e; exact ⟨_, hcell _ _ h128, rfl⟩
  · by_cases e2 : j = 129
    · subst e2; exact ⟨_, hcell _ _ h129, rfl⟩
    · exact ⟨_, hcell j (.int .i64 0) (by rw [hc, Array.getElem?_setIfInBounds, if_neg (fun x => e x.symm)]; exact zero_at j (by omega)), rfl⟩

set_option maxHeartbeats 4000000 in
theorem of_ok {w : World} {sa : Option Addr} {sb off n cap : Nat} {Z : Nat → Nat → Int} (h : SlAt w sa sb off n Z) (hm : n ≤ maxLen) (tn : Int) (hb : RightP n Z tn) :
    Calls Try.prog 10 #[.slice sa n cap, .int .i64 tn] w fun e w' => ∃ a, e = .returned (.tuple #[.agg a, .int .i64 0]) ∧ PlV a (fun i => Z i 0) (fun i => (Z i 1).toNat) n (sumN (fun i => (Z i 1).toNat) n) ∧ w.grownBy w' none := by
  have hz := zero_run
  have hzs := zero_size
  have hz1 := zero_one
  obtain ⟨cs, hcs⟩ : ∃ cs, zeroPl.setIfInBounds 128 (.int .i64 (n : Int)) = cs := ⟨_, rfl⟩
  have PN := Lib.hid (fun (w : World) (b : Nat) => PlBox.new (w := w) (b := b) (n := n) (Z := Z) hcs.symm)
  have hcsz : cs.size = 130 := by rw [← hcs]; simp [zero_size]
  obtain ⟨zp, hzp⟩ : ∃ zp, zeroPl = zp := ⟨_, rfl⟩
  rw [hzp] at hz hzs hz1 hcs
  have hcs1 : cs.all (·.oneCell') = true := by
    rw [← hcs, Array.all_eq_true_iff_forall_mem]
    intro v hv
    rcases Array.mem_or_eq_of_mem_setIfInBounds hv with h | h
    · exact (Array.all_eq_true_iff_forall_mem.1 hz1) v h
    · subst h; rfl
  clear hzp
  have TH0 := Lib.hid (there_new w zp 29 130 hzs)
  have k0 := World.grownBy_alloc w (.cells zp 29) none
  have C1 := Lib.hid (isRight_any (cap := cap) (h.kept k0) hm tn true ⟨fun _ => hb, fun _ => rfl⟩)
  have K0 := Lib.hid k0
  have HS := Lib.hid h
  have HR := Lib.hid hb
  have hn64 := hb.1
  have hn0 : 0 < n := by obtain ⟨j, hj, _⟩ := hb.2.2.2.2 0 (by have := hb.2.1; omega); omega
  obtain rfl := h.at_ hn0
  have HM := Lib.hid hm
  clear k0 h hb hm
  go_enter Try.func10, Try.ntmps10
  go_wp2_with fail
  refine C1.out.mono ?_
  rintro e w1 ⟨rfl, k1⟩
  have hbl : w.heap.size < w1.heap.size := Nat.lt_of_lt_of_le (by simp) k1.size
  have TH1 := Lib.hid (there_kept TH0.out (by simp) k1)
  have K1 := Lib.hid (K0.out.trans k1)
  clear C1 TH0 K0 k1
  obtain ⟨b, hb⟩ : ∃ b, w.heap.size = b := ⟨_, rfl⟩
  have HB := Lib.hid hb
  rw [hb] at TH1 hbl ⊢
  clear hb
  have TN := Lib.hid (there_new w1 zp 29 130 hzs)
  go_wp2_with (refine store_plan w1.heap.size cs TN.out hcsz hcs1 rfl rfl ?_)
  have RA := World.rangeAt_setCells_same (w1.alloc (.cells zp 29)) w1.heap.size 0 cs.toList (by simpa [hcsz] using TN.out)
  have kn := World.grownBy_alloc w1 (.cells zp 29) none
  have kp := Only.on kn (only_setCells w1.heap.size cs.toList 0 (w1.alloc (.cells zp 29))) (Nat.le_refl _)
  have TH2 := Lib.hid (there_kept TH1.out hbl kp)
  have P0 := Lib.hid (PN.out _ w1.heap.size (Nat.lt_of_lt_of_le (by simp) (only_setCells w1.heap.size cs.toList 0 (w1.alloc (.cells zp 29))).size) RA (fun j hj => by rw [World.frozen?_setCells]; have := (TN.out j hj).2; rwa [Nat.zero_add] at this))
  have K2 := Lib.hid (K1.out.trans kp)
  clear RA kn kp TN TH1 K1 PN
  obtain ⟨b2, hb2⟩ : ∃ b2, w1.heap.size = b2 := ⟨_, rfl⟩
  generalize (w1.alloc (.cells zp 29)).setCells w1.heap.size 0 cs.toList = w2 at *
  rw [hb2] at P0 ⊢
  have HB2 : Hid (b < b2) := Lib.hid (by omega)
  clear hb2 hbl
  go_loopw [19] (fun it wr => ∃ k : Nat, k ≤ n ∧ it = .int .i64 k ∧ Hid (PlBox wr b2 n k (sumN (fun i => (Z i 1).toNat) k) Z) ∧ Hid (wr.there b 0 130) ∧ Hid (b < wr.heap.size) ∧ Hid (w.grownBy wr none)) (fun it _ => n - (intOf it).toNat)
  case atStart => exact ⟨0, Nat.zero_le _, rfl, P0, TH2, Lib.hid (Nat.lt_trans HB2.out P0.out.lt), K2⟩
  case round =>
    obtain ⟨k, hk, rfl, PB, TH, BL, KR⟩ := hrel
    clear P0 TH2 K2
    by_cases hkn : k < n
    · have d0 := (HS.out.kept KR.out).own k hkn
      have d1 := (HS.out.kept KR.out).len k hkn
      obtain ⟨g0, g1, g2, g3⟩ := HR.out.2.2.2.1 k hkn
      obtain ⟨l, hl⟩ : ∃ l : Nat, Z k 1 = (l : Int) := ⟨(Z k 1).toNat, by omega⟩
      have ka := World.grownBy_alloc wr (.cells #[.int .i64 (Z k 0), .int .i64 (Z k 1)] 26) none
      have PB1 := PB.out.kept ka
      obtain ⟨u0, x0, _⟩ := PB1.all (k * 2) (by omega)
      obtain ⟨u1, x1, _⟩ := PB1.all (k * 2 + 1) (by omega)
      have y0 := PB1.free (k * 2) (by omega)
      have y1 := PB1.free (k * 2 + 1) (by omega)
      have y2 := PB1.free 129 (by omega)
      have x2 := PB1.cyc
      have hbw : b2 ≠ wr.heap.size := by have := PB.out.lt; omega
      have hbw' : wr.heap.size ≠ b2 := fun e => hbw e.symm
      have ki0 : (0 : Int) ≤ (k : Int) := by omega
      have ki1 : (k : Int) < 64 := by omega
      have n1 : k * 2 ≠ 129 := by omega
      have n2 : k * 2 + 1 ≠ 129 := by omega
      have SUM := Lib.hid (show sumN (fun i => (Z i 1).toNat) (k + 1) = sumN (fun i => (Z i 1).toNat) k + (Z k 1).toNat from rfl)
      have hsl : sumN (fun i => (Z i 1).toNat) k ≤ k * 1000 := sumN_le _ 1000 k (fun i hi => by have := HR.out.2.2.2.1 i (by omega); omega)
      have P2 := Lib.hid (PB1.put (C' := sumN (fun i => (Z i 1).toNat) (k + 1)) (by omega))
      have KA := Lib.hid (KR.out.trans ka)
      have TH3 := Lib.hid (there_kept TH.out BL.out ka)
      rw [hl] at d1 x0 x1 x2 y0 y1 y2 P2 KA TH3
      clear ka PB1
      have a1 : IntKind.u64.wrap (l : Int) = (l : Int) := by rw [IntKind.wrap_u64]; omega
      have a2 : IntKind.u64.wrap ((sumN (fun i => (Z i 1).toNat) k : Int) + (l : Int)) = ((sumN (fun i => (Z i 1).toNat) (k + 1) : Nat) : Int) := by rw [IntKind.wrap_u64, SUM.out]; omega
      have BA : Hid (b < (wr.alloc (.cells #[.int .i64 (Z k 0), .int .i64 (l : Int)] 26)).heap.size) := Lib.hid (by have := BL.out; simp; omega)
      generalize hs1 : sumN (fun i => (Z i 1).toNat) (k + 1) = s1 at *
      generalize sumN (fun i => (Z i 1).toNat) k = s0 at *
      have HS1 := Lib.hid hs1
      clear hl g0 g1 g2 g3 hs1
      go_wp2
      go_roundw
      case rel =>
        refine ⟨k + 1, by omega, by go_num, ?_, Lib.hid (there_only TH3.out BA.out (only_three _ _ _) (Or.inl HB2.out)), Lib.hid (Nat.lt_of_lt_of_le BA.out (only_three (b := b2) (o0 := k * 2) (o1 := k * 2 + 1) (o2 := 129) (.int .i64 (Z k 0)) (.int .i64 (l : Int)) (.int .u64 (s1 : Int))).size), Lib.hid (Only.on KA.out (only_three _ _ _) (by have := HB.out; have := HB2.out; omega))⟩
        rw [HS1.out]; exact P2
      case measure => simp [intOf]; omega
    · obtain rfl : k = n := by omega
      clear hkn
      obtain ⟨a, q0, q1, q2, q3, q4, q5, q6⟩ := PB.out.value hn64
      have PV : Hid (PlV a (fun i => Z i 0) (fun i => (Z i 1).toNat) k (sumN (fun i => (Z i 1).toNat) k)) := Lib.hid ⟨q0, q2, q3, fun i hi => by rw [q4 i hi]; have := HR.out.2.2.2.1 i hi; simp; omega, q5, q6, hn64, fun i hi => by have := HR.out.2.2.2.1 i hi; omega, rfl⟩
      have Q1 := Lib.hid q1
      clear q1 q3 q4 q5 q6
      go_wp2_with (first | (refine load_plan b2 a Q1.out q0 rfl ?_) | (refine store_plan b a TH.out q0 q2 rfl rfl ?_))
      have RA := World.rangeAt_setCells_same wr b 0 a.toList (by simpa [q0] using TH.out)
      have LD := run_loadVar_mid (P := Try.prog) (wr.setCells b 0 a.toList) b 0 29 a.toList _ RA Try.underlying29 rfl (by rw [plan_info]; simp [q0])
      refine bodyPost_ret (v := .tuple #[.agg a, .int .i64 0]) ?_ rfl ?_
      · rw [results_cell_tmp rfl]
        simp only [Array.toArray_toList] at LD
        simp [asAddr, Result.andThen, LD]
      · exact ⟨a, rfl, PV.out, Only.on KR.out (only_setCells b _ _ _) (Nat.le_of_eq HB.out)⟩
end Go.Proofs.Ytacdmolkagcafaa
