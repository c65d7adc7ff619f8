/-
  call.Right, over this seat's translation: is a call right?
-/
import Derived.Test.YtcnojgkolpdomaaDoorCall2
namespace Go.Proofs.YtcnojgkolpdomaaDoor
open Go.RowKit Go.Lib
set_option maxRecDepth 100000
set_option linter.unusedVariables false

def Cl.val (x : Cl) : Value := .agg #[.int .i64 x.op, .int .u64 (x.a : Nat), .int .u64 (x.b : Nat), .int .u64 (x.c : Nat)]
theorem nArgs_le (k : Nat) : nArgs k ≤ 3 := by
  unfold nArgs
  split <;> decide

set_option maxHeartbeats 1000000 in
theorem cnumbers (w : World) (op : Int) (a b c : Nat) :
    Calls Tryd.prog 37 #[.agg #[.int .i64 op, .int .u64 (a : Nat), .int .u64 (b : Nat), .int .u64 (c : Nat)]] w fun e w' => e = .returned (.agg #[.int .u64 (a : Nat), .int .u64 (b : Nat), .int .u64 (c : Nat)]) ∧ w.grownBy w' none := by
  go_enter Tryd.func37, Tryd.ntmps37
  go_wp2
  exact bodyPost_ret (v := .agg #[.int .u64 (a : Nat), .int .u64 (b : Nat), .int .u64 (c : Nat)]) (by simp [results, Tryd.results37, go_sem]) rfl ⟨rfl, ((World.grownBy_alloc w _ none).trans (World.grownBy_alloc _ _ none))⟩

/-- Are the numbers from the n-th on all nothing? -/
def zFrom (x : Cl) (n : Nat) : Bool := (decide (1 ≤ n) || decide (x.a = 0)) && (decide (2 ≤ n) || decide (x.b = 0)) && (decide (3 ≤ n) || decide (x.c = 0))
theorem okC_in (x : Cl) (k : Nat) (h : x.op = (k : Int)) (hk : k < 13) : okC x = zFrom x (nArgs k) := by
  have h1 : x.op.toNat = k := by omega
  have h2 : 0 ≤ x.op := by omega
  have h3 : x.op < 13 := by omega
  simp [okC, zFrom, h1, h2, h3]
theorem okC_no (x : Cl) (h : x.op < 0 ∨ 13 ≤ x.op) : okC x = false := by
  rcases h with h | h
  · simp [okC, show ¬ (0 ≤ x.op) by omega]
  · simp [okC, show ¬ (x.op < 13) by omega]

set_option maxHeartbeats 2000000 in
theorem cright {w : World} (x : Cl) (hs : smC x) (HT : FormsAt w) :
    Calls Tryd.prog 20 #[x.val] w fun e w' => e = .returned (.bool (okC x)) ∧ w.grownBy w' none := by
  obtain ⟨op, a, b, c⟩ := x
  obtain ⟨ha, hb, hc⟩ := hs
  simp only at ha hb hc
  unfold Cl.val
  simp only
  have k1 := World.grownBy_alloc w (.cells #[.int .i64 op, .int .u64 (a : Nat), .int .u64 (b : Nat), .int .u64 (c : Nat)] 24) none
  by_cases hop : op < 0 ∨ 13 ≤ op
  · rw [okC_no _ hop]
    have C1 := Lib.hid (cof_no (w := w.alloc (.cells #[.int .i64 op, .int .u64 (a : Nat), .int .u64 (b : Nat), .int .u64 (c : Nat)] 24)) op hop)
    unfold fZero at C1
    clear hop HT
    go_enter Tryd.func20, Tryd.ntmps20
    go_wp2_with fail
    refine C1.out.mono ?_
    rintro e w1 ⟨rfl, g1⟩
    have G1 := Lib.hid (k1.trans g1)
    clear g1 C1
    go_wp2
    go_ret
    exact ⟨rfl, G1.out.trans (World.grownBy_alloc _ _ none)⟩
  · have h0 : 0 ≤ op := by omega
    obtain ⟨k, rfl⟩ : ∃ k : Nat, op = (k : Int) := ⟨op.toNat, by omega⟩
    have hk : k < 13 := by omega
    rw [okC_in _ k rfl hk]
    have C1 := Lib.hid (cof_in (w := w.alloc (.cells #[.int .i64 (k : Int), .int .u64 (a : Nat), .int .u64 (b : Nat), .int .u64 (c : Nat)] 24)) k hk (HT.kept k1))
    have hna := nArgs_le k
    unfold fVal at C1
    generalize fNm k = nm at *
    generalize nArgs k = na at *
    generalize fKd k = kd at *
    generalize fRt k = rt at *
    obtain ⟨R, hR⟩ : ∃ R, R = zFrom ⟨(k : Int), a, b, c⟩ na := ⟨_, rfl⟩
    rw [← hR]
    have HV := Lib.hid hR
    have C2 := Lib.hid (fun w1 => cnumbers w1 (k : Int) a b c)
    clear hop HT h0 hR
    obtain ⟨g, hg0, hg1, hg2⟩ : ∃ g : Nat → Nat, g 0 = a ∧ g 1 = b ∧ g 2 = c := ⟨fun i => if i = 0 then a else if i = 1 then b else c, rfl, rfl, rfl⟩
    have hzf : ∀ m, m ≤ 3 → (∀ i, na ≤ i → i < m → g i = 0) → (m < 3 → na ≤ m → g m ≠ 0 → R = false) ∧ (m = 3 → R = true) := by
      intro m hm hz
      rw [HV.out, zFrom]
      refine ⟨fun h3 hle hne => ?_, fun h3 => ?_⟩
      · match m, h3 with
        | 0, _ => have : na = 0 := by omega
                  subst this; rw [hg0] at hne; simp [hne]
        | 1, _ => have : na ≤ 1 := by omega
                  rw [hg1] at hne; simp [hne, show ¬ 2 ≤ na by omega]
        | 2, _ => have : na ≤ 2 := by omega
                  rw [hg2] at hne; simp [hne, show ¬ 3 ≤ na by omega]
      · subst h3
        have e0 : 1 ≤ na ∨ a = 0 := by rcases Nat.lt_or_ge na 1 with h | h; exact Or.inr (hg0 ▸ hz 0 (by omega) (by omega)); exact Or.inl h
        have e1 : 2 ≤ na ∨ b = 0 := by rcases Nat.lt_or_ge na 2 with h | h; exact Or.inr (hg1 ▸ hz 1 (by omega) (by omega)); exact Or.inl h
        have e2 : 3 ≤ na ∨ c = 0 := by rcases Nat.lt_or_ge na 3 with h | h; exact Or.inr (hg2 ▸ hz 2 (by omega) (by omega)); exact Or.inl h
        simp [e0, e1, e2]
    have HZ := Lib.hid hzf
    clear hzf
    go_enter Tryd.func20, Tryd.ntmps20
    go_wp2_with fail
    refine C1.out.mono ?_
    rintro e w1 ⟨rfl, g1⟩
    have G1 := Lib.hid (k1.trans g1)
    have bx : ∀ j, w1.cell? ⟨w.heap.size, j, none⟩ = (w.alloc (.cells #[.int .i64 (k : Int), .int .u64 (a : Nat), .int .u64 (b : Nat), .int .u64 (c : Nat)] 24)).cell? ⟨w.heap.size, j, none⟩ := fun j => g1.cell_far ⟨w.heap.size, j, none⟩ (by simp) (by simp)
    have hs1 : w.heap.size < w1.heap.size := by have := g1.size; simp at this; omega
    have x0 : w1.cell? ⟨w.heap.size, 0, none⟩ = some (.int .i64 (k : Int)) := (bx 0).trans (World.cell?_alloc_new ..)
    have x1 : w1.cell? ⟨w.heap.size, 1, none⟩ = some (.int .u64 (a : Nat)) := (bx 1).trans (World.cell?_alloc_new ..)
    have x2 : w1.cell? ⟨w.heap.size, 2, none⟩ = some (.int .u64 (b : Nat)) := (bx 2).trans (World.cell?_alloc_new ..)
    have x3 : w1.cell? ⟨w.heap.size, 3, none⟩ = some (.int .u64 (c : Nat)) := (bx 3).trans (World.cell?_alloc_new ..)
    clear g1 C1 bx k1
    go_wp2_with fail
    refine (C2.out _).mono ?_
    rintro e w2 ⟨rfl, g2⟩
    have G2 := Lib.hid ((G1.out.trans (World.grownBy_alloc w1 (.cells #[.string ⟨nm⟩, .int .i64 (na : Nat), .int .i64 (kd : Nat), .int .i64 (rt : Nat)] 27) none)).trans g2)
    have bf : ∀ j, w2.cell? ⟨w1.heap.size, j, none⟩ = (w1.alloc (.cells #[.string ⟨nm⟩, .int .i64 (na : Nat), .int .i64 (kd : Nat), .int .i64 (rt : Nat)] 27)).cell? ⟨w1.heap.size, j, none⟩ := fun j => g2.cell_far ⟨w1.heap.size, j, none⟩ (by simp) (by simp)
    have hs2 : w1.heap.size < w2.heap.size := by have := g2.size; simp at this; omega
    have y1 : w2.cell? ⟨w1.heap.size, 1, none⟩ = some (.int .i64 (na : Nat)) := (bf 1).trans (World.cell?_alloc_new ..)
    clear g2 C2 bf x0 x1 x2 x3 G1
    have q3 : ¬ ((na : Nat) : Int) < 0 := by omega
    have q4 : ((na : Nat) : Int) ≤ 3 := by omega
    by_cases h3 : 3 = na
    · have h3' := h3.symm
      subst h3'
      have hR := (HZ.out 3 (Nat.le_refl _) (fun i h1 h2 => absurd h2 (by omega))).2 rfl
      subst hR
      go_wp2
      have G3 := G2.out.trans (World.grownBy_alloc w2 (.cells #[.int .u64 (a : Nat), .int .u64 (b : Nat), .int .u64 (c : Nat)] 46) none)
      generalize w2.alloc (.cells #[.int .u64 (a : Nat), .int .u64 (b : Nat), .int .u64 (c : Nat)] 46) = w3 at *
      go_loopw [22] (fun iv wr => iv = .int .i64 0 ∧ wr = w3) (fun iv _ => 3 - (intOf iv).toNat)
      case atStart => exact ⟨rfl, rfl⟩
      case round =>
        obtain ⟨rfl, rfl⟩ := hrel
        go_wp2
        go_ret
        exact ⟨rfl, G3⟩
    · go_wp2
      have G3 := G2.out.trans (World.grownBy_alloc w2 (.cells #[.int .u64 (a : Nat), .int .u64 (b : Nat), .int .u64 (c : Nat)] 46) none)
      have hcc : ∀ i, i < 3 → (w2.alloc (.cells #[.int .u64 (a : Nat), .int .u64 (b : Nat), .int .u64 (c : Nat)] 46)).cell? ⟨w2.heap.size, i, none⟩ = some (.int .u64 (g i : Nat)) := by
        intro i hi
        rw [World.cell?_alloc_new]
        match i, hi with
        | 0, _ => rw [hg0]; rfl
        | 1, _ => rw [hg1]; rfl
        | 2, _ => rw [hg2]; rfl
      have HC := Lib.hid hcc
      clear hcc G2 y1 hg0 hg1 hg2
      generalize w2.alloc (.cells #[.int .u64 (a : Nat), .int .u64 (b : Nat), .int .u64 (c : Nat)] 46) = w3 at *
      generalize w2.heap.size = B2 at *
      go_loopw [22] (fun iv wr => ∃ i : Nat, i ≤ 3 - na ∧ iv = .int .i64 (i : Int) ∧ Hid (∀ j, na ≤ j → j < na + i → g j = 0) ∧ wr = w3) (fun iv _ => 3 - (intOf iv).toNat)
      case atStart => exact ⟨0, Nat.zero_le _, rfl, Lib.hid (fun j h1 h2 => absurd h2 (by omega)), rfl⟩
      case round =>
        obtain ⟨i, hi, rfl, HJ, rfl⟩ := hrel
        have z := HZ.out (na + i) (by omega) HJ.out
        by_cases hlt : i < 3 - na
        · have hcell := HC.out (na + i) (by omega)
          have hb : (i : Int) < ((3 - na : Nat) : Int) := by omega
          have z1 := Lib.hid (z.1 (by omega) (by omega))
          clear z
          generalize hgi : g (na + i) = y at *
          have HY := Lib.hid hgi
          clear hgi
          by_cases hy : y = 0
          · subst hy
            go_wp2
            go_roundw
            case rel => exact ⟨i + 1, by omega, by go_num, Lib.hid (fun j h1 h2 => by
              by_cases e : j = na + i
              · rw [e]; exact HY.out
              · exact HJ.out j h1 (by omega)), trivial⟩
            case measure => simp [intOf]; omega
          · have hR := z1.out hy
            have hy1 : ((y : Int) != 0) = true := by rw [bne_iff_ne]; omega
            clear hy
            subst hR
            go_wp2
            go_ret
            exact ⟨rfl, G3⟩
        · obtain rfl : i = 3 - na := by omega
          have hR := z.2 (by omega)
          subst hR
          go_wp2
          go_ret
          exact ⟨rfl, G3⟩
end Go.Proofs.YtcnojgkolpdomaaDoor
