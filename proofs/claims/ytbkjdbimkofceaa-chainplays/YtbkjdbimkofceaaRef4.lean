/-
  Contracts of nightjarref04, over this seat's translation: how its lists lie in memory; New, On.
-/
import Derived.Test.YtbkjdbimkofceaaChain6
import Derived.Maps.AppendAt
import Derived.OwnWalk
import Derived.Laws.OwnMore
namespace Go.Proofs.Ytbkjdbimkofceaa
open Go.RowKit Go.Lib
set_option maxRecDepth 100000

/-- A slice of numbers that can be read, and lies in blocks of a kind. -/
def ReadsB (w : World) (B : Nat → Prop) (v : Value) (F : List Nat) : Prop := ∃ a cap, v = .slice a F.length cap ∧ ∀ j (h : j < F.length), ∃ b o, a = some ⟨b, o, none⟩ ∧ B b ∧ b < w.heap.size ∧ w.cell? ⟨b, o + j, none⟩ = some (.int .i64 (F[j] : Nat))
theorem ReadsB.reads {w : World} {B : Nat → Prop} {v : Value} {F : List Nat} (h : ReadsB w B v F) : Reads w v F := by
  obtain ⟨a, cap, rfl, hc⟩ := h
  exact ⟨a, cap, rfl, fun j hj => let ⟨b, o, e, _, h2, h3⟩ := hc j hj; ⟨b, o, e, h2, h3⟩⟩
theorem ReadsB.kept {w w' : World} {B : Nat → Prop} {v : Value} {F : List Nat} (h : ReadsB w B v F) (hg : w.grownBy w' none) : ReadsB w' B v F := by
  obtain ⟨a, cap, rfl, hc⟩ := h
  refine ⟨a, cap, rfl, fun j hj => ?_⟩
  obtain ⟨b, o, e, h1, hb, h⟩ := hc j hj
  exact ⟨b, o, e, h1, Nat.lt_of_lt_of_le hb hg.size, (hg.cell_far ⟨b, o + j, none⟩ hb (by simp)).trans h⟩
theorem ReadsB.only {w w' : World} {B : Nat → Prop} {lo hi : Nat} {v : Value} {F : List Nat} (h : ReadsB w B v F) (k : Only lo hi w w') (hd : ∀ b, B b → b < lo ∨ hi ≤ b) : ReadsB w' B v F := by
  obtain ⟨a, cap, rfl, hc⟩ := h
  refine ⟨a, cap, rfl, fun j hj => ?_⟩
  obtain ⟨b, o, e, h1, hb, h⟩ := hc j hj
  exact ⟨b, o, e, h1, Nat.lt_of_lt_of_le hb k.size, (k.cell ⟨b, o + j, none⟩ hb (hd b h1)).trans h⟩
theorem readsB_nil (w : World) (B : Nat → Prop) : ReadsB w B (.slice none 0 0) [] := ⟨none, 0, rfl, fun j h => absurd h (by simp)⟩
theorem readsB_row {w : World} {B : Nat → Prop} {B' r cp : Nat} {F : List Nat} (h : RowOf w B' r cp F) (hB : B r) : ReadsB w B (.slice (some ⟨r, 0, none⟩) F.length cp) F :=
  ⟨_, _, rfl, fun j hj => ⟨r, 0, rfl, hB, h.lt.2, by simpa using h.cell j hj⟩⟩

/-- Rows of numbers: a slice of m slices, all in blocks of a kind. -/
def Rows4 (w : World) (B : Nat → Prop) (v : Value) (m : Nat) (L : Nat → List Nat) : Prop :=
  ∃ (R cp : Nat) (V : Nat → Value), v = .slice (some ⟨R, 0, none⟩) m cp ∧ B R ∧ R < w.heap.size ∧ ∀ i, i < m → w.cell? ⟨R, i, none⟩ = some (V i) ∧ ReadsB w B (V i) (L i)
theorem Rows4.kept {w w' : World} {B : Nat → Prop} {m : Nat} {v : Value} {L : Nat → List Nat} (h : Rows4 w B v m L) (hg : w.grownBy w' none) : Rows4 w' B v m L := by
  obtain ⟨R, cp, V, rfl, h1, h2, hc⟩ := h
  exact ⟨R, cp, V, rfl, h1, Nat.lt_of_lt_of_le h2 hg.size, fun i hi => ⟨(hg.cell_far ⟨R, i, none⟩ h2 (by simp)).trans (hc i hi).1, (hc i hi).2.kept hg⟩⟩
theorem Rows4.only {w w' : World} {B : Nat → Prop} {lo hi m : Nat} {v : Value} {L : Nat → List Nat} (h : Rows4 w B v m L) (k : Only lo hi w w') (hd : ∀ b, B b → b < lo ∨ hi ≤ b) : Rows4 w' B v m L := by
  obtain ⟨R, cp, V, rfl, h1, h2, hc⟩ := h
  exact ⟨R, cp, V, rfl, h1, Nat.lt_of_lt_of_le h2 k.size, fun i hi => ⟨(k.cell ⟨R, i, none⟩ h2 (hd R h1)).trans (hc i hi).1, (hc i hi).2.only k hd⟩⟩

theorem make_rows (c : Nat) (hc : c ≤ 1000000) (w : World) :
    (Instr.makeSlice 28 (.int .i64 (c : Int)) (.int .i64 (c : Int))).run Try.prog w =
      .ok (.slice (some ⟨w.heap.size, 0, none⟩) c c) (w.alloc (.cells (madeCells #[.slice none 0 0] c) 57)) := by
  obtain ⟨i, hi, hz⟩ : ∃ i : TypeInfo, Try.prog.info? 57 = some i ∧ i.zero = some (.slice none 0 0) ∧ i.bytes = 24 ∧ i.size = 1 := ⟨_, rfl, rfl, rfl, rfl⟩
  have h := run_make (P := Try.prog) w 28 57 i _ Try.underlying28 hi hz.1 .i64 .i64 (c : Int) (c : Int) (by omega) (by omega) (by rw [hz.2.1]; omega) (by omega)
  rw [hz.2.2, Nat.mul_one, Int.toNat_natCast] at h
  exact h

theorem held_any (a : Int) (w : World) : Calls Try.prog 41 #[.int .i64 a] w fun e w' => e = .returned (.int .i64 (clampN a : Nat)) ∧ w = w' := by
  by_cases h0 : a < 0
  · go_enter Try.func41, Try.ntmps41
    go_wp2
    go_ret
    exact ⟨ret_int (by unfold clampN; omega), rfl⟩
  · by_cases h1 : 4096 < a
    · go_enter Try.func41, Try.ntmps41
      go_wp2
      go_ret
      exact ⟨ret_int (by unfold clampN; omega), rfl⟩
    · go_enter Try.func41, Try.ntmps41
      go_wp2
      go_ret
      exact ⟨ret_int (by unfold clampN; omega), rfl⟩

set_option maxHeartbeats 1000000 in
theorem rnew4 (a c : Int) (w : World) : Calls Try.prog 8 #[.int .i64 a, .int .i64 c] w fun e w' => ∃ v, e = .returned (.agg #[.int .i64 (clampN a : Nat), v]) ∧ w.grownBy w' none ∧ w.heap.size + 1 < w'.heap.size ∧ ∀ B : Nat → Prop, B (w.heap.size + 1) → Rows4 w' B v (clampN c) (fun _ => []) := by
  have C1 := Lib.hid fun v => held_any a v
  have C2 := Lib.hid fun v => held_any c v
  have hc : clampN c ≤ 4096 := by unfold clampN; omega
  have hmk := fun W => make_rows (clampN c) (by omega) W
  generalize clampN a = n at *
  generalize clampN c = m at *
  go_enter Try.func8, Try.ntmps8
  go_wp2_with fail
  refine (C1.out _).mono ?_
  rintro e w' ⟨rfl, rfl⟩
  go_wp2_with fail
  refine (C2.out _).mono ?_
  rintro e w' ⟨rfl, rfl⟩
  go_wp2
  have k1 := World.grownBy_alloc w (.cells #[.int .i64 (n : Nat), .slice (some ⟨w.heap.size + 1, 0, none⟩) m m] 30) none
  have k2 := World.grownBy_alloc (w.alloc (.cells #[.int .i64 (n : Nat), .slice (some ⟨w.heap.size + 1, 0, none⟩) m m] 30)) (.cells (madeCells #[.slice none 0 0] m) 57) none
  refine bodyPost_ret (v := .agg #[.int .i64 (n : Nat), .slice (some ⟨w.heap.size + 1, 0, none⟩) m m]) (by simp [results, Try.results8, go_sem]) rfl ⟨_, rfl, k1.trans k2, by simp, fun B hB => ⟨w.heap.size + 1, m, fun _ => .slice none 0 0, rfl, hB, by simp, fun i hi => ⟨?_, readsB_nil _ _⟩⟩⟩
  have := World.cell?_alloc_new (w.alloc (.cells #[.int .i64 (n : Nat), .slice (some ⟨w.heap.size + 1, 0, none⟩) m m] 30)) (madeCells #[.slice none 0 0] m) 57 i
  rw [World.size_alloc] at this
  rw [this]
  exact made_at _ m i hi

set_option maxHeartbeats 2000000 in
theorem ron_any (k : Int) (n : Int) {w : World} {B : Nat → Prop} {m : Nat} {v : Value} {L : Nat → List Nat} (H : Rows4 w B v m L) (hm : m ≤ 4096) (hl : ∀ i, i < m → (L i).length ≤ 4096) :
    Calls Try.prog 42 #[.agg #[.int .i64 n, v], .int .i64 k] w fun e w' => w.grownBy w' none ∧ ((∃ i : Nat, e = .returned (.int .i64 i) ∧ i < m ∧ ∃ x ∈ L i, (x : Int) = k) ∨ (e = .returned (.int .i64 (-1)) ∧ ∀ i, i < m → ∀ x ∈ L i, (x : Int) ≠ k)) := by
  obtain ⟨R, cp, V, rfl, h1, h2, hc⟩ := H
  have ka := World.grownBy_alloc w (.cells #[.int .i64 n, .slice (some ⟨R, 0, none⟩) m cp] 30) none
  have o1 : (w.alloc (.cells #[.int .i64 n, .slice (some ⟨R, 0, none⟩) m cp] 30)).cell? ⟨w.heap.size, 1, none⟩ = some (.slice (some ⟨R, 0, none⟩) m cp) := by simp
  have hR : R < (w.alloc (.cells #[.int .i64 n, .slice (some ⟨R, 0, none⟩) m cp] 30)).heap.size := Nat.lt_of_lt_of_le h2 ka.size
  have HC : Hid (∀ i, i < m → (w.alloc (.cells #[.int .i64 n, .slice (some ⟨R, 0, none⟩) m cp] 30)).cell? ⟨R, i, none⟩ = some (V i) ∧ Reads (w.alloc (.cells #[.int .i64 n, .slice (some ⟨R, 0, none⟩) m cp] 30)) (V i) (L i)) := Lib.hid fun i hi => ⟨(ka.cell_far ⟨R, i, none⟩ h2 (by simp)).trans (hc i hi).1, ((hc i hi).2.kept ka).reads⟩
  have HL := Lib.hid hl
  have KA := Lib.hid ka
  clear ka hc h1 h2 hl
  go_enter Try.func42, Try.ntmps42
  go_wp2_with fail
  generalize w.alloc (.cells #[.int .i64 n, .slice (some ⟨R, 0, none⟩) m cp] 30) = w1 at *
  generalize w.heap.size = ob at *
  go_loop [5] (fun it => ∃ i : Nat, i ≤ m ∧ it = .int .i64 i ∧ Hid (∀ j, j < i → ∀ x ∈ L j, (x : Int) ≠ k)) (fun it => m - (intOf it).toNat)
  case atStart => exact ⟨0, Nat.zero_le _, rfl, Lib.hid fun j hj => absurd hj (Nat.not_lt_zero j)⟩
  case round =>
    obtain ⟨i, hi, rfl, hb⟩ := hrel
    by_cases hlt : i < m
    · have qi : (i : Int) < (m : Int) := by omega
      obtain ⟨cV, a, cap, hV, hr⟩ := HC.out i hlt
      rw [hV] at cV
      have hll := HL.out i hlt
      have HR := Lib.hid hr
      clear hr hV
      go_wp2_with fail
      go_loop [6] (fun it => ∃ j : Nat, j ≤ (L i).length ∧ it = .int .i64 j ∧ Hid (∀ q (h : q < (L i).length), q < j → ((L i)[q] : Int) ≠ k)) (fun it => (L i).length - (intOf it).toNat)
      case atStart => exact ⟨0, Nat.zero_le _, rfl, Lib.hid fun q _ hq => absurd hq (Nat.not_lt_zero q)⟩
      case round =>
        obtain ⟨j, hj, rfl, hbj⟩ := hrel
        by_cases hlt2 : j < (L i).length
        · obtain ⟨b, o, rfl, hb1, hcell⟩ := HR.out j hlt2
          have qj : (j : Int) < ((L i).length : Int) := by omega
          by_cases he : ((L i)[j] : Int) = k
          · have hmem : ∃ x ∈ L i, (x : Int) = k := ⟨_, List.getElem_mem hlt2, he⟩
            have HM := Lib.hid hmem
            rw [he] at hcell
            clear hmem he
            go_wp2
            go_ret
            exact ⟨KA.out, Or.inl ⟨i, rfl, hlt, HM.out⟩⟩
          · have hbj' : ∀ q (h : q < (L i).length), q < j + 1 → ((L i)[q] : Int) ≠ k := fun q h hq => by
              by_cases e : q = j
              · subst e; exact he
              · exact hbj.out q h (by omega)
            have HB := Lib.hid hbj'
            have qe : ((((L i)[j] : Nat) : Int) == k) = false := by rw [beq_eq_false_iff_ne]; exact he
            clear hbj' he
            generalize (L i)[j] = x at *
            go_wp2
            go_round
            case rel => exact ⟨j + 1, by omega, by go_num, HB⟩
            case measure => simp [intOf]; omega
        · have hje : j = (L i).length := by omega
          have qj : ¬ (j : Int) < ((L i).length : Int) := by omega
          have hb' : ∀ q, q < i + 1 → ∀ x ∈ L q, (x : Int) ≠ k := fun q hq x hx => by
            by_cases e : q = i
            · subst e
              obtain ⟨p, hp, rfl⟩ := List.getElem_of_mem hx
              exact hbj.out p hp (by omega)
            · exact hb.out q (by omega) x hx
          have HB := Lib.hid hb'
          clear hb'
          go_wp2
          go_round
          case rel => exact ⟨i + 1, by omega, by go_num, HB⟩
          case measure => simp [intOf]; omega
    · have hie : i = m := by omega
      subst hie
      go_wp2
      go_ret
      exact ⟨KA.out, Or.inr ⟨rfl, hb.out⟩⟩
end Go.Proofs.Ytbkjdbimkofceaa
