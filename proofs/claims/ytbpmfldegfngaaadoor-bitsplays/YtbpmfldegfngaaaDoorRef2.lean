/-
  Contracts of the document's own answers for layer 2 (nightjarref02), over this seat's translation: a row of bools that tells a set.
-/
import Derived.Test.YtbpmfldegfngaaaDoorTurnsWalk
import Derived.Deep.Onto
namespace Go.Proofs.YtbpmfldegfngaaaDoor
open Go.RowKit Go.Lib

def bools (S : Nat → Bool) (n : Nat) : List Value := (List.range n).map fun i => Value.bool (S i)
theorem bools_len (S : Nat → Bool) (n : Nat) : (bools S n).length = n := by simp [bools]
theorem bools_at (S : Nat → Bool) (n j : Nat) (h : j < n) : (bools S n)[j]? = some (.bool (S j)) := by simp [bools, h]
theorem bools_none (n : Nat) : List.replicate n (Value.bool false) = bools (fun _ => false) n := by
  apply List.ext_getElem?
  intro i
  by_cases h : i < n
  · rw [bools_at _ _ _ h]; simp [h]
  · simp [bools, h]

/-- A row of n bools in block r: the set S. -/
def RowAt (w : World) (B r cp n : Nat) (S : Nat → Bool) : Prop := w.ownsRow B 4 1 (.slice (some ⟨r, 0, none⟩) n cp) n (bools S n)
theorem RowAt.cell {w : World} {B r cp n : Nat} {S : Nat → Bool} (h : RowAt w B r cp n S) (j : Nat) (hj : j < n) : w.cell? ⟨r, j, none⟩ = some (.bool (S j)) := by
  rw [World.ownsRow.cellAt h j (by omega), bools_at S n j hj]
theorem RowAt.lt {w : World} {B r cp n : Nat} {S : Nat → Bool} (h : RowAt w B r cp n S) : B ≤ r ∧ r < w.heap.size := World.ownsRow.lt h r rfl
theorem RowAt.kept {w w' : World} {B r cp n : Nat} {S : Nat → Bool} {row : Option Nat} (h : RowAt w B r cp n S) (hg : w.grownBy w' row) (hr : some r ≠ row) : RowAt w' B r cp n S :=
  World.ownsRow.kept h hg (Or.inr hr)

theorem make_bools (n : Nat) (hn : n ≤ 4096) (w : World) :
    (Instr.makeSlice 26 (.int .i64 (n : Int)) (.int .i64 (n : Int))).run Tryd.prog w =
      .ok (.slice (some ⟨w.heap.size, 0, none⟩) n n) (w.alloc (.cells (madeCells #[.bool false] n) 4)) := by
  obtain ⟨i, hi, hz⟩ : ∃ i : TypeInfo, Tryd.prog.info? 4 = some i ∧ i.zero = some (.bool false) ∧ i.bytes = 1 ∧ i.size = 1 := ⟨_, rfl, rfl, rfl, rfl⟩
  have h := run_make (P := Tryd.prog) w 26 4 i _ Tryd.underlying26 hi hz.1 .i64 .i64 (n : Int) (n : Int) (by omega) (by omega) (by rw [hz.2.1]; omega) (by omega)
  rw [hz.2.2, Nat.mul_one, Int.toNat_natCast] at h
  exact h

theorem row_made (w : World) (B n : Nat) (hB : B ≤ w.heap.size) (hn : n ≤ 4096) : RowAt (w.alloc (.cells (madeCells #[.bool false] n) 4)) B w.heap.size n n (fun _ => false) := by
  unfold RowAt
  rw [← bools_none]
  refine ⟨by simp, .inr ⟨w.heap.size, n, madeCells #[.bool false] n, rfl, hB, heap_alloc_new w _, Nat.le_refl _, by unfold maxLen; omega, by rw [size_madeCells]; omega, ?_⟩⟩
  rw [toList_madeCells_one]
  simp

theorem rnew (size : Int) (n B : Nat) (hn : clampN size = n) (w : World) (hB : B ≤ w.heap.size) :
    Calls Tryd.prog 10 #[.int .i64 size] w fun e w' => ∃ r cp, e = .returned (.slice (some ⟨r, 0, none⟩) n cp) ∧ w.grownBy w' none ∧ RowAt w' B r cp n (fun _ => false) := by
  have hn4 : n ≤ 4096 := by rw [← hn]; unfold clampN; omega
  have hmk := fun W => make_bools n hn4 W
  have fin := row_made w B n hB hn4
  have gr := World.grownBy_alloc w (.cells (madeCells #[.bool false] n) 4) none
  by_cases h1 : size < 0
  · have : n = 0 := by rw [← hn]; unfold clampN; omega
    subst this
    have hmk0 : ∀ W : World, (Instr.makeSlice 26 (.int .i64 0) (.int .i64 0)).run Tryd.prog W = .ok (.slice (some ⟨W.heap.size, 0, none⟩) 0 0) (W.alloc (.cells (madeCells #[.bool false] 0) 4)) := hmk
    clear hmk hn
    go_enter Tryd.func10, Tryd.ntmps10
    go_wp2
    go_ret
    exact ⟨_, _, rfl, gr, fin⟩
  · by_cases h2 : 4096 < size
    · have : n = 4096 := by rw [← hn]; unfold clampN; omega
      subst this
      have hmk0 : ∀ W : World, (Instr.makeSlice 26 (.int .i64 4096) (.int .i64 4096)).run Tryd.prog W = .ok (.slice (some ⟨W.heap.size, 0, none⟩) 4096 4096) (W.alloc (.cells (madeCells #[.bool false] 4096) 4)) := hmk
      clear hmk hn
      go_enter Tryd.func10, Tryd.ntmps10
      go_wp2
      go_ret
      exact ⟨_, _, rfl, gr, fin⟩
    · have e : size = (n : Int) := by rw [← hn]; unfold clampN; omega
      subst e
      clear hn
      go_enter Tryd.func10, Tryd.ntmps10
      go_wp2
      go_ret
      exact ⟨_, _, rfl, gr, fin⟩

theorem rhas_in (B r cp n k : Nat) (S : Nat → Bool) (w : World) (h : RowAt w B r cp n S) (hk : k < n) :
    Calls Tryd.prog 11 #[.slice (some ⟨r, 0, none⟩) n cp, .int .i64 k] w fun e w' => e = .returned (.bool (S k)) ∧ w = w' := by
  have hc := h.cell k hk
  clear h
  go_enter Tryd.func11, Tryd.ntmps11
  go_wp2
  go_ret
  exact ⟨rfl, rfl⟩
theorem rhas_out (r cp n : Nat) (k : Int) (w : World) (hk : k < 0 ∨ (n : Int) ≤ k) :
    Calls Tryd.prog 11 #[.slice (some ⟨r, 0, none⟩) n cp, .int .i64 k] w fun e w' => e = .returned (.bool false) ∧ w = w' := by
  by_cases h0 : k < 0
  · clear hk
    go_enter Tryd.func11, Tryd.ntmps11
    go_wp2
    go_ret
    exact ⟨rfl, rfl⟩
  · have h1 : ¬ k < (n : Int) := by omega
    have h2 : 0 ≤ k := by omega
    clear hk h0
    go_enter Tryd.func11, Tryd.ntmps11
    go_wp2
    go_ret
    exact ⟨rfl, rfl⟩

set_option maxHeartbeats 1000000 in
theorem rcount (B r cp n : Nat) (S : Nat → Bool) (w : World) (h : RowAt w B r cp n S) (hn : n ≤ 4096) :
    Calls Tryd.prog 21 #[.slice (some ⟨r, 0, none⟩) n cp] w fun e w' => e = .returned (.int .i64 (cnt S n : Nat)) ∧ w = w' := by
  have HC := Lib.hid h.cell
  clear h
  go_enter Tryd.func21, Tryd.ntmps21
  go_wp2
  go_loop [3, 4] (fun cv it => ∃ j : Nat, j ≤ n ∧ it = .int .i64 j ∧ cv = .int .i64 (cnt S j : Nat)) (fun _ it => n - (intOf it).toNat)
  case atStart => exact ⟨0, Nat.zero_le _, rfl, rfl⟩
  case round =>
    obtain ⟨j, hj, rfl, rfl⟩ := hrel
    have hb1 := cnt_le S j
    have HN := Lib.hid (show cnt S (j + 1) = cnt S j + (S j).toNat from rfl)
    by_cases hlt : j < n
    · have hc := HC.out j hlt
      cases hS : S j
      · rw [hS] at hc HN
        go_wp2
        go_round
        case rel => exact ⟨j + 1, by omega, by go_num, by rw [HN.out]; simp⟩
        case measure => simp [intOf]; omega
      · rw [hS] at hc HN
        generalize cnt S j = c0 at *
        go_wp2
        go_round
        case rel => exact ⟨j + 1, by omega, by go_num, by rw [HN.out]; go_num⟩
        case measure => simp [intOf]; omega
    · have he : j = n := by omega
      subst he
      go_wp2
      go_ret
      exact ⟨rfl, rfl⟩

set_option maxHeartbeats 2000000 in
theorem rnext (B r cp n : Nat) (kk : Int) (is : Bool) (S P : Nat → Bool) (w : World) (h : RowAt w B r cp n S) (hn : n ≤ 4096) (hP : ∀ i, (S i == is) = P i) :
    Calls Tryd.prog 16 #[.slice (some ⟨r, 0, none⟩) n cp, .int .i64 kk, .bool is] w (LeastPost P n kk.toNat w) := by
  have HC := Lib.hid h.cell
  have HP := Lib.hid hP
  clear h hP
  obtain ⟨k, hk⟩ : ∃ k, k = kk.toNat := ⟨_, rfl⟩
  rw [← hk]
  have hkz : (kk < 0 ∧ k = 0) ∨ (0 ≤ kk ∧ kk = (k : Int)) := by omega
  clear hk
  rcases hkz with ⟨hk, hz⟩ | ⟨hk, rfl⟩
  focus
    have HZK := Lib.hid hz
    clear hz
  all_goals
    go_enter Tryd.func16, Tryd.ntmps16
    go_wp2
    go_loop [1] (fun it => ∃ j : Nat, k ≤ j ∧ (j ≤ n ∨ j = k) ∧ it = .int .i64 j ∧ Hid (∀ q, k ≤ q → q < j → P q = false)) (fun it => n - (intOf it).toNat)
    case atStart => exact ⟨k, Nat.le_refl _, Or.inr rfl, by first | rfl | (rw [HZK.out]; rfl), Lib.hid fun q h1 h2 => absurd h2 (by omega)⟩
    case round =>
      obtain ⟨j, hkj, hjn, rfl, hno⟩ := hrel
      by_cases hlt : j < n
      · have hc := HC.out j hlt
        have hp := HP.out j
        cases hPj : P j
        · have hno2 : Hid (∀ q, k ≤ q → q < j + 1 → P q = false) := Lib.hid fun q h1 h2 => by
            by_cases e : q = j
            · rw [e]; exact hPj
            · exact hno.out q h1 (by omega)
          rw [hPj] at hp
          cases hS : S j <;> cases is <;> rw [hS] at hc hp
          · cases hp
          · clear hp hS
            go_wp2
            go_round
            case rel => exact ⟨j + 1, by omega, Or.inl (by omega), by go_num, hno2⟩
            case measure => simp [intOf]; omega
          · clear hp hS
            go_wp2
            go_round
            case rel => exact ⟨j + 1, by omega, Or.inl (by omega), by go_num, hno2⟩
            case measure => simp [intOf]; omega
          · cases hp
        · have HPJ := Lib.hid hPj
          rw [hPj] at hp
          clear hPj
          cases hS : S j <;> cases is <;> rw [hS] at hc hp
          · clear hp hS
            go_wp2
            go_ret2
            exact ⟨rfl, Or.inl ⟨j, hkj, hlt, HPJ.out, hno.out, rfl⟩⟩
          · cases hp
          · cases hp
          · clear hp hS
            go_wp2
            go_ret2
            exact ⟨rfl, Or.inl ⟨j, hkj, hlt, HPJ.out, hno.out, rfl⟩⟩
      · go_wp2
        go_ret2
        exact ⟨rfl, Or.inr ⟨fun q h1 h2 => hno.out q h1 (by omega), rfl⟩⟩

def upd (S : Nat → Bool) (k : Nat) (is : Bool) : Nat → Bool := fun i => if i = k then is else S i
theorem upd_true (S : Nat → Bool) (k : Nat) : upd S k true = ins S k := by
  funext i; by_cases h : i = k <;> simp [upd, ins, h]
theorem upd_false (S : Nat → Bool) (k : Nat) : upd S k false = del S k := by
  funext i; by_cases h : i = k <;> simp [upd, del, h]
theorem bools_set (S : Nat → Bool) (n k : Nat) (is : Bool) : (bools S n).set k (.bool is) = bools (upd S k is) n := by
  apply List.ext_getElem?
  intro i
  by_cases hi : i < n
  · rw [bools_at _ _ _ hi]
    by_cases e : i = k
    · subst e
      rw [List.getElem?_set_self (by rw [bools_len]; exact hi)]
      simp [upd]
    · rw [List.getElem?_set_ne (fun h => e h.symm), bools_at _ _ _ hi]
      simp [upd, e]
  · rw [List.getElem?_eq_none (by simp [bools_len]; omega), List.getElem?_eq_none (by rw [bools_len]; omega)]

theorem row_form {w : World} {B n : Nat} {v : Value} {S : Nat → Bool} (h : w.ownsRow B 4 1 v (0 + n) ([] ++ bools S n)) (hv : v ≠ .slice none 0 0) : ∃ r cp, v = .slice (some ⟨r, 0, none⟩) n cp ∧ RowAt w B r cp n S := by
  rw [Nat.zero_add, List.nil_append] at h
  rcases h.2 with ⟨h0, _⟩ | ⟨r, cp, cur, hv', _⟩
  · exact absurd h0 hv
  · subst hv'
    exact ⟨r, cp, rfl, h⟩

set_option maxHeartbeats 1000000 in
theorem rset (B r cp n k : Nat) (is : Bool) (S : Nat → Bool) (w : World) (h : RowAt w B r cp n S) (hB : B ≤ w.heap.size) (hn : n ≤ 4096) (hk : k < n) :
    Calls Tryd.prog 13 #[.slice (some ⟨r, 0, none⟩) n cp, .int .i64 k, .bool is] w fun e w' => ∃ r' cp', e = .returned (.slice (some ⟨r', 0, none⟩) n cp') ∧ w.grownBy w' none ∧ RowAt w' B r' cp' n (upd S k is) := by
  obtain ⟨i0, hi, hz0, hz1, hz2⟩ : ∃ i : TypeInfo, Tryd.prog.info? 4 = some i ∧ i.zero = some (.bool false) ∧ i.size = 1 ∧ i.bytes = 1 := ⟨_, rfl, rfl, rfl, rfl⟩
  have I0 := Lib.hid hi
  have I1 := Lib.hid hz0
  have I2 := Lib.hid hz1
  have I3 := Lib.hid hz2
  have HR := Lib.hid h
  have k0 := World.grownBy_alloc w (.cells #[] 4) none
  have h0r : (w.alloc (.cells #[] 4)).ownsRow w.heap.size 4 1 (.slice (some ⟨w.heap.size, 0, none⟩) 0 0) 0 [] := World.ownsRow_made w #[] 0 (Nat.le_refl _) (by decide) rfl
  have HNEW : Hid (∀ j u, (bools S n)[j]? = some u → (w.alloc (.cells #[] 4)).cell? ((⟨r, 0, none⟩ : Addr).add j) = some u) := Lib.hid (World.ownsRow.cells (h.kept k0 (by simp)) rfl)
  have HONE : Hid (∀ u ∈ bools S n, u.oneCell' = true) := Lib.hid fun u hu => by
    simp only [bools, List.mem_map] at hu
    obtain ⟨i, _, rfl⟩ := hu
    rfl
  have HL := Lib.hid (show (bools S n).length = n * 1 by rw [bools_len, Nat.mul_one])
  clear hi hz0 hz1 hz2 h
  go_enter Tryd.func13, Tryd.ntmps13
  go_wp2_with (at_builtin; refine wpList_append_own _ rfl _ _ 26 rfl w.heap.size 4 i0 (.bool false) 1 1 Tryd.underlying26 I0.out I1.out I2.out I3.out rfl (by decide) _ _ _ rfl h0r ⟨r, 0, none⟩ n cp (bools S n) rfl HL.out HNEW.out HONE.out (by unfold maxLen; omega) (by omega) (by simp) ?_; intro v' w5 hown' hgrow hnil; have hgr : (w.alloc (.cells #[] 4)).grownBy w5 (some w.heap.size) := hgrow; obtain ⟨r', cp', rfl, h5⟩ := row_form hown' (fun h => absurd (hnil.1 h).1 (by intro e; cases e)); clear hown' hgrow hnil; have hc5 := h5.cell k hk; have hf5 := World.ownsRow.frozenAt h5 k; have hr5 := h5.lt; have HG5 := Lib.hid (grow_on k0 hgr (Nat.le_refl _)); have HH5 := Lib.hid h5; clear h5 hgr)
  go_ret
  have h6 : RowAt (w5.setCell ⟨r', k, none⟩ (.bool is)) w.heap.size r' cp' n (upd S k is) := by
    have := (World.ownsRow.stored HH5.out k (.bool is)).1
    rwa [bools_set] at this
  exact ⟨r', cp', rfl, grow_on HG5.out (grow_set ⟨rfl, rfl, rfl, Nat.le_refl _, fun _ _ _ => rfl⟩ _) hr5.1, World.ownsRow.mono h6 hB⟩

end Go.Proofs.YtbpmfldegfngaaaDoor
