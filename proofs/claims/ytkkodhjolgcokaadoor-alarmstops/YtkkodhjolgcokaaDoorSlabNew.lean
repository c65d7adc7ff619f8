/-
  Contracts of package slab, over this seat's translation: roomsOf and sum.
-/
import Derived.Test.YtkkodhjolgcokaaDoorTouch
import Derived.Test.YtkkodhjolgcokaaDoorInts
import Derived.OwnWalk
import Derived.Laws.OwnMore
namespace Go.Proofs.YtkkodhjolgcokaaDoor
open Go.RowKit Go.Lib
set_option maxRecDepth 100000

/-- A slice of ints that is handed in. -/
structure CapsAt (w : World) (sa : Option Addr) (len cap : Nat) (zs : Nat → Int) : Prop where
  le : len ≤ cap
  max : cap ≤ maxLen
  at_ : 0 < len → ∃ b o, sa = some ⟨b, o, none⟩ ∧ b < w.heap.size ∧ ∀ j, j < len → w.cell? ⟨b, o + j, none⟩ = some (.int .i64 (zs j))
theorem CapsAt.kept {w w' : World} {sa : Option Addr} {len cap : Nat} {zs : Nat → Int} (h : CapsAt w sa len cap zs) (k : w.grownBy w' none) : CapsAt w' sa len cap zs :=
  ⟨h.le, h.max, fun h0 => by
    obtain ⟨b, o, e, hb, hc⟩ := h.at_ h0
    exact ⟨b, o, e, Nat.lt_of_lt_of_le hb k.size, fun j hj => (k.cell_far ⟨b, o + j, none⟩ hb (by simp)).trans (hc j hj)⟩⟩

/-- The room that a region has. -/
def roomN (z : Int) : Nat := (max 0 (min z 256)).toNat
theorem roomN_le (z : Int) : roomN z ≤ 256 := by unfold roomN; omega
def rooms (zs : Nat → Int) (m : Nat) : List Nat := (List.range m).map fun j => roomN (zs j)
theorem rooms_len (zs : Nat → Int) (m : Nat) : (rooms zs m).length = m := by simp [rooms]
theorem rooms_succ (zs : Nat → Int) (m : Nat) : rooms zs (m + 1) = rooms zs m ++ [roomN (zs m)] := by simp [rooms, List.range_succ]

set_option maxHeartbeats 2000000 in
theorem roomsOf_any (sa : Option Addr) (len cap : Nat) (zs : Nat → Int) (w : World) (h : CapsAt w sa len cap zs) :
    Calls Tryd.prog 32 #[.slice sa len cap] w fun e w' => ∃ r cp, e = .returned (.slice (some ⟨r, 0, none⟩) (min len 64) cp) ∧ w.grownBy w' none ∧ RowOf w' w.heap.size r cp (rooms zs (min len 64)) := by
  obtain ⟨hle, hmax, hat⟩ := h
  have HAT := Lib.hid hat
  have hmk : ∀ W : World, (Instr.makeSlice 30 (.int .i64 0) (.int .i64 64)).run Tryd.prog W = _ := fun W => make_ints 0 64 (by omega) (by omega) W
  have k0 := World.grownBy_alloc w (.cells (madeCells #[.int .i64 0] 64) 3) none
  have hR0 := make_room w w.heap.size 64 (Nat.le_refl _) (by omega)
  obtain ⟨i0, hi0, hz0, hz1, hz2⟩ := int_info
  have I0 := Lib.hid hi0
  have I1 := Lib.hid hz0
  have I2 := Lib.hid hz1
  have I3 := Lib.hid hz2
  have hmx : cap ≤ 9223372036854775807 := by unfold maxLen at hmax; omega
  clear hi0 hz0 hz1 hz2 hat hmax
  obtain ⟨B, hB⟩ : ∃ B, B = w.heap.size := ⟨_, rfl⟩
  have HB := Lib.hid hB
  have hle0 : B ≤ (w.alloc (.cells (madeCells #[.int .i64 0] 64) 3)).heap.size := by rw [hB]; exact k0.size
  have hR1 : RowOf (w.alloc (.cells (madeCells #[.int .i64 0] 64) 3)) B w.heap.size 64 (rooms zs 0) := by rw [hB]; exact hR0
  clear hR0 hB
  have e64 : max (64 : Int) 0 = 64 := by decide
  have hcl : Hid (∀ (z : Int) (v : World), Calls Tryd.prog 58 #[.int .i64 z, .int .i64 0, .int .i64 256] v fun e w' => e = .returned (.int .i64 (roomN z : Nat)) ∧ v = w') := Lib.hid fun z v => by
    have := clamp_any z 0 256 v
    rwa [show max 0 (min z 256) = ((roomN z : Nat) : Int) by unfold roomN; omega] at this
  by_cases hl : 64 < len
  all_goals
    first | (have hm : min len 64 = 64 := (by omega); rw [hm]; clear hm) | (have hm : min len 64 = len := (by omega); rw [hm]; clear hm)
    go_enter Tryd.func32, Tryd.ntmps32
    go_wp2
    clear hmk
    generalize w.alloc (.cells (madeCells #[.int .i64 0] 64) 3) = w1 at hR1 k0 hle0 ⊢
    generalize hm : (if 64 < len then 64 else len) = m
    have hml : m ≤ len ∧ m ≤ 64 := by rw [← hm]; split <;> omega
    have hmc : ((64 < len ∧ m = 64) ∨ (len ≤ 64 ∧ m = len)) := by rw [← hm]; split <;> omega
    have HMC := Lib.hid hmc
    obtain ⟨hml1, hml2⟩ := hml
    clear hm hmc
    go_loopw [3, 13] (fun av it wr => ∃ j r cp : Nat, j ≤ m ∧ it = .int .i64 j ∧ av = .slice (some ⟨r, 0, none⟩) j cp ∧ RowOf wr B r cp (rooms zs j) ∧ w.grownBy wr none ∧ B ≤ wr.heap.size) (fun _ it _ => m - (intOf it).toNat)
    case atStart => exact ⟨0, w.heap.size, 64, Nat.zero_le _, rfl, rfl, hR1, k0, hle0⟩
    case round =>
      obtain ⟨j, r, cp, hj, rfl, rfl, hown, hG, hBr⟩ := hrel
      clear hR1 k0 hle0
      have hrl := rooms_len zs j
      have hrr := hown.lt
      by_cases hlt : j < m
      · obtain ⟨sb, off, rfl, hsb, hcell⟩ := HAT.out (by omega)
        have hc : wr.cell? ⟨sb, off + j, none⟩ = some (.int .i64 (zs j)) := (hG.cell_far ⟨sb, off + j, none⟩ hsb (by simp)).trans (hcell j (by omega))
        have cc := Lib.hid (hcl.out (zs j) wr)
        have hj1 : (j : Int) < (len : Int) := by omega
        have hj2 : (j : Int) < 64 := by omega
        have hrs := Lib.hid (rooms_succ zs j)
        have hrm := roomN_le (zs j)
        clear hcell
        generalize roomN (zs j) = k at cc hrs hrm
        generalize zs j = z at cc hc
        go_wp2_with fail
        refine (cc.out).mono ?_
        rintro e w' ⟨rfl, rfl⟩
        unfold RowOf at hown
        rw [hrl] at hown
        go_wp2_with (
        at_builtin
        refine wpList_append_own_at _ rfl _ _ 30 rfl B 3 i0 (.int .i64 0) 1 8 Tryd.underlying30 I0.out I1.out I2.out I3.out rfl (by decide) _ _ _ rfl (World.ownsRow.alloc hown _) ⟨wr.heap.size, 0, none⟩ 1 1 [.int .i64 (k : Int)] rfl rfl (cell_one_new _ _ _) (fun x hx => by simp at hx; subst hx; rfl) (by unfold maxLen; omega) (by omega) (by simp; omega) ?_
        intro v' w5 hown' hgrow3 hnil3 hat0
        have hgr : (wr.alloc (.cells #[.int .i64 (k : Int)] 3)).grownBy w5 (some r) := hgrow3
        have hnn : v' ≠ .slice none 0 0 := fun h => absurd (hnil3.1 h).2 (by decide)
        have k4 := World.grownBy_alloc wr (.cells #[.int .i64 (k : Int)] 3) none
        have hat1 : v'.ownBlock = some r ∨ v'.ownBlock = some (wr.alloc (.cells #[.int .i64 (k : Int)] 3)).heap.size := hat0
        clear hgrow3 hnil3 hat0
        have hG5 : w.grownBy w5 none := grow_on (grow_to hG k4) hgr (by rw [← HB.out]; omega)
        have hB5 : B ≤ w5.heap.size := Nat.le_trans hBr (Nat.le_trans k4.size hgr.size)
        obtain ⟨r', cp', rfl, hown5⟩ := row_of_owns hown' (F := rooms zs (j + 1)) (by rw [rooms_len]) (by rw [hrs.out, ints_snoc]) hnn
        rw [rooms_len]
        clear hgr hown' hnn k4 hG hBr hown
        )
        exact ⟨⟨j + 1, r', cp', by omega, by go_num, rfl, hown5, hG5, hB5⟩, by simp [intOf]; omega⟩
      · have e : j = m := by omega
        subst e
        rcases HMC.out with ⟨h1, rfl⟩ | ⟨h1, rfl⟩
        all_goals
          first | (exfalso; omega) | (go_wp2; go_ret; exact ⟨r, cp, rfl, hG, HB.out ▸ hown⟩)

/-- How many places lie ahead of region i. -/
def pre (n : Nat → Nat) : Nat → Nat
  | 0 => 0
  | i + 1 => pre n i + n i
theorem pre_succ (n : Nat → Nat) (i : Nat) : pre n (i + 1) = pre n i + n i := rfl
theorem pre_mono (n : Nat → Nat) (i : Nat) : ∀ j, i ≤ j → pre n i ≤ pre n j
  | 0, h => by have : i = 0 := by omega
               subst this; exact Nat.le_refl _
  | j + 1, h => by
    by_cases e : i = j + 1
    · subst e; exact Nat.le_refl _
    · have := pre_mono n i j (by omega)
      rw [pre_succ]; omega
theorem pre_le (n : Nat → Nat) (h : ∀ t, n t ≤ 256) : ∀ j, pre n j ≤ 256 * j
  | 0 => Nat.le_refl _
  | j + 1 => by have := pre_le n h j; have := h j; rw [pre_succ]; omega
def nOf (zs : Nat → Int) : Nat → Nat := fun t => roomN (zs t)
theorem rooms_at (zs : Nat → Int) (m j : Nat) (h : j < m) : (rooms zs m)[j]'(by rw [rooms_len]; exact h) = nOf zs j := by simp [rooms, nOf]

set_option maxHeartbeats 1000000 in
theorem sum_any (B r cp m : Nat) (zs : Nat → Int) (w : World) (h : RowOf w B r cp (rooms zs m)) (hm : m ≤ 64) :
    Calls Tryd.prog 33 #[.slice (some ⟨r, 0, none⟩) m cp] w fun e w' => e = .returned (.int .i64 (pre (nOf zs) m : Nat)) ∧ w = w' := by
  have HC : Hid (∀ j, j < m → w.cell? ⟨r, j, none⟩ = some (.int .i64 (nOf zs j : Nat))) := Lib.hid fun j hj => by
    rw [h.cell j (by rw [rooms_len]; exact hj), rooms_at zs m j hj]
  have HL : Hid (∀ j, j ≤ m → pre (nOf zs) j ≤ 16384 ∧ nOf zs j ≤ 256) := Lib.hid fun j hj => ⟨by have := pre_le (nOf zs) (fun t => roomN_le (zs t)) j; omega, roomN_le _⟩
  clear h
  go_enter Tryd.func33, Tryd.ntmps33
  go_wp2
  go_loop [3, 8] (fun sv it => ∃ j : Nat, j ≤ m ∧ it = .int .i64 j ∧ sv = .int .i64 (pre (nOf zs) j : Nat)) (fun _ it => m - (intOf it).toNat)
  case atStart => exact ⟨0, Nat.zero_le _, rfl, rfl⟩
  case round =>
    obtain ⟨j, hj, rfl, rfl⟩ := hrel
    by_cases hlt : j < m
    · have hc := HC.out j hlt
      obtain ⟨h1, h2⟩ := HL.out j hj
      have hp := Lib.hid (pre_succ (nOf zs) j)
      generalize pre (nOf zs) j = a at *
      generalize nOf zs j = c at *
      go_wp2
      go_round
      case rel => exact ⟨j + 1, by omega, by go_num, by rw [hp.out]; go_num⟩
      case measure => simp [intOf]; omega
    · have e : j = m := by omega
      subst e
      go_wp2
      go_ret
      exact ⟨rfl, rfl⟩

end Go.Proofs.YtkkodhjolgcokaaDoor
