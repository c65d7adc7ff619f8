/-
  Texts of one claim, joined, one behind the other.
-/
import Derived.Test.YtkkodhjolgcokaaDoorJoin7
import Derived.Test.YtkkodhjolgcokaaDoorShelf
import Derived.Laws.Bits64b
import Derived.Laws.Bits64
import Derived.BigQuiet
import Derived.StillTailTactics
import Derived.Deep.RegionHeld3
import Derived.Test.YtkkodhjolgcokaaDoorJoin4
import Derived.Deep.MidRow
import Derived.Test.YtkkodhjolgcokaaDoorRows
import Derived.Maps.AppendAt
import Derived.Deep.Upon
import Derived.OwnWalk
/-
  Contracts of package chain, over this seat's translation: New.
-/
namespace Go.Proofs.YtkkodhjolgcokaaDoor
open Go.RowKit Go.Lib
set_option maxRecDepth 100000

/-- The number that New makes of one. -/
def clampC (size : Int) : Nat := (max 0 (min size 4096)).toNat

theorem mem_made {w : World} {lo bn bp bo bl n m : Nat} (hn : n ≤ 4096) (hm : m ≤ 4096)
    (h4 : w.heap[lo + 4]? = some (.cells #[.slice (some ⟨bn, 0, none⟩) (n + m) (n + m), .slice (some ⟨bp, 0, none⟩) (n + m) (n + m), .slice (some ⟨bo, 0, none⟩) n n, .slice (some ⟨bl, 0, none⟩) m m] 99))
    (h0 : w.heap[bn]? = some (.cells (madeCells #[.int .i64 0] (n + m)) 3)) (h1 : w.heap[bp]? = some (.cells (madeCells #[.int .i64 0] (n + m)) 3))
    (h2 : w.heap[bo]? = some (.cells (madeCells #[.int .i64 0] n) 3)) (h3 : w.heap[bl]? = some (.cells (madeCells #[.int .i64 0] m) 3))
    (rn : lo ≤ bn ∧ bn < lo + 4) (rp : lo ≤ bp ∧ bp < lo + 4) (ro : lo ≤ bo ∧ bo < lo + 4) (rl : lo ≤ bl ∧ bl < lo + 4)
    (dif : bn ≠ bp ∧ bn ≠ bo ∧ bn ≠ bl ∧ bp ≠ bo ∧ bp ≠ bl ∧ bo ≠ bl) (sz : lo + 5 ≤ w.heap.size) :
    LinksMem w lo bn bp bo bl n m (fun _ => 0) (fun _ => 0) (fun _ => 0) (fun _ => 0) := by
  have cc : ∀ b c j, w.heap[b]? = some (.cells (madeCells #[.int .i64 0] c) 3) → j < c → w.cell? ⟨b, j, none⟩ = some (.int .i64 0) := fun b c j h hj => by
    rw [World.cell?]; simp only [h]; simpa using made_atC (.int .i64 0) c j hj
  have ff : ∀ b c j, w.heap[b]? = some (.cells (madeCells #[.int .i64 0] c) 3) → w.frozen? ⟨b, j, none⟩ = false := fun b c j h => by
    rw [World.frozen?]; simp only [h]; simp
  refine ⟨hn, hm, by rw [World.cell?]; simp only [h4]; rfl, by rw [World.cell?]; simp only [h4]; rfl, by rw [World.cell?]; simp only [h4]; rfl, by rw [World.cell?]; simp only [h4]; rfl,
    fun j hj => cc _ _ j h0 hj, fun j hj => cc _ _ j h1 hj, fun j hj => cc _ _ j h2 hj, fun j hj => cc _ _ j h3 hj, fun j hj => ff _ _ j h0, fun j hj => ff _ _ j h1, fun j hj => ff _ _ j h2, fun j hj => ff _ _ j h3, rn, rp, ro, rl, dif, sz⟩

/-- While the lists are being tied: each of the first ones is a ring of its knot alone. -/
theorem good_start (n m : Nat) (N P : Nat → Nat) (O : Nat → Int) (hO : ∀ k, k < n → O k = -1) (hN : ∀ i, i < m → N (n + i) = n + i) (hP : ∀ i, i < m → P (n + i) = n + i) : Good n m N P O (fun _ => []) :=
  ⟨fun i hi => ⟨hN i hi, hP i hi, trivial⟩, fun k i hk _ => by rw [hO k hk]; simp, fun k hk => Or.inl (hO k hk), fun i _ k hk => absurd hk (by simp), fun i _ => List.nodup_nil⟩

theorem heap5 (w : World) (A B C D S : Obj) :
    (((((w.alloc A).alloc B).alloc C).alloc D).alloc S).drew.heap[w.heap.size]? = some A ∧ (((((w.alloc A).alloc B).alloc C).alloc D).alloc S).drew.heap[w.heap.size + 1]? = some B ∧
    (((((w.alloc A).alloc B).alloc C).alloc D).alloc S).drew.heap[w.heap.size + 1 + 1]? = some C ∧ (((((w.alloc A).alloc B).alloc C).alloc D).alloc S).drew.heap[w.heap.size + 1 + 1 + 1]? = some D ∧
    (((((w.alloc A).alloc B).alloc C).alloc D).alloc S).drew.heap[w.heap.size + 4]? = some S ∧ (((((w.alloc A).alloc B).alloc C).alloc D).alloc S).drew.heap.size = w.heap.size + 5 ∧ w.grownBy (((((w.alloc A).alloc B).alloc C).alloc D).alloc S).drew none := by
  have e : (((((w.alloc A).alloc B).alloc C).alloc D).alloc S).drew.heap = ((((w.heap.push A).push B).push C).push D).push S := rfl
  rw [e]
  simp only [Array.getElem?_push, Array.size_push]
  refine ⟨by rw [if_neg (by omega), if_neg (by omega), if_neg (by omega), if_neg (by omega), if_pos trivial], by rw [if_neg (by omega), if_neg (by omega), if_neg (by omega), if_pos trivial], by rw [if_neg (by omega), if_neg (by omega), if_pos trivial], by rw [if_neg (by omega), if_pos trivial], by rw [if_pos trivial], by first | trivial | rfl, rfl, rfl, rfl, by rw [e]; simp; omega, fun k hk _ => ?_⟩
  rw [e]
  simp [Array.getElem?_push, show ¬ k = w.heap.size by omega, show ¬ k = w.heap.size + 1 by omega, show ¬ k = w.heap.size + 1 + 1 by omega, show ¬ k = w.heap.size + 1 + 1 + 1 by omega, show ¬ k = w.heap.size + 1 + 1 + 1 + 1 by omega]

set_option maxHeartbeats 4000000 in
theorem new_anyC (a c : Int) (w : World) :
    Calls Tryd.prog 59 #[.int .i64 a, .int .i64 c] w fun e w' => e = .returned (.pointer (some ⟨w.heap.size + 4, 0, none⟩)) ∧ w.grownBy w' none ∧ LinksAt w' w.heap.size (clampC a) (clampC c) (fun _ => []) := by
  have c1 := clamp_anyC a 0 4096 w
  have c2 := clamp_anyC c 0 4096 w
  rw [show max 0 (min a 4096) = ((clampC a : Nat) : Int) by unfold clampC; omega] at c1
  rw [show max 0 (min c 4096) = ((clampC c : Nat) : Int) by unfold clampC; omega] at c2
  have hn : clampC a ≤ 4096 := by unfold clampC; omega
  have hm : clampC c ≤ 4096 := by unfold clampC; omega
  generalize clampC a = n at *
  generalize clampC c = m at *
  have C1 := Lib.hid c1
  have C2 := Lib.hid c2
  clear c1 c2
  have m1 : ∀ W : World, (Instr.makeSlice 30 (.int .i64 ((n : Int) + m)) (.int .i64 ((n : Int) + m))).run Tryd.prog W = .ok (.slice (some ⟨W.heap.size, 0, none⟩) (n + m) (n + m)) (W.alloc (.cells (madeCells #[.int .i64 0] (n + m)) 3)) := fun W => by
    rw [← make_ints (n + m) (n + m) (Nat.le_refl _) (by omega) W]; simp
  have m2 : ∀ W : World, (Instr.makeSlice 30 (.int .i64 (n : Int)) (.int .i64 (n : Int))).run Tryd.prog W = .ok (.slice (some ⟨W.heap.size, 0, none⟩) n n) (W.alloc (.cells (madeCells #[.int .i64 0] n) 3)) := fun W => make_ints n n (Nat.le_refl _) (by omega) W
  have m3 : ∀ W : World, (Instr.makeSlice 30 (.int .i64 (m : Int)) (.int .i64 (m : Int))).run Tryd.prog W = .ok (.slice (some ⟨W.heap.size, 0, none⟩) m m) (W.alloc (.cells (madeCells #[.int .i64 0] m) 3)) := fun W => make_ints m m (Nat.le_refl _) (by omega) W
  go_enter Tryd.func59, Tryd.ntmps59
  go_wp2_with fail
  refine (C1.out).mono ?_
  rintro e w' ⟨rfl, rfl⟩
  go_wp2_with fail
  refine (C2.out).mono ?_
  rintro e w' ⟨rfl, rfl⟩
  go_upto_region 15 with fail
  go_cut [5] (fun pv wc => pv = .pointer (some ⟨w.heap.size + 4, 0, none⟩) ∧ w.grownBy wc none ∧ ∃ bn bp bo bl, LinksMem wc w.heap.size bn bp bo bl n m (fun _ => 0) (fun _ => 0) (fun _ => 0) (fun _ => 0))
  case first =>
    go_region
    all_goals (go_wp2_with fail)
    all_goals go_meet
    all_goals
      refine ⟨rfl, (heap5 w _ _ _ _ _).2.2.2.2.2.2, _, _, _, _, mem_made hn hm (heap5 w _ _ _ _ _).2.2.2.2.1 ?_ ?_ ?_ ?_ (by omega) (by omega) (by omega) (by omega) (by omega) (Nat.le_of_eq (heap5 w _ _ _ _ _).2.2.2.2.2.1.symm)⟩
      all_goals first | exact (heap5 w _ _ _ _ _).1 | exact (heap5 w _ _ _ _ _).2.1 | exact (heap5 w _ _ _ _ _).2.2.1 | exact (heap5 w _ _ _ _ _).2.2.2.1
  case rest =>
    obtain ⟨rfl, hg0, bn, bp, bo, bl, M0⟩ := hcut
    clear m1 m2 m3 C1 C2
    generalize hlo : w.heap.size = lo at *
    have HLO := Lib.hid hlo
    clear hlo
    have h2 := M0.c2
    go_wp2
    clear h2
    go_loopw [31] (fun it wr => ∃ (j : Nat) (O : Nat → Int), j ≤ n ∧ it = .int .i64 j ∧ (∀ k, k < j → O k = -1) ∧ LinksMem wr lo bn bp bo bl n m (fun _ => 0) (fun _ => 0) O (fun _ => 0) ∧ w.grownBy wr none) (fun it _ => n - (intOf it).toNat)
    case atStart => exact ⟨0, _, Nat.zero_le _, rfl, fun k hk => absurd hk (by omega), M0, hg0⟩
    case round =>
      obtain ⟨j, O, hj, rfl, hO, M, hG⟩ := hrel
      have HO := Lib.hid hO
      clear M0 hg0 hO
      by_cases hlt : j < n
      · have d0 := M.c2
        have d1 := M.co j hlt
        have d2 := M.fo j hlt
        have M1 := Lib.hid (M.setO j (-1) hlt)
        have K1 := Lib.hid (Only.set (lo := lo) (hi := lo + 5) wr ⟨bo, j, none⟩ (.int .i64 (-1)) M.ro.1 (by have := M.ro.2; simp; omega))
        clear M
        go_wp2
        go_roundw
        case rel => exact ⟨j + 1, _, by omega, by go_num, fun k hk => by
          by_cases e : k = j
          · subst e; exact upI_same _ _ _
          · rw [upI_other _ _ _ _ e]; exact HO.out k (by omega), M1.out, Only.on hG K1.out (Nat.le_of_eq HLO.out)⟩
        case measure => simp [intOf]; omega
      · have e : j = n := by omega
        subst e
        have h3 := M.c3
        go_wp2
        clear h3
        go_loopw [46] (fun it wr => ∃ (i : Nat) (N P : Nat → Nat), i ≤ m ∧ it = .int .i64 i ∧ Hid (∀ k, k < i → N (j + k) = j + k ∧ P (j + k) = j + k) ∧ LinksMem wr lo bn bp bo bl j m N P O (fun _ => 0) ∧ w.grownBy wr none) (fun it _ => m - (intOf it).toNat)
        case atStart => exact ⟨0, _, _, Nat.zero_le _, rfl, Lib.hid fun k hk => absurd hk (by omega), M, hG⟩
        case round =>
          obtain ⟨i, N, P, hi, rfl, hNP, M2, hG2⟩ := hrel
          clear M hG
          by_cases hlt2 : i < m
          · have kn := Lib.hid (knot_any i M2 hlt2)
            have jn := Lib.hid (join_any (j + i) (j + i) M2 (by omega) (by omega))
            clear M2
            go_wp2_with fail
            refine (kn.out).mono ?_
            rintro e w' ⟨rfl, rfl⟩
            go_wp2_with fail
            refine (kn.out).mono ?_
            rintro e w' ⟨rfl, rfl⟩
            go_wp2_with fail
            refine jn.out.mono ?_
            rintro e w3 ⟨rfl, k3, M3⟩
            have hG3 := Only.on hG2 k3 (Nat.le_of_eq HLO.out)
            clear hG2 jn kn k3
            go_wp2
            go_roundw
            case rel => exact ⟨i + 1, _, _, by omega, by go_num, Lib.hid fun k hk => by
              by_cases e : k = i
              · subst e; exact ⟨upN_same _ _ _, upN_same _ _ _⟩
              · rw [upN_other _ _ _ _ (by omega), upN_other _ _ _ _ (by omega)]; exact hNP.out k (by omega), M3, hG3⟩
            case measure => simp [intOf]; omega
          · have e : i = m := by omega
            subst e
            go_wp2
            go_ret
            have HL := HLO.out
            subst HL
            exact ⟨rfl, hG2, bn, bp, bo, bl, N, P, O, M2, good_start j i N P O HO.out (fun k hk => (hNP.out k hk).1) (fun k hk => (hNP.out k hk).2)⟩

end Go.Proofs.YtkkodhjolgcokaaDoor
/-
  Contracts of package wheel, over this seat's translation: listOf, digit, rowOf.
-/
namespace Go.Proofs.YtkkodhjolgcokaaDoor
open Go.RowKit Go.Lib
set_option maxRecDepth 100000

/-- A time's bucket in a row. -/
def digN (row t : Nat) : Nat := if row = 0 then 0 else t / 2 ^ (6 * (row - 1)) % 64
/-- The row for a time, as it is now. -/
def rowN (now t : Nat) : Nat := if t ≤ now then 0 else (Lib.bitLen (t ^^^ now) + 5) / 6

theorem listOf_any (r b : Nat) (w : World) (hr : r ≤ 12) (hb : b < 64) : Calls Tryd.prog 44 #[.int .i64 r, .int .i64 b] w fun e w' => e = .returned (.int .i64 (r * 64 + b : Nat)) ∧ w = w' := by
  go_enter Tryd.func44, Tryd.ntmps44
  go_wp2
  go_ret
  exact ⟨ret_intC (by omega), rfl⟩

set_option maxHeartbeats 1000000 in
theorem digit_any (r t : Nat) (w : World) (hr : r ≤ 11) (ht : t < 18446744073709551616) : Calls Tryd.prog 45 #[.int .i64 r, .int .u64 t] w fun e w' => e = .returned (.int .i64 (digN r t : Nat)) ∧ w = w' := by
  unfold digN
  by_cases h0 : r = 0
  · subst h0
    go_enter Tryd.func45, Tryd.ntmps45
    go_wp2
    go_ret
    exact ⟨rfl, rfl⟩
  · have q0 : ((r : Int) == 0) = false := by rw [beq_eq_false_iff_ne]; omega
    have q1 : (0 : Int) ≤ 6 * ((r : Int) - 1) := by omega
    rw [if_neg h0]
    go_enter Tryd.func45, Tryd.ntmps45
    go_wp2
    go_ret
    refine ⟨ret_intC ?_, rfl⟩
    have e : (t : Int) / 2 ^ (6 * (r - 1)) = ((t / 2 ^ (6 * (r - 1)) : Nat) : Int) := by simp
    rw [e]
    generalize t / 2 ^ (6 * (r - 1)) = q
    rw [Int.tmod_eq_emod_of_nonneg (by omega)]
    unfold wrap64
    omega
theorem digN_lt (r t : Nat) : digN r t < 64 := by unfold digN; split <;> omega

theorem rowN_le (now t : Nat) (h : t < 18446744073709551616) (hn : now < 18446744073709551616) (hb : Lib.bitLen (t ^^^ now) ≤ 64) : rowN now t ≤ 11 := by unfold rowN; split <;> omega

set_option maxHeartbeats 1000000 in
theorem rowOf_any (wb now t : Nat) (w : World) (h0 : w.cell? ⟨wb, 0, none⟩ = some (.int .u64 (now : Nat))) (ht : t < 18446744073709551616) (hn : now < 18446744073709551616) (hb : Lib.bitLen (t ^^^ now) ≤ 64) : Calls Tryd.prog 42 #[.pointer (some ⟨wb, 0, none⟩), .int .u64 t] w fun e w' => e = .returned (.int .i64 (rowN now t : Nat)) ∧ w = w' := by
  unfold rowN
  by_cases h : t ≤ now
  · have q : (t : Int) ≤ (now : Int) := by omega
    rw [if_pos h]
    go_enter Tryd.func42, Tryd.ntmps42
    go_wp2
    go_ret
    exact ⟨rfl, rfl⟩
  · have q : ¬ (t : Int) ≤ (now : Int) := by omega
    have hx := bits_xor_u64_nat t now ht hn
    have hl : t ^^^ now < 18446744073709551616 := Nat.xor_lt_two_pow (n := 64) ht hn
    have CL := Lib.hid (Tryd.bits_Len64 ((t ^^^ now : Nat) : Int) w (by omega) (by omega))
    simp only [Int.toNat_natCast] at CL
    rw [if_neg h]
    generalize Lib.bitLen (t ^^^ now) = l at *
    generalize t ^^^ now = x at *
    go_enter Tryd.func42, Tryd.ntmps42
    go_wp2_with fail
    refine CL.out.mono ?_
    rintro e w' ⟨rfl, rfl⟩
    go_wp2
    go_ret
    exact ⟨ret_intC (by omega), rfl⟩
end Go.Proofs.YtkkodhjolgcokaaDoor
/-
  Contracts of package wheel, over this seat's translation: how a wheel lies in memory; Now, At.
-/
namespace Go.Proofs.YtkkodhjolgcokaaDoor
open Go.RowKit Go.Lib

/-- A wheel: its struct in block wb (now, the alarms, the links, twelve counts), its alarms in block ab, its links from block lb on. -/
structure WhMem (w : World) (wb ab lb n now : Nat) (A : Nat → Nat × Nat) (L : Nat → List Nat) (C : Nat → Nat) : Prop where
  c0 : w.cell? ⟨wb, 0, none⟩ = some (.int .u64 (now : Nat))
  c1 : w.cell? ⟨wb, 1, none⟩ = some (.slice (some ⟨ab, 0, none⟩) n n)
  c2 : w.cell? ⟨wb, 2, none⟩ = some (.pointer (some ⟨lb + 4, 0, none⟩))
  c3 : ∀ r, r < 12 → w.cell? ⟨wb, 3 + r, none⟩ = some (.int .i64 (C r : Nat))
  fw : ∀ j, w.frozen? ⟨wb, j, none⟩ = false
  a0 : ∀ k, k < n → w.cell? ⟨ab, k * 2, none⟩ = some (.int .u64 ((A k).1 : Nat)) ∧ w.cell? ⟨ab, k * 2 + 1, none⟩ = some (.int .u64 ((A k).2 : Nat))
  fa : ∀ j, w.frozen? ⟨ab, j, none⟩ = false
  links : LinksAt w lb n 768 L
  bd : now < 18446744073709551616 ∧ ∀ k, k < n → (A k).1 < 18446744073709551616 ∧ (A k).2 < 18446744073709551616
  d : wb ≠ ab ∧ (wb < lb ∨ lb + 5 ≤ wb) ∧ (ab < lb ∨ lb + 5 ≤ ab)
  l : wb < w.heap.size ∧ ab < w.heap.size
section
variable {w w' : World} {wb ab lb n now : Nat} {A : Nat → Nat × Nat} {L : Nat → List Nat} {C : Nat → Nat}
theorem WhMem.only {lo hi : Nat} (H : WhMem w wb ab lb n now A L C) (k : Only lo hi w w') (h1 : wb < lo ∨ hi ≤ wb) (h2 : ab < lo ∨ hi ≤ ab) (h3 : lb + 5 ≤ lo ∨ hi ≤ lb) : WhMem w' wb ab lb n now A L C :=
  ⟨(k.cell ⟨wb, 0, none⟩ H.l.1 h1).trans H.c0, (k.cell ⟨wb, 1, none⟩ H.l.1 h1).trans H.c1, (k.cell ⟨wb, 2, none⟩ H.l.1 h1).trans H.c2, fun r hr => (k.cell ⟨wb, 3 + r, none⟩ H.l.1 h1).trans (H.c3 r hr), fun j => (k.frozen ⟨wb, j, none⟩ H.l.1 h1).trans (H.fw j), fun q hq => ⟨(k.cell ⟨ab, q * 2, none⟩ H.l.2 h2).trans (H.a0 q hq).1, (k.cell ⟨ab, q * 2 + 1, none⟩ H.l.2 h2).trans (H.a0 q hq).2⟩, fun j => (k.frozen ⟨ab, j, none⟩ H.l.2 h2).trans (H.fa j), H.links.kept k h3, H.bd, H.d, ⟨Nat.lt_of_lt_of_le H.l.1 k.size, Nat.lt_of_lt_of_le H.l.2 k.size⟩⟩
theorem WhMem.kept (H : WhMem w wb ab lb n now A L C) (k : w.grownBy w' none) : WhMem w' wb ab lb n now A L C :=
  H.only (Only.of_none (lo := 0) (hi := 0) k) (Or.inr (Nat.zero_le _)) (Or.inr (Nat.zero_le _)) (Or.inr (Nat.zero_le _))



end
end Go.Proofs.YtkkodhjolgcokaaDoor
/-
  Contracts of package wheel, over this seat's translation: Unset.
-/
namespace Go.Proofs.YtkkodhjolgcokaaDoor
open Go.RowKit Go.Lib
set_option maxRecDepth 100000

def upA (A : Nat → Nat × Nat) (k : Nat) (v : Nat × Nat) : Nat → Nat × Nat := fun i => if i = k then v else A i
theorem set_farW (w : World) (b j b' j' : Nat) (v : Value) (h : b' ≠ b ∨ j' ≠ j) : (w.setCell ⟨b, j, none⟩ v).cell? ⟨b', j', none⟩ = w.cell? ⟨b', j', none⟩ :=
  World.cell?_setCell_other _ _ _ _ (by intro e; injection e with e1 e2; omega)

section
variable {w w' : World} {wb ab lb n now : Nat} {A : Nat → Nat × Nat} {L : Nat → List Nat} {C : Nat → Nat}
/-- An alarm's cells are set. -/
theorem WhMem.setA (H : WhMem w wb ab lb n now A L C) (k x y : Nat) (hk : k < n) (hx : x < 18446744073709551616) (hy : y < 18446744073709551616) :
    WhMem ((w.setCell ⟨ab, k * 2, none⟩ (.int .u64 (x : Nat))).setCell ⟨ab, k * 2 + 1, none⟩ (.int .u64 (y : Nat))) wb ab lb n now (upA A k (x, y)) L C := by
  obtain ⟨d1, d2, d3⟩ := H.d
  have o : Only ab (ab + 1) w ((w.setCell ⟨ab, k * 2, none⟩ (.int .u64 (x : Nat))).setCell ⟨ab, k * 2 + 1, none⟩ (.int .u64 (y : Nat))) := (Only.set (lo := ab) (hi := ab + 1) w ⟨ab, k * 2, none⟩ _ (Nat.le_refl _) (Nat.lt_succ_self _)).trans (Only.set (lo := ab) (hi := ab + 1) _ ⟨ab, k * 2 + 1, none⟩ _ (Nat.le_refl _) (Nat.lt_succ_self _))
  have hw : wb < ab ∨ ab + 1 ≤ wb := by omega
  refine ⟨(o.cell ⟨wb, 0, none⟩ H.l.1 hw).trans H.c0, (o.cell ⟨wb, 1, none⟩ H.l.1 hw).trans H.c1, (o.cell ⟨wb, 2, none⟩ H.l.1 hw).trans H.c2, fun r hr => (o.cell ⟨wb, 3 + r, none⟩ H.l.1 hw).trans (H.c3 r hr), fun j => (o.frozen ⟨wb, j, none⟩ H.l.1 hw).trans (H.fw j), fun q hq => ?_, fun j => (World.frozen?_setCell ..).trans ((World.frozen?_setCell ..).trans (H.fa j)), H.links.kept o (by omega), ⟨H.bd.1, fun q hq => ?_⟩, H.d, ⟨Nat.lt_of_lt_of_le H.l.1 o.size, Nat.lt_of_lt_of_le H.l.2 o.size⟩⟩
  · by_cases e : q = k
    · subst e
      simp only [upA, if_true]
      exact ⟨(set_farW _ _ _ _ _ _ (Or.inr (by omega))).trans (World.cell?_setCell_same _ _ _ (H.a0 q hq).1), World.cell?_setCell_same _ _ _ ((set_farW _ _ _ _ _ _ (Or.inr (by omega))).trans (H.a0 q hq).2)⟩
    · simp only [upA, e, if_false]
      exact ⟨(set_farW _ _ _ _ _ _ (Or.inr (by omega))).trans ((set_farW _ _ _ _ _ _ (Or.inr (by omega))).trans (H.a0 q hq).1), (set_farW _ _ _ _ _ _ (Or.inr (by omega))).trans ((set_farW _ _ _ _ _ _ (Or.inr (by omega))).trans (H.a0 q hq).2)⟩
  · by_cases e : q = k
    · simp only [upA, e, if_true]; exact ⟨hx, hy⟩
    · simp only [upA, e, if_false]; exact H.bd.2 q hq
/-- A count is set. -/
theorem WhMem.setC (H : WhMem w wb ab lb n now A L C) (r c : Nat) (hr : r < 12) : WhMem (w.setCell ⟨wb, 3 + r, none⟩ (.int .i64 (c : Nat))) wb ab lb n now A L (upN C r c) := by
  obtain ⟨d1, d2, d3⟩ := H.d
  have o : Only wb (wb + 1) w (w.setCell ⟨wb, 3 + r, none⟩ (.int .i64 (c : Nat))) := Only.set (lo := wb) (hi := wb + 1) w ⟨wb, 3 + r, none⟩ _ (Nat.le_refl _) (Nat.lt_succ_self _)
  have ha : ab < wb ∨ wb + 1 ≤ ab := by omega
  refine ⟨(set_farW _ _ _ _ _ _ (Or.inr (by omega))).trans H.c0, (set_farW _ _ _ _ _ _ (Or.inr (by omega))).trans H.c1, (set_farW _ _ _ _ _ _ (Or.inr (by omega))).trans H.c2, fun q hq => ?_, fun j => (World.frozen?_setCell ..).trans (H.fw j), fun q hq => ⟨(o.cell ⟨ab, q * 2, none⟩ H.l.2 ha).trans (H.a0 q hq).1, (o.cell ⟨ab, q * 2 + 1, none⟩ H.l.2 ha).trans (H.a0 q hq).2⟩, fun j => (o.frozen ⟨ab, j, none⟩ H.l.2 ha).trans (H.fa j), H.links.kept o (by omega), H.bd, H.d, ⟨Nat.lt_of_lt_of_le H.l.1 o.size, Nat.lt_of_lt_of_le H.l.2 o.size⟩⟩
  by_cases e : q = r
  · subst e; rw [upN_same]; exact World.cell?_setCell_same _ _ _ (H.c3 q hq)
  · rw [upN_other _ _ _ _ e]; exact (set_farW _ _ _ _ _ _ (Or.inr (by omega))).trans (H.c3 q hq)
/-- The links have turned. -/
theorem WhMem.setL {L' : Nat → List Nat} (H : WhMem w wb ab lb n now A L C) (k : Only lb (lb + 5) w w') (K : LinksAt w' lb n 768 L') : WhMem w' wb ab lb n now A L' C := by
  obtain ⟨d1, d2, d3⟩ := H.d
  exact ⟨(k.cell ⟨wb, 0, none⟩ H.l.1 d2).trans H.c0, (k.cell ⟨wb, 1, none⟩ H.l.1 d2).trans H.c1, (k.cell ⟨wb, 2, none⟩ H.l.1 d2).trans H.c2, fun r hr => (k.cell ⟨wb, 3 + r, none⟩ H.l.1 d2).trans (H.c3 r hr), fun j => (k.frozen ⟨wb, j, none⟩ H.l.1 d2).trans (H.fw j), fun q hq => ⟨(k.cell ⟨ab, q * 2, none⟩ H.l.2 d3).trans (H.a0 q hq).1, (k.cell ⟨ab, q * 2 + 1, none⟩ H.l.2 d3).trans (H.a0 q hq).2⟩, fun j => (k.frozen ⟨ab, j, none⟩ H.l.2 d3).trans (H.fa j), K, H.bd, H.d, ⟨Nat.lt_of_lt_of_le H.l.1 k.size, Nat.lt_of_lt_of_le H.l.2 k.size⟩⟩

set_option maxHeartbeats 1000000 in
theorem wunset_no (k : Int) (H : WhMem w wb ab lb n now A L C) (hk : ∀ i, i < 768 → ∀ x ∈ L i, (x : Int) ≠ k) :
    Calls Tryd.prog 24 #[.pointer (some ⟨wb, 0, none⟩), .int .i64 k] w fun e w' => e = .returned (.bool false) ∧ w = w' := by
  have CO := Lib.hid (on_none k H.links hk)
  have c2 := H.c2
  clear H
  go_enter Tryd.func24, Tryd.ntmps24
  go_wp2_with fail
  refine (CO.out).mono ?_
  rintro e w' ⟨rfl, rfl⟩
  go_wp2
  go_ret
  exact ⟨rfl, rfl⟩

set_option maxHeartbeats 4000000 in
theorem wunset_ok (k i lo hi : Nat) (H : WhMem w wb ab lb n now A L C) (hi' : i < 768) (hk : k ∈ L i) (hC : 1 ≤ C (i / 64) ∧ C (i / 64) ≤ 4096) (hlo : lo ≤ wb ∧ lo ≤ ab ∧ lo ≤ lb) (hhi : wb < hi ∧ ab < hi ∧ lb + 5 ≤ hi) :
    Calls Tryd.prog 24 #[.pointer (some ⟨wb, 0, none⟩), .int .i64 k] w fun e w' => e = .returned (.bool true) ∧ Only lo hi w w' ∧ WhMem w' wb ab lb n now (upA A k (0, 0)) (upL L i ((L i).erase k)) (upN C (i / 64) (C (i / 64) - 1)) := by
  have CO := Lib.hid (on_some k i H.links hi' hk)
  have CP := Lib.hid (pull_ok k i H.links hi' hk)
  have hkn := H.links.bound i hi' k hk
  have c2 := H.c2
  have HH := Lib.hid H
  have q1 : (k : Int) < (n : Int) := by omega
  have q0 : ¬ (k : Int) < 0 := by omega
  clear H
  go_enter Tryd.func24, Tryd.ntmps24
  go_wp2_with fail
  refine (CO.out).mono ?_
  rintro e w' ⟨rfl, rfl⟩
  go_wp2_with fail
  refine CP.out.mono ?_
  rintro e w1 ⟨rfl, k1, K1⟩
  have H1 := HH.out.setL k1 K1
  have c1 := H1.c1
  obtain ⟨b0, b1⟩ := H1.a0 k hkn
  have f0 := H1.fa (k * 2)
  have b1' : (w1.setCell ⟨ab, k * 2, none⟩ (.int .u64 0)).cell? ⟨ab, k * 2 + 1, none⟩ = some (.int .u64 ((A k).2 : Nat)) := (set_farW _ _ _ _ _ _ (Or.inr (by omega))).trans b1
  have f1 : (w1.setCell ⟨ab, k * 2, none⟩ (.int .u64 0)).frozen? ⟨ab, k * 2 + 1, none⟩ = false := (World.frozen?_setCell ..).trans (H1.fa _)
  have H2 := H1.setA k 0 0 hkn (by decide) (by decide)
  have HH2 : Hid (WhMem ((w1.setCell ⟨ab, k * 2, none⟩ (.int .u64 0)).setCell ⟨ab, k * 2 + 1, none⟩ (.int .u64 0)) wb ab lb n now (upA A k (0, 0)) (upL L i ((L i).erase k)) C) := Lib.hid H2
  have K1' := Lib.hid k1
  clear H1 H2 CO CP K1 k1 c2
  go_upto_region 6 with fail
  have O2 : Hid (Only ab (ab + 1) w1 ((w1.setCell ⟨ab, k * 2, none⟩ (.int .u64 0)).setCell ⟨ab, k * 2 + 1, none⟩ (.int .u64 0))) := Lib.hid ((Only.set (lo := ab) (hi := ab + 1) w1 ⟨ab, k * 2, none⟩ _ (Nat.le_refl _) (Nat.lt_succ_self _)).trans (Only.set (lo := ab) (hi := ab + 1) _ ⟨ab, k * 2 + 1, none⟩ _ (Nat.le_refl _) (Nat.lt_succ_self _)))
  clear b0 b1 b1' f0 f1 c1
  generalize (w1.setCell ⟨ab, k * 2, none⟩ (.int .u64 0)).setCell ⟨ab, k * 2 + 1, none⟩ (.int .u64 0) = w2 at *
  refine wp_region_still_tail 11 (by kernel_rfl) (by kernel_rfl) ?_
  simp only [List.take_succ_cons, List.take_zero, List.drop_succ_cons, List.drop_zero]
  change wpStill _ _ w2.drew (fun a' => wpList _ _ _ _ a' w2.drew) _ _
  have kd : w2.grownBy w2.drew none := ⟨rfl, rfl, rfl, Nat.le_refl _, fun _ _ _ => rfl⟩
  have H3 := HH2.out.kept kd
  have O3 := Lib.hid (O2.out.trans (Only.of_none kd))
  clear kd HH2 O2
  generalize w2.drew = w3 at *
  have hr : i / 64 < 12 := by omega
  have g1 := H3.c3 (i / 64) hr
  have g2 := H3.fw (3 + i / 64)
  have HH3 := Lib.hid H3
  have q2 : IntKind.i64.wrap ((i : Int) / 64) = (i : Int) / 64 := by rw [IntKind.wrap_i64]; omega
  have q3 : 0 ≤ (i : Int) / 64 := by omega
  have q4 : (i : Int) / 64 < 12 := by omega
  have q5 : ((i : Int) / 64).toNat = i / 64 := by omega
  have q6 : IntKind.i64.wrap (((C (i / 64) : Nat) : Int) - 1) = ((C (i / 64) - 1 : Nat) : Int) := by rw [IntKind.wrap_i64]; omega
  clear H3
  repeat still_step
  refine wpStill_nil ?_
  go_wp2
  go_ret
  refine ⟨rfl, ?_, ?_⟩
  · have oC : Only wb (wb + 1) w3 (w3.setCell ⟨wb, 3 + i / 64, none⟩ (.int .i64 ((C (i / 64) - 1 : Nat) : Int))) := Only.set (lo := wb) (hi := wb + 1) w3 ⟨wb, 3 + i / 64, none⟩ _ (Nat.le_refl _) (Nat.lt_succ_self _)
    exact ((K1'.out.wider (by omega) (by omega)).trans (O3.out.wider (by omega) (by omega))).trans (oC.wider (by omega) (by omega))
  · exact HH3.out.setC (i / 64) (C (i / 64) - 1) hr
end
end Go.Proofs.YtkkodhjolgcokaaDoor
/-
  Contracts of package wheel, over this seat's translation: Set.
-/
namespace Go.Proofs.YtkkodhjolgcokaaDoor
open Go.RowKit Go.Lib
set_option maxRecDepth 100000

section
variable {w w' : World} {wb ab lb n now : Nat} {A : Nat → Nat × Nat} {L : Nat → List Nat} {C : Nat → Nat}
/-- The list on which an alarm for a time goes. -/
def slotN (now t : Nat) : Nat := rowN now t * 64 + digN (rowN now t) t
theorem slotN_lt {now t : Nat} (h : rowN now t ≤ 11) : slotN now t < 768 := by
  have := digN_lt (rowN now t) t
  unfold slotN
  omega
theorem slotN_row (now t : Nat) : slotN now t / 64 = rowN now t := by
  have := digN_lt (rowN now t) t
  unfold slotN
  omega

set_option maxHeartbeats 4000000 in
theorem wset_no (k : Int) (t u : Nat) (H : WhMem w wb ab lb n now A L C) (ht : t < 18446744073709551616) (hb : Lib.bitLen (t ^^^ now) ≤ 64) (hk : (k < 0 ∨ (n : Int) ≤ k) ∨ ∃ j, j < 768 ∧ k.toNat ∈ L j) :
    Calls Tryd.prog 25 #[.pointer (some ⟨wb, 0, none⟩), .int .i64 k, .int .u64 t, .int .u64 u] w fun e w' => e = .returned (.bool false) ∧ w.grownBy w' none := by
  have hrl := rowN_le now t ht H.bd.1 hb
  have CR := Lib.hid (rowOf_any wb now t w H.c0 ht H.bd.1 hb)
  have hr12 : rowN now t ≤ 12 := by omega
  have CD := Lib.hid fun v => digit_any (rowN now t) t v hrl ht
  have CL : Hid (∀ v : World, Calls Tryd.prog 44 #[.int .i64 (rowN now t : Nat), .int .i64 (digN (rowN now t) t : Nat)] v fun e w' => e = .returned (.int .i64 (slotN now t : Nat)) ∧ v = w') := Lib.hid fun v => listOf_any (rowN now t) (digN (rowN now t) t) v hr12 (digN_lt _ _)
  have kd : w.grownBy w.drew none := ⟨rfl, rfl, rfl, Nat.le_refl _, fun _ _ _ => rfl⟩
  have CP : Hid (Calls Tryd.prog 43 #[.pointer (some ⟨lb + 4, 0, none⟩), .int .i64 (slotN now t : Nat), .int .i64 k] w.drew fun e w' => e = .returned (.bool false) ∧ w.drew = w') := Lib.hid (push_no _ k (H.kept kd).links (Or.inr hk))
  have c2 := H.c2
  have KD := Lib.hid kd
  clear H kd hk
  generalize slotN now t = sl at *
  generalize digN (rowN now t) t = dd at *
  generalize rowN now t = rr at *
  go_enter Tryd.func25, Tryd.ntmps25
  go_wp2_with fail
  refine (CR.out).mono ?_
  rintro e w' ⟨rfl, rfl⟩
  have c2d : w.drew.cell? ⟨wb, 2, none⟩ = some (.pointer (some ⟨lb + 4, 0, none⟩)) := c2
  go_upto_region 2 with fail
  go_region_held3 (fun w' => w'.cell? ⟨wb, 2, none⟩ = some (.pointer (some ⟨lb + 4, 0, none⟩))) (exact c2d)
    (first
      | (go_at_call 45; with_reducible refine (CD.out _).mono ?_; rintro e w' ⟨rfl, rfl⟩)
      | (go_at_call 44; with_reducible refine (CL.out _).mono ?_; rintro e w' ⟨rfl, rfl⟩)
      | (go_at_call 43; with_reducible refine CP.out.mono ?_; rintro e w' ⟨rfl, rfl⟩))
  go_wp2
  go_ret
  exact ⟨rfl, KD.out⟩

set_option maxHeartbeats 4000000 in
theorem wset_ok (k t u lo hi : Nat) (H : WhMem w wb ab lb n now A L C) (ht : t < 18446744073709551616) (hu : u < 18446744073709551616) (hb : Lib.bitLen (t ^^^ now) ≤ 64) (hk : k < n) (hf : ∀ j, j < 768 → k ∉ L j) (hC : C (rowN now t) < 4096) (hlo : lo ≤ wb ∧ lo ≤ ab ∧ lo ≤ lb) (hhi : wb < hi ∧ ab < hi ∧ lb + 5 ≤ hi) :
    Calls Tryd.prog 25 #[.pointer (some ⟨wb, 0, none⟩), .int .i64 k, .int .u64 t, .int .u64 u] w fun e w' => e = .returned (.bool true) ∧ Only lo hi w w' ∧ WhMem w' wb ab lb n now (upA A k (t, u)) (upL L (slotN now t) (L (slotN now t) ++ [k])) (upN C (rowN now t) (C (rowN now t) + 1)) := by
  have hrl := rowN_le now t ht H.bd.1 hb
  have CR := Lib.hid (rowOf_any wb now t w H.c0 ht H.bd.1 hb)
  have hr12 : rowN now t ≤ 12 := by omega
  have CD := Lib.hid fun v => digit_any (rowN now t) t v hrl ht
  have CL : Hid (∀ v : World, Calls Tryd.prog 44 #[.int .i64 (rowN now t : Nat), .int .i64 (digN (rowN now t) t : Nat)] v fun e w' => e = .returned (.int .i64 (slotN now t : Nat)) ∧ v = w') := Lib.hid fun v => listOf_any (rowN now t) (digN (rowN now t) t) v hr12 (digN_lt _ _)
  have kd : w.grownBy w.drew none := ⟨rfl, rfl, rfl, Nat.le_refl _, fun _ _ _ => rfl⟩
  have CP := Lib.hid (push_ok (slotN now t) k (H.kept kd).links (slotN_lt hrl) hk hf)
  have c2 := H.c2
  have HK := Lib.hid (H.kept kd)
  have KD := Lib.hid kd
  have q1 : (k : Int) < (n : Int) := by omega
  have q0 : ¬ (k : Int) < 0 := by omega
  have d2 := H.d.2.1
  have hwd : wb < w.drew.heap.size := H.l.1
  clear H kd hf
  generalize slotN now t = sl at *
  generalize digN (rowN now t) t = dd at *
  generalize rowN now t = rr at *
  go_enter Tryd.func25, Tryd.ntmps25
  go_wp2_with fail
  refine (CR.out).mono ?_
  rintro e w' ⟨rfl, rfl⟩
  have c2d : w.drew.cell? ⟨wb, 2, none⟩ = some (.pointer (some ⟨lb + 4, 0, none⟩)) := c2
  go_upto_region 2 with fail
  go_region_held3 (fun w' => w'.cell? ⟨wb, 2, none⟩ = some (.pointer (some ⟨lb + 4, 0, none⟩))) (first | exact c2d | exact c2e)
    (first
      | (go_at_call 45; with_reducible refine (CD.out _).mono ?_; rintro e w' ⟨rfl, rfl⟩)
      | (go_at_call 44; with_reducible refine (CL.out _).mono ?_; rintro e w' ⟨rfl, rfl⟩)
      | (go_at_call 43; with_reducible refine CP.out.mono ?_; rintro e w1 ⟨rfl, k1, K1⟩; have c2e := (k1.cell ⟨wb, 2, none⟩ hwd d2).trans c2d))
  have H1 := HK.out.setL k1 K1
  have c1 := H1.c1
  obtain ⟨b0, b1⟩ := H1.a0 k hk
  have f0 := H1.fa (k * 2)
  have b1' : (w1.setCell ⟨ab, k * 2, none⟩ (.int .u64 (t : Nat))).cell? ⟨ab, k * 2 + 1, none⟩ = some (.int .u64 ((A k).2 : Nat)) := (set_farW _ _ _ _ _ _ (Or.inr (by omega))).trans b1
  have f1 : (w1.setCell ⟨ab, k * 2, none⟩ (.int .u64 (t : Nat))).frozen? ⟨ab, k * 2 + 1, none⟩ = false := (World.frozen?_setCell ..).trans (H1.fa _)
  have HH2 := Lib.hid (H1.setA k t u hk ht hu)
  have K1' := Lib.hid k1
  clear H1 CD CL CP CR K1 k1 c2 c2d c2e
  go_upto_region 5 with fail
  have O2 : Hid (Only ab (ab + 1) w1 ((w1.setCell ⟨ab, k * 2, none⟩ (.int .u64 (t : Nat))).setCell ⟨ab, k * 2 + 1, none⟩ (.int .u64 (u : Nat)))) := Lib.hid ((Only.set (lo := ab) (hi := ab + 1) w1 ⟨ab, k * 2, none⟩ _ (Nat.le_refl _) (Nat.lt_succ_self _)).trans (Only.set (lo := ab) (hi := ab + 1) _ ⟨ab, k * 2 + 1, none⟩ _ (Nat.le_refl _) (Nat.lt_succ_self _)))
  clear b0 b1 b1' f0 f1 c1
  generalize (w1.setCell ⟨ab, k * 2, none⟩ (.int .u64 (t : Nat))).setCell ⟨ab, k * 2 + 1, none⟩ (.int .u64 (u : Nat)) = w2 at *
  refine wp_region_still_tail 10 (by kernel_rfl) (by kernel_rfl) ?_
  simp only [List.take_succ_cons, List.take_zero, List.drop_succ_cons, List.drop_zero]
  change wpStill _ _ w2.drew (fun a' => wpList _ _ _ _ a' w2.drew) _ _
  have kd : w2.grownBy w2.drew none := ⟨rfl, rfl, rfl, Nat.le_refl _, fun _ _ _ => rfl⟩
  have H3 := HH2.out.kept kd
  have O3 := Lib.hid (O2.out.trans (Only.of_none kd))
  clear kd HH2 O2
  generalize w2.drew = w3 at *
  have hr : rr < 12 := by omega
  have g1 := H3.c3 rr hr
  have g2 := H3.fw (3 + rr)
  have HH3 := Lib.hid H3
  have q4 : (rr : Int) < 12 := by omega
  have q6 : IntKind.i64.wrap (((C rr : Nat) : Int) + 1) = ((C rr + 1 : Nat) : Int) := by rw [IntKind.wrap_i64]; omega
  clear H3
  repeat still_step
  refine wpStill_nil ?_
  go_wp2
  go_ret
  refine ⟨rfl, ?_, ?_⟩
  · have oC : Only wb (wb + 1) w3 (w3.setCell ⟨wb, 3 + rr, none⟩ (.int .i64 ((C rr + 1 : Nat) : Int))) := Only.set (lo := wb) (hi := wb + 1) w3 ⟨wb, 3 + rr, none⟩ _ (Nat.le_refl _) (Nat.lt_succ_self _)
    exact (((Only.of_none KD.out).trans (K1'.out.wider (by omega) (by omega))).trans (O3.out.wider (by omega) (by omega))).trans (oC.wider (by omega) (by omega))
  · exact HH3.out.setC rr (C rr + 1) hr
end
end Go.Proofs.YtkkodhjolgcokaaDoor
/-
  The arithmetic of a cycle of slots: when they begin, whose they are, which one is a tenant's next.
-/
namespace Go.Proofs.YtkkodhjolgcokaaDoor
set_option linter.unusedVariables false

def sumN (f : Nat → Nat) : Nat → Nat
  | 0 => 0
  | k + 1 => sumN f k + f k

theorem sumN_congr {f g : Nat → Nat} : ∀ n, (∀ i, i < n → f i = g i) → sumN f n = sumN g n
  | 0, _ => rfl
  | n + 1, h => by simp only [sumN]; rw [sumN_congr n (fun i hi => h i (by omega)), h n (by omega)]
theorem sumN_add (f : Nat → Nat) (a : Nat) : ∀ b, sumN f (a + b) = sumN f a + sumN (fun i => f (a + i)) b
  | 0 => rfl
  | b + 1 => by rw [← Nat.add_assoc]; simp only [sumN]; rw [sumN_add f a b]; omega
theorem sumN_mono (f : Nat → Nat) {a b : Nat} (h : a ≤ b) : sumN f a ≤ sumN f b := by
  obtain ⟨d, rfl⟩ := Nat.exists_eq_add_of_le h
  rw [sumN_add]; omega
theorem sumN_le (f : Nat → Nat) (m : Nat) : ∀ n, (∀ i, i < n → f i ≤ m) → sumN f n ≤ n * m
  | 0, _ => by simp [sumN]
  | n + 1, h => by
    have := sumN_le f m n (fun i hi => h i (by omega))
    have := h n (by omega)
    simp only [sumN]; rw [Nat.add_mul]; omega
theorem sumN_const (m : Nat) : ∀ n, sumN (fun _ => m) n = n * m
  | 0 => by simp [sumN]
  | n + 1 => by simp only [sumN]; rw [sumN_const m n, Nat.add_mul]; omega
theorem sumN_period (f : Nat → Nat) (n : Nat) (h : ∀ i, f (i + n) = f i) : ∀ a, sumN f (a + n) = sumN f a + sumN f n
  | 0 => by simp [sumN]
  | a + 1 => by
    have e : a + 1 + n = (a + n) + 1 := by omega
    rw [e]; simp only [sumN]; rw [sumN_period f n h a, h a]; omega
theorem sumN_periods (f : Nat → Nat) (n : Nat) (h : ∀ i, f (i + n) = f i) (a : Nat) : ∀ q, sumN f (a + q * n) = sumN f a + q * sumN f n
  | 0 => by simp
  | q + 1 => by
    have e : a + (q + 1) * n = (a + q * n) + n := by rw [Nat.add_mul]; omega
    rw [e, sumN_period f n h, sumN_periods f n h a q, Nat.add_mul]; omega
/-- What comes in a window as long as the period. -/
theorem sumN_window (f : Nat → Nat) (n : Nat) (h : ∀ i, f (i + n) = f i) (a : Nat) : sumN (fun i => f (a + i)) n = sumN f n := by
  have h1 := sumN_add f a n
  have h2 := sumN_period f n h a
  omega

theorem periods_eq {f : Nat → Nat} {n : Nat} (h : ∀ i, f (i + n) = f i) (i : Nat) : ∀ q, f (i + q * n) = f i
  | 0 => by simp
  | q + 1 => by
    have e : i + (q + 1) * n = (i + q * n) + n := by rw [Nat.add_mul]; omega
    rw [e, h, periods_eq h i q]

/-- When a slot begins, cycle by cycle. -/
def begN (L : Nat → Nat) (n i : Nat) : Nat := sumN (fun j => L (j % n)) i
/-- How many slots ahead of it are a tenant's. -/
def ownN (O : Nat → Int) (n : Nat) (who : Int) (i : Nat) : Nat := sumN (fun j => if O (j % n) = who then 1 else 0) i

theorem begN_low (L : Nat → Nat) (n i : Nat) (h : i ≤ n) : begN L n i = sumN L i :=
  sumN_congr i fun j hj => by rw [Nat.mod_eq_of_lt (by omega)]
theorem ownN_low (O : Nat → Int) (n : Nat) (who : Int) (i : Nat) (h : i ≤ n) : ownN O n who i = sumN (fun j => if O j = who then 1 else 0) i :=
  sumN_congr i fun j hj => by rw [Nat.mod_eq_of_lt (by omega)]
theorem begN_succ (L : Nat → Nat) (n i : Nat) : begN L n (i + 1) = begN L n i + L (i % n) := rfl
theorem ownN_succ (O : Nat → Int) (n : Nat) (who : Int) (i : Nat) : ownN O n who (i + 1) = ownN O n who i + (if O (i % n) = who then 1 else 0) := rfl
theorem begN_on (L : Nat → Nat) (n i q : Nat) : begN L n (i + q * n) = begN L n i + q * sumN L n := by
  have := sumN_periods (fun j => L (j % n)) n (fun i => by simp) i q
  rw [show sumN L n = begN L n n from (begN_low L n n (Nat.le_refl _)).symm]
  exact this
theorem ownN_on (O : Nat → Int) (n : Nat) (who : Int) (i q : Nat) : ownN O n who (i + q * n) = ownN O n who i + q * ownN O n who n :=
  sumN_periods (fun j => if O (j % n) = who then 1 else 0) n (fun i => by simp) i q
theorem begN_lt {L : Nat → Nat} {n : Nat} (hn : 0 < n) (hL : ∀ i, i < n → 0 < L i) {i j : Nat} (h : i < j) : begN L n i < begN L n j := by
  have h1 : begN L n (i + 1) ≤ begN L n j := sumN_mono _ (by omega)
  have h2 := hL (i % n) (Nat.mod_lt _ hn)
  rw [begN_succ] at h1; omega
theorem begN_le {L : Nat → Nat} {n i j : Nat} (h : i ≤ j) : begN L n i ≤ begN L n j := sumN_mono _ h
theorem ownN_le {O : Nat → Int} {n : Nat} {who : Int} {i j : Nat} (h : i ≤ j) : ownN O n who i ≤ ownN O n who j := sumN_mono _ h
theorem begN_ge {L : Nat → Nat} {n : Nat} (hn : 0 < n) (hL : ∀ i, i < n → 0 < L i) : ∀ i, i ≤ begN L n i
  | 0 => Nat.zero_le _
  | i + 1 => by have := begN_ge hn hL i; have := begN_lt hn hL (show i < i + 1 by omega); omega

/-- The slot of a tick. -/
theorem slot_at {L : Nat → Nat} {n : Nat} (hn : 0 < n) (hL : ∀ i, i < n → 0 < L i) : ∀ x, ∃ i, begN L n i ≤ x ∧ x < begN L n (i + 1)
  | 0 => ⟨0, Nat.le_refl _, by have h := begN_lt hn hL (show 0 < 0 + 1 by omega); have h0 : begN L n 0 = 0 := rfl; omega⟩
  | x + 1 => by
    obtain ⟨i, h1, h2⟩ := slot_at hn hL x
    by_cases h : x + 1 < begN L n (i + 1)
    · exact ⟨i, by omega, h⟩
    · exact ⟨i + 1, by omega, by have := begN_lt hn hL (show i + 1 < i + 1 + 1 by omega); omega⟩
theorem slot_one {L : Nat → Nat} {n : Nat} (hn : 0 < n) (hL : ∀ i, i < n → 0 < L i) {x i j : Nat} (h1 : begN L n i ≤ x) (h2 : x < begN L n (i + 1)) (h3 : begN L n j ≤ x) (h4 : x < begN L n (j + 1)) : i = j := by
  rcases Nat.lt_trichotomy i j with h | h | h
  · have := begN_le (L := L) (n := n) (show i + 1 ≤ j by omega); omega
  · exact h
  · have := begN_le (L := L) (n := n) (show j + 1 ≤ i by omega); omega
theorem slots_at {L : Nat → Nat} {n : Nat} (hn : 0 < n) (hL : ∀ i, i < n → 0 < L i) : ∃ sl : Nat → Nat, ∀ x, begN L n (sl x) ≤ x ∧ x < begN L n (sl x + 1) :=
  ⟨fun x => Classical.choose (slot_at hn hL x), fun x => Classical.choose_spec (slot_at hn hL x)⟩

/-- The first slot that begins no earlier. -/
theorem first_atP {L : Nat → Nat} {n : Nat} (hn : 0 < n) (hL : ∀ i, i < n → 0 < L i) (t : Nat) : ∃ i, t ≤ begN L n i ∧ ∀ j, j < i → begN L n j < t := by
  cases t with
  | zero => exact ⟨0, Nat.zero_le _, fun j hj => absurd hj (by omega)⟩
  | succ x =>
    obtain ⟨i, h1, h2⟩ := slot_at hn hL x
    exact ⟨i + 1, by omega, fun j hj => by have := begN_le (L := L) (n := n) (show j ≤ i by omega); omega⟩

theorem own_before (O : Nat → Int) (n : Nat) (who : Int) (r : Nat) : ∀ N, r < ownN O n who N → ∃ i, i < N ∧ O (i % n) = who ∧ ownN O n who i = r
  | 0, h => absurd h (by simp [ownN, sumN])
  | N + 1, h => by
    by_cases h1 : r < ownN O n who N
    · obtain ⟨i, hi, h2⟩ := own_before O n who r N h1
      exact ⟨i, by omega, h2⟩
    · rw [ownN_succ] at h
      by_cases h2 : O (N % n) = who
      · rw [if_pos h2] at h
        exact ⟨N, by omega, h2, by omega⟩
      · rw [if_neg h2] at h; omega
theorem own_at {O : Nat → Int} {n : Nat} {who : Int} (he : 0 < ownN O n who n) (r : Nat) : ∃ i, O (i % n) = who ∧ ownN O n who i = r := by
  have h := ownN_on O n who 0 (r + 1)
  have h2 : (r + 1) * 1 ≤ (r + 1) * ownN O n who n := Nat.mul_le_mul_left _ he
  obtain ⟨i, _, h3⟩ := own_before O n who r (0 + (r + 1) * n) (by omega)
  exact ⟨i, h3⟩
theorem own_lt {O : Nat → Int} {n : Nat} {who : Int} {i j : Nat} (h : O (i % n) = who) (hij : i < j) : ownN O n who i < ownN O n who j := by
  have h1 : ownN O n who (i + 1) ≤ ownN O n who j := ownN_le (by omega)
  rw [ownN_succ, if_pos h] at h1; omega
theorem own_one {O : Nat → Int} {n : Nat} {who : Int} {i j : Nat} (h : O (i % n) = who) (h' : O (j % n) = who) (e : ownN O n who i = ownN O n who j) : i = j := by
  rcases Nat.lt_trichotomy i j with h1 | h1 | h1
  · have := own_lt h h1; omega
  · exact h1
  · have := own_lt h' h1; omega

/-- The slots of one tenant, counted: the r-th begins at P r and ends at E r; m t of them begin ahead of t. -/
structure Turns (P E m : Nat → Nat) (each C : Nat) : Prop where
  pos : 0 < each
  rise : ∀ r, P r < P (r + 1)
  ends : ∀ r, P r < E r ∧ E r ≤ P (r + 1)
  perP : ∀ r, P (r + each) = P r + C
  perE : ∀ r, E (r + each) = E r + C
  low : ∀ r, r < each → P r < C
  mem : ∀ t r, P r < t ↔ r < m t

structure TurnsOf (O : Nat → Int) (L : Nat → Nat) (n : Nat) (who : Int) (P E m : Nat → Nat) : Prop where
  t : Turns P E m (ownN O n who n) (sumN L n)
  is : ∀ i, O (i % n) = who → P (ownN O n who i) = begN L n i ∧ E (ownN O n who i) = begN L n (i + 1)

theorem turns_of {O : Nat → Int} {L : Nat → Nat} {n : Nat} (who : Int) (hn : 0 < n) (hL : ∀ i, i < n → 0 < L i) (he : 0 < ownN O n who n) : ∃ P E m, TurnsOf O L n who P E m := by
  let pos : Nat → Nat := fun r => Classical.choose (own_at he r)
  have hp : ∀ r, O (pos r % n) = who ∧ ownN O n who (pos r) = r := fun r => Classical.choose_spec (own_at he r)
  let idx : Nat → Nat := fun t => Classical.choose (first_atP hn hL t)
  have hi : ∀ t, t ≤ begN L n (idx t) ∧ ∀ j, j < idx t → begN L n j < t := fun t => Classical.choose_spec (first_atP hn hL t)
  have hlt : ∀ r s, r < s → pos r < pos s := fun r s h => by
    rcases Nat.lt_or_ge (pos r) (pos s) with h1 | h1
    · exact h1
    · have := ownN_le (O := O) (n := n) (who := who) h1
      rw [(hp r).2, (hp s).2] at this; omega
  have hon : ∀ r, pos (r + ownN O n who n) = pos r + n := fun r => by
    apply own_one (hp _).1 (by simpa using (hp r).1)
    have := ownN_on O n who (pos r) 1
    simp only [Nat.one_mul] at this
    rw [(hp _).2, this, (hp r).2]
  refine ⟨fun r => begN L n (pos r), fun r => begN L n (pos r + 1), fun t => ownN O n who (idx t), ⟨he, fun r => ?_, fun r => ⟨?_, ?_⟩, fun r => ?_, fun r => ?_, fun r hr => ?_, fun t r => ⟨fun h => ?_, fun h => ?_⟩⟩, fun i h => ?_⟩
  · exact begN_lt hn hL (hlt _ _ (by omega))
  · exact begN_lt hn hL (by omega)
  · exact begN_le (hlt r (r + 1) (by omega))
  · show begN L n (pos (r + ownN O n who n)) = _
    rw [hon]
    simpa using begN_on L n (pos r) 1
  · show begN L n (pos (r + ownN O n who n) + 1) = _
    rw [hon, show pos r + n + 1 = pos r + 1 + n by omega]
    simpa using begN_on L n (pos r + 1) 1
  · obtain ⟨i, h1, h2, h3⟩ := own_before O n who r n hr
    have h4 : pos r = i := own_one (hp r).1 h2 (by rw [(hp r).2, h3])
    show begN L n (pos r) < _
    rw [h4, ← begN_low L n n (Nat.le_refl _)]
    exact begN_lt hn hL h1
  · have h1 : pos r < idx t := by
      rcases Nat.lt_or_ge (pos r) (idx t) with h1 | h1
      · exact h1
      · have := begN_le (L := L) (n := n) h1
        have := (hi t).1
        have h : begN L n (pos r) < t := h
        omega
    have := own_lt (hp r).1 h1
    rw [(hp r).2] at this; exact this
  · have h1 : pos r < idx t := by
      rcases Nat.lt_or_ge (pos r) (idx t) with h1 | h1
      · exact h1
      · have := ownN_le (O := O) (n := n) (who := who) h1
        rw [(hp r).2] at this
        have h : r < ownN O n who (idx t) := h
        omega
    exact (hi t).2 _ h1
  · have : pos (ownN O n who i) = i := own_one (hp _).1 h (hp _).2
    show begN L n (pos (ownN O n who i)) = _ ∧ begN L n (pos (ownN O n who i) + 1) = _
    rw [this]; exact ⟨rfl, rfl⟩

theorem TurnsOf.at {O : Nat → Int} {L : Nat → Nat} {n : Nat} {who : Int} {P E m : Nat → Nat} (T : TurnsOf O L n who P E m) (r : Nat) : ∃ i, O (i % n) = who ∧ ownN O n who i = r ∧ P r = begN L n i ∧ E r = begN L n (i + 1) := by
  obtain ⟨i, h1, h2⟩ := own_at T.t.pos r
  have := T.is i h1
  rw [h2] at this
  exact ⟨i, h1, h2, this.1, this.2⟩

namespace Turns
variable {P E m : Nat → Nat} {each C : Nat} (T : Turns P E m each C)
include T
theorem le {r s : Nat} (h : r ≤ s) : P r ≤ P s := by
  obtain ⟨d, rfl⟩ := Nat.exists_eq_add_of_le h
  induction d with
  | zero => exact Nat.le_refl _
  | succ d ih => have := ih (by omega); have := T.rise (r + d); rw [← Nat.add_assoc]; omega
theorem lt {r s : Nat} (h : r < s) : P r < P s := by have := T.rise r; have := T.le (show r + 1 ≤ s by omega); omega
theorem elt {r s : Nat} (h : r < s) : E r < E s := by have := T.ends r; have := T.ends s; have := T.le (show r + 1 ≤ s by omega); omega
theorem m_le {r t : Nat} : m t ≤ r ↔ t ≤ P r := by have := T.mem t r; omega
theorem m_at (r : Nat) : m (P r) = r := by
  have h1 := (T.m_le (r := r) (t := P r)).2 (Nat.le_refl _)
  rcases Nat.lt_or_ge (m (P r)) r with h | h
  · have h2 := (T.m_le (r := m (P r)) (t := P r)).1 (Nat.le_refl _)
    have := T.lt h; omega
  · omega
theorem m_next (r : Nat) : m (P r + 1) = r + 1 := by
  have h1 := (T.m_le (r := r + 1) (t := P r + 1)).2 (T.rise r)
  have h2 := (T.mem (P r + 1) r).1 (by omega)
  omega
theorem m_mono {s t : Nat} (h : s ≤ t) : m s ≤ m t := by
  have := (T.m_le (r := m t) (t := t)).1 (Nat.le_refl _)
  exact T.m_le.2 (by omega)
theorem m_ge (t : Nat) : t ≤ P (m t) := T.m_le.1 (Nat.le_refl _)
theorem m_same {s t : Nat} (h1 : t ≤ s) (h2 : s ≤ P (m t)) : m s = m t := by
  have := T.m_mono h1
  have := T.m_le.2 h2
  omega
theorem perPs (r q : Nat) : P (r + q * each) = P r + q * C := by
  induction q with
  | zero => simp
  | succ q ih => rw [show r + (q + 1) * each = (r + q * each) + each by rw [Nat.add_mul]; omega, T.perP, ih, Nat.add_mul]; omega
theorem perEs (r q : Nat) : E (r + q * each) = E r + q * C := by
  induction q with
  | zero => simp
  | succ q ih => rw [show r + (q + 1) * each = (r + q * each) + each by rw [Nat.add_mul]; omega, T.perE, ih, Nat.add_mul]; omega
theorem m_one (s : Nat) : m (s + C) = m s + each := by
  have h1 : m (s + C) ≤ m s + each := T.m_le.2 (by have := T.perP (m s); have := T.m_ge s; omega)
  rcases Nat.lt_or_ge (m (s + C)) (m s + each) with h | h
  · exfalso
    have h2 := T.m_ge (s + C)
    rcases Nat.lt_or_ge (m (s + C)) each with h6 | h6
    · have := T.low _ h6; omega
    · have h4 := T.perP (m (s + C) - each)
      rw [Nat.sub_add_cancel h6] at h4
      have h8 := (T.mem s (m (s + C) - each)).2 (by omega)
      omega
  · omega
theorem m_on (t : Nat) : ∀ q, m (t + q * C) = m t + q * each
  | 0 => by simp
  | q + 1 => by
    rw [show t + (q + 1) * C = (t + q * C) + C by rw [Nat.add_mul]; omega, T.m_one, m_on t q, Nat.add_mul]; omega
theorem split (t k : Nat) : P (m t + k) = P (m (t % C) + k % each) + (t / C * C + k / each * C) ∧ E (m t + k) = E (m (t % C) + k % each) + (t / C * C + k / each * C) := by
  have h1 : t = t % C + t / C * C := by have := Nat.mod_add_div t C; rw [Nat.mul_comm C] at this; omega
  have h2 : k = k % each + k / each * each := by have := Nat.mod_add_div k each; rw [Nat.mul_comm each] at this; omega
  have h3 : m t + k = m (t % C) + k % each + (t / C + k / each) * each := by
    rw [Nat.add_mul]
    have := T.m_on (t % C) (t / C)
    rw [← h1] at this
    omega
  rw [h3, T.perPs, T.perEs, Nat.add_mul]; exact ⟨rfl, rfl⟩
theorem e_last : E (each - 1) < 2 * C := by
  have h := T.ends (each - 1)
  have h1 := T.pos
  rw [Nat.sub_add_cancel h1] at h
  have h2 := T.perP 0
  rw [Nat.zero_add] at h2
  have h3 := T.low 0 h1
  omega
theorem m_low (s : Nat) (hs : s < C) : m s ≤ each := T.m_le.2 (by have := T.perP 0; rw [Nat.zero_add] at this; omega)
theorem bound (t k : Nat) : E (m t + k) < t + (k + 3) * C := by
  have hC : 0 < C := by have := T.low 0 T.pos; omega
  have h1 := (T.split t k).2
  have h2 := T.m_low (t % C) (Nat.mod_lt _ hC)
  have h3 : k % each < each := Nat.mod_lt _ T.pos
  have h4 : E (m (t % C) + k % each) ≤ E (each - 1 + each) := by
    rcases Nat.lt_or_ge (m (t % C) + k % each) (each - 1 + each) with h | h
    · exact Nat.le_of_lt (T.elt h)
    · have : m (t % C) + k % each = each - 1 + each := by omega
      rw [this]; exact Nat.le_refl _
  rw [T.perE] at h4
  have h5 := T.e_last
  have h6 : t / C * C ≤ t := Nat.div_mul_le_self _ _
  have h7 : k / each * C ≤ k * C := Nat.mul_le_mul_right _ (Nat.div_le_self _ _)
  rw [Nat.add_mul]
  omega
end Turns
end Go.Proofs.YtkkodhjolgcokaaDoor
/-
  Contracts of package wheel, over this seat's translation: Len, least.
-/
namespace Go.Proofs.YtkkodhjolgcokaaDoor
open Go.RowKit Go.Lib
set_option maxRecDepth 100000
set_option linter.unusedVariables false

theorem counts_info : (Tryd.prog.info? 75).map (·.size) = some 12 := by kernel_rfl
theorem int_one : (Tryd.prog.info? 3).map (·.size) = some 1 := by kernel_rfl

/-- The counts, as a whole, out of the wheel. -/
theorem load_counts {rest : List Oper} {ops : Array Oper} {dst : Option Nat} {tt : TypeId} {ps : String} {af : Array Edge} {x : Operand} {f : Act} {w : World} {Q : Exit → Act → World → Prop} (b o : Nat) (a : Array Value) (hr : w.rangeAt b o a.toList) (hs : a.size = 12)
    (hx : f.eval x = .pointer (some ⟨b, o, none⟩)) (hyp : wpList Tryd.prog ops Q rest (f.put dst (.agg a)) w) :
    wpList Tryd.prog ops Q ({ dst := dst, op := .load 75 x, type := tt, pos := ps, after := af, guard := none } :: rest) f w := by
  refine wpList_load_mid rfl 75 x rfl b o hx a.toList _ hr Tryd.underlying75 rfl (by rw [counts_info]; simp [hs]) ?_
  simpa using hyp

theorem index_counts {rest : List Oper} {ops : Array Oper} {dst : Option Nat} {tt : TypeId} {ps : String} {af : Array Edge} {x i : Operand} {f : Act} {w : World} {Q : Exit → Act → World → Prop} (a : Array Value) (j : Nat) (v : Value) (hj : j < 12) (ha : a[j]? = some v)
    (hx : f.eval x = .agg a) (hi : f.eval i = .int .i64 (j : Int)) (hyp : wpList Tryd.prog ops Q rest (f.put dst v) w) :
    wpList Tryd.prog ops Q ({ dst := dst, op := .index 75 x i, type := tt, pos := ps, after := af, guard := none } :: rest) f w := by
  refine wpList_plain rfl fun K hK => ?_
  have hlt : (0 : Int) ≤ (j : Int) ∧ (j : Int) < (12 : Nat) := by omega
  have hrun : (Instr.index 75 (.agg a) (.int .i64 (j : Int))).run Tryd.prog w = .ok v w := by
    cases hq : Tryd.prog.info? 3 with
    | none => have := int_one; simp [hq] at this
    | some info =>
      have h1 : info.size = 1 := by have := int_one; simpa [hq] using this
      simp [Instr.index, asIntOf, run_underlying Tryd.underlying75 w, hj, sizeOf, typeInfo, hq, h1, part, run_underlying Tryd.underlying3 w, isAgg, ha]
  unfold Oper.wp execOp
  simp only [hx, hi, Sem.run_bind, hrun, Result.andThen_ok, Sem.run_pure]
  exact hK _ _ hyp

section
variable {w : World} {wb ab lb n now : Nat} {A : Nat → Nat × Nat} {L : Nat → List Nat} {C : Nat → Nat}

set_option maxHeartbeats 1000000 in
theorem wlen_any (H : WhMem w wb ab lb n now A L C) (hb : ∀ r, r < 12 → C r ≤ 4096) : Calls Tryd.prog 29 #[.pointer (some ⟨wb, 0, none⟩)] w fun e w' => e = .returned (.int .i64 (sumN C 12 : Nat)) ∧ w = w' := by
  obtain ⟨a, ha⟩ : ∃ a : Array Value, a = ((List.range 12).map (fun r => Value.int .i64 (C r : Nat))).toArray := ⟨_, rfl⟩
  have hs : a.size = 12 := by rw [ha]; simp
  have hat : ∀ j, j < 12 → a[j]? = some (.int .i64 (C j : Nat)) := fun j hj => by rw [ha]; simp [hj]
  have hr : w.rangeAt wb 3 a.toList := fun j v hv => by
    have hj : j < 12 := by have := (List.getElem?_eq_some_iff.1 hv).1; simpa [hs] using this
    have h1 := hat j hj
    rw [Array.getElem?_toList] at hv
    rw [h1] at hv
    rw [H.c3 j hj]; exact hv
  have HR := Lib.hid hr
  have HAT := Lib.hid hat
  have HB := Lib.hid hb
  clear H ha hr hat hb
  go_enter Tryd.func29, Tryd.ntmps29
  go_wp2_with (refine load_counts wb 3 a HR.out hs rfl ?_)
  go_loop [3, 10] (fun s it => ∃ j : Nat, j ≤ 12 ∧ it = .int .i64 j ∧ s = .int .i64 (sumN C j : Nat)) (fun s it => 12 - (Go.RowKit.intOf it).toNat)
  case atStart => exact ⟨0, Nat.zero_le _, rfl, rfl⟩
  case round =>
    obtain ⟨j, hj, rfl, rfl⟩ := hrel
    by_cases hjk : j < 12
    · have h1 := HAT.out j hjk
      have hc := HB.out j hjk
      have hl : sumN C j ≤ j * 4096 := sumN_le C 4096 j (fun i hi => HB.out i (by omega))
      have hss : Hid (sumN C (j + 1) = sumN C j + C j) := Lib.hid rfl
      have x1 : IntKind.i64.wrap ((sumN C j : Int) + (C j : Int)) = ((sumN C (j + 1) : Nat) : Int) := by rw [hss.out, IntKind.wrap_i64]; omega
      clear hc hl
      go_wp2_with (refine index_counts a j _ hjk h1 rfl rfl ?_)
      go_round
      case rel => exact ⟨j + 1, by omega, by go_num, rfl⟩
      case measure => simp [Go.RowKit.intOf]; omega
    · obtain rfl : j = 12 := by omega
      clear hjk
      go_wp2
      go_ret
      exact ⟨rfl, rfl⟩

/-- The least time of some alarms. -/
def leastN (A : Nat → Nat × Nat) : List Nat → Nat → Nat
  | [], m => m
  | k :: r, m => leastN A r (min m (A k).1)
end
end Go.Proofs.YtkkodhjolgcokaaDoor
/-
  'append' onto a row of the call's own, of a slice that may be nil. (Over any program.)
-/
namespace Go.Proofs.YtkkodhjolgcokaaDoor
open Go
set_option maxRecDepth 100000

/-- A source of m elements: a slice of them, or a nil one. -/
def SrcAt (w : World) (size : Nat) (x : Value) (m : Nat) (news : List Value) : Prop :=
  (∃ ad c, x = .slice (some ad) m c ∧ news.length = m * size ∧ (∀ j u, news[j]? = some u → w.cell? (ad.add j) = some u) ∧ ∀ u ∈ news, u.oneCell' = true) ∨ (∃ c, x = .slice none 0 c ∧ m = 0 ∧ news = [])

theorem run_append_src (P : Program) (w : World) (base : Nat) (t ty e : TypeId) (i : TypeInfo) (z : Value) (size bytes : Nat) (ht : P.underlying t = some (.slice e)) (hi : P.info? e = some i) (hz : i.zero = some z)
    (hsize : i.size = size) (hby : i.bytes = bytes) (hzs : z.cells.size = size) (hsz : 0 < size)
    (v : Value) (n : Nat) (xs : List Value) (hown : w.ownsRow base e size v n xs)
    (x : Value) (m : Nat) (news : List Value) (hx : SrcAt w size x m news)
    (h63 : n + m ≤ maxLen) (hbytes : (n + m) * bytes ≤ 140737488355328) (hbase : base ≤ w.heap.size) :
    ∃ v' w', (Builtin.append_ #[t, t] ty #[v, x]).run P w = .ok v' w' ∧ w'.ownsRow base e size v' (n + m) (xs ++ news) ∧ w.grownBy w' v.ownBlock ∧ (v' = .slice none 0 0 ↔ v = .slice none 0 0 ∧ m = 0) ∧ (v'.ownBlock = v.ownBlock ∨ v'.ownBlock = some w.heap.size) := by
  rcases hx with ⟨ad, c, rfl, hl, hnews, h1⟩ | ⟨c, rfl, rfl, rfl⟩
  · exact run_append_own_at (P := P) w base t ty e i z size bytes ht hi hz hsize hby hzs hsz v n xs hown ad m c news hl hnews h1 h63 hbytes hbase
  · have hr : (Builtin.append_ #[t, t] ty #[v, .slice none 0 c]).run P w = .ok v w := by
      rcases hown.2 with ⟨h0, _⟩ | ⟨r, cp, cur, hv, hrest⟩
      · rw [h0]
        exact run_append_nothing w t t ty e i ht hi none 0 0 (Nat.le_refl _) _ (Src.ofNil w ht c)
      · rw [hv]
        exact run_append_nothing w t t ty e i ht hi _ n cp (by omega) _ (Src.ofNil w ht c)
    exact ⟨v, w, hr, by simpa using hown, World.grownBy.refl w _, by simp, Or.inl rfl⟩

theorem wpList_append_src {P : Program} (w : World) {ops : Array Oper} {rest : List Oper} {o : Oper} {a : Act} {Q : Exit → Act → World → Prop} (hgd : o.guard = none) (s x : Operand) (t : TypeId)
    (ho : o.op = .call { callee := .builtin .append, args := #[s, x], argTypes := #[t, t] })
    (base : Nat) (e : TypeId) (i : TypeInfo) (z : Value) (size bytes : Nat) (ht : P.underlying t = some (.slice e)) (hi : P.info? e = some i) (hz : i.zero = some z)
    (hsize : i.size = size) (hby : i.bytes = bytes) (hzs : z.cells.size = size) (hsz : 0 < size)
    (v : Value) (n : Nat) (xs : List Value) (hs : a.eval s = v) (hown : w.ownsRow base e size v n xs)
    (xv : Value) (m : Nat) (news : List Value) (hx : a.eval x = xv) (hsrc : SrcAt w size xv m news)
    (h63 : n + m ≤ maxLen) (hbytes : (n + m) * bytes ≤ 140737488355328) (hbase : base ≤ w.heap.size)
    (h : ∀ v' w', w'.ownsRow base e size v' (n + m) (xs ++ news) → w.grownBy w' v.ownBlock → (v' = .slice none 0 0 ↔ v = .slice none 0 0 ∧ m = 0) → (v'.ownBlock = v.ownBlock ∨ v'.ownBlock = some w.heap.size) → wpList P ops Q rest (a.put o.dst v') w') :
    wpList P ops Q (o :: rest) a w := by
  refine wpList_plain hgd fun K hK => ?_
  obtain ⟨v', w', hr, h2, h3, h4, h5⟩ := run_append_src P w base t o.type e i z size bytes ht hi hz hsize hby hzs hsz v n xs hown xv m news hsrc h63 hbytes hbase
  unfold Oper.wp execOp
  simp only [ho, resolve, invoke, builtin, Sem.run_bind, Sem.run_pure, Result.andThen_ok, List.map_toArray, List.map_cons, List.map_nil, hs, hx, hr]
  exact hK _ _ (h v' w' h2 h3 h4 h5)
end Go.Proofs.YtkkodhjolgcokaaDoor
