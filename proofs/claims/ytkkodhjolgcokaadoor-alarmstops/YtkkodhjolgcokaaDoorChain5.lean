/-
  Contracts of package chain, over this seat's translation: New.
-/
import Derived.Test.YtkkodhjolgcokaaDoorChain4
namespace Go.Proofs.YtkkodhjolgcokaaDoor
open Go.RowKit Go.Lib
set_option maxRecDepth 100000

/-- The number that New makes of one. -/
def clampC (size : Int) : Nat := (max 0 (min size 4096)).toNat

theorem mem_made {w : World} {lo bn bp bo bl n m : Nat} (hn : n ≤ 4096) (hm : m ≤ 4096)
    (h4 : w.heap[lo + 4]? = some (.cells #[.slice (some ⟨bn, 0, none⟩) (n + m) (n + m), .slice (some ⟨bp, 0, none⟩) (n + m) (n + m), .slice (some ⟨bo, 0, none⟩) n n, .slice (some ⟨bl, 0, none⟩) m m] 99))
    (h0 : w.heap[bn]? = some (.cells (madeCells #[.int .i64 0] (n + m)) 3)) (h1 : w.heap[bp]? = some (.cells (madeCells #[.int .i64 0] (n + m)) 3))
    (h2 : w.heap[bo]? = some (.cells (madeCells #[.int .i64 0] n) 3)) (h3 : w.heap[bl]? = some (.cells (madeCells #[.int .i64 0] m) 3))
    (rn : lo ≤ bn ∧ bn < lo + 4) (rp : lo ≤ bp ∧ bp < lo + 4) (ro : lo ≤ bo ∧ bo < lo + 4) (rl : lo ≤ bl ∧ bl < lo + 4)
    (dif : bn ≠ bp ∧ bn ≠ bo ∧ bn ≠ bl ∧ bp ≠ bo ∧ bp ≠ bl ∧ bo ≠ bl) (sz : lo + 5 ≤ w.heap.size) :
    LinksMem w lo bn bp bo bl n m (fun _ => 0) (fun _ => 0) (fun _ => 0) (fun _ => 0) := by
  have cc : ∀ b c j, w.heap[b]? = some (.cells (madeCells #[.int .i64 0] c) 3) → j < c → w.cell? ⟨b, j, none⟩ = some (.int .i64 0) := fun b c j h hj => by
    rw [World.cell?]; simp only [h]; simpa using made_atC (.int .i64 0) c j hj
  have ff : ∀ b c j, w.heap[b]? = some (.cells (madeCells #[.int .i64 0] c) 3) → w.frozen? ⟨b, j, none⟩ = false := fun b c j h => by
    rw [World.frozen?]; simp only [h]; simp
  refine ⟨hn, hm, by rw [World.cell?]; simp only [h4]; rfl, by rw [World.cell?]; simp only [h4]; rfl, by rw [World.cell?]; simp only [h4]; rfl, by rw [World.cell?]; simp only [h4]; rfl,
    fun j hj => cc _ _ j h0 hj, fun j hj => cc _ _ j h1 hj, fun j hj => cc _ _ j h2 hj, fun j hj => cc _ _ j h3 hj, fun j hj => ff _ _ j h0, fun j hj => ff _ _ j h1, fun j hj => ff _ _ j h2, fun j hj => ff _ _ j h3, rn, rp, ro, rl, dif, sz⟩

/-- While the lists are being tied: each of the first ones is a ring of its knot alone. -/
theorem good_start (n m : Nat) (N P : Nat → Nat) (O : Nat → Int) (hO : ∀ k, k < n → O k = -1) (hN : ∀ i, i < m → N (n + i) = n + i) (hP : ∀ i, i < m → P (n + i) = n + i) : Good n m N P O (fun _ => []) :=
  ⟨fun i hi => ⟨hN i hi, hP i hi, trivial⟩, fun k i hk _ => by rw [hO k hk]; simp, fun k hk => Or.inl (hO k hk), fun i _ k hk => absurd hk (by simp), fun i _ => List.nodup_nil⟩

theorem heap5 (w : World) (A B C D S : Obj) :
    (((((w.alloc A).alloc B).alloc C).alloc D).alloc S).drew.heap[w.heap.size]? = some A ∧ (((((w.alloc A).alloc B).alloc C).alloc D).alloc S).drew.heap[w.heap.size + 1]? = some B ∧
    (((((w.alloc A).alloc B).alloc C).alloc D).alloc S).drew.heap[w.heap.size + 1 + 1]? = some C ∧ (((((w.alloc A).alloc B).alloc C).alloc D).alloc S).drew.heap[w.heap.size + 1 + 1 + 1]? = some D ∧
    (((((w.alloc A).alloc B).alloc C).alloc D).alloc S).drew.heap[w.heap.size + 4]? = some S ∧ (((((w.alloc A).alloc B).alloc C).alloc D).alloc S).drew.heap.size = w.heap.size + 5 ∧ w.grownBy (((((w.alloc A).alloc B).alloc C).alloc D).alloc S).drew none := by
  have e : (((((w.alloc A).alloc B).alloc C).alloc D).alloc S).drew.heap = ((((w.heap.push A).push B).push C).push D).push S := rfl
  rw [e]
  simp only [Array.getElem?_push, Array.size_push]
  refine ⟨by rw [if_neg (by omega), if_neg (by omega), if_neg (by omega), if_neg (by omega), if_pos trivial], by rw [if_neg (by omega), if_neg (by omega), if_neg (by omega), if_pos trivial], by rw [if_neg (by omega), if_neg (by omega), if_pos trivial], by rw [if_neg (by omega), if_pos trivial], by rw [if_pos trivial], by first | trivial | rfl, rfl, rfl, rfl, by rw [e]; simp; omega, fun k hk _ => ?_⟩
  rw [e]
  simp [Array.getElem?_push, show ¬ k = w.heap.size by omega, show ¬ k = w.heap.size + 1 by omega, show ¬ k = w.heap.size + 1 + 1 by omega, show ¬ k = w.heap.size + 1 + 1 + 1 by omega, show ¬ k = w.heap.size + 1 + 1 + 1 + 1 by omega]

set_option maxHeartbeats 4000000 in
theorem new_anyC (a c : Int) (w : World) :
    Calls Tryd.prog 59 #[.int .i64 a, .int .i64 c] w fun e w' => e = .returned (.pointer (some ⟨w.heap.size + 4, 0, none⟩)) ∧ w.grownBy w' none ∧ LinksAt w' w.heap.size (clampC a) (clampC c) (fun _ => []) := by
  have c1 := clamp_anyC a 0 4096 w
  have c2 := clamp_anyC c 0 4096 w
  rw [show max 0 (min a 4096) = ((clampC a : Nat) : Int) by unfold clampC; omega] at c1
  rw [show max 0 (min c 4096) = ((clampC c : Nat) : Int) by unfold clampC; omega] at c2
  have hn : clampC a ≤ 4096 := by unfold clampC; omega
  have hm : clampC c ≤ 4096 := by unfold clampC; omega
  generalize clampC a = n at *
  generalize clampC c = m at *
  have C1 := Lib.hid c1
  have C2 := Lib.hid c2
  clear c1 c2
  have m1 : ∀ W : World, (Instr.makeSlice 30 (.int .i64 ((n : Int) + m)) (.int .i64 ((n : Int) + m))).run Tryd.prog W = .ok (.slice (some ⟨W.heap.size, 0, none⟩) (n + m) (n + m)) (W.alloc (.cells (madeCells #[.int .i64 0] (n + m)) 3)) := fun W => by
    rw [← make_ints (n + m) (n + m) (Nat.le_refl _) (by omega) W]; simp
  have m2 : ∀ W : World, (Instr.makeSlice 30 (.int .i64 (n : Int)) (.int .i64 (n : Int))).run Tryd.prog W = .ok (.slice (some ⟨W.heap.size, 0, none⟩) n n) (W.alloc (.cells (madeCells #[.int .i64 0] n) 3)) := fun W => make_ints n n (Nat.le_refl _) (by omega) W
  have m3 : ∀ W : World, (Instr.makeSlice 30 (.int .i64 (m : Int)) (.int .i64 (m : Int))).run Tryd.prog W = .ok (.slice (some ⟨W.heap.size, 0, none⟩) m m) (W.alloc (.cells (madeCells #[.int .i64 0] m) 3)) := fun W => make_ints m m (Nat.le_refl _) (by omega) W
  go_enter Tryd.func59, Tryd.ntmps59
  go_wp2_with fail
  refine (C1.out).mono ?_
  rintro e w' ⟨rfl, rfl⟩
  go_wp2_with fail
  refine (C2.out).mono ?_
  rintro e w' ⟨rfl, rfl⟩
  go_upto_region 15 with fail
  go_cut [5] (fun pv wc => pv = .pointer (some ⟨w.heap.size + 4, 0, none⟩) ∧ w.grownBy wc none ∧ ∃ bn bp bo bl, LinksMem wc w.heap.size bn bp bo bl n m (fun _ => 0) (fun _ => 0) (fun _ => 0) (fun _ => 0))
  case first =>
    go_region
    all_goals (go_wp2_with fail)
    all_goals go_meet
    all_goals
      refine ⟨rfl, (heap5 w _ _ _ _ _).2.2.2.2.2.2, _, _, _, _, mem_made hn hm (heap5 w _ _ _ _ _).2.2.2.2.1 ?_ ?_ ?_ ?_ (by omega) (by omega) (by omega) (by omega) (by omega) (Nat.le_of_eq (heap5 w _ _ _ _ _).2.2.2.2.2.1.symm)⟩
      all_goals first | exact (heap5 w _ _ _ _ _).1 | exact (heap5 w _ _ _ _ _).2.1 | exact (heap5 w _ _ _ _ _).2.2.1 | exact (heap5 w _ _ _ _ _).2.2.2.1
  case rest =>
    obtain ⟨rfl, hg0, bn, bp, bo, bl, M0⟩ := hcut
    clear m1 m2 m3 C1 C2
    generalize hlo : w.heap.size = lo at *
    have HLO := Lib.hid hlo
    clear hlo
    have h2 := M0.c2
    go_wp2
    clear h2
    go_loopw [31] (fun it wr => ∃ (j : Nat) (O : Nat → Int), j ≤ n ∧ it = .int .i64 j ∧ (∀ k, k < j → O k = -1) ∧ LinksMem wr lo bn bp bo bl n m (fun _ => 0) (fun _ => 0) O (fun _ => 0) ∧ w.grownBy wr none) (fun it _ => n - (intOf it).toNat)
    case atStart => exact ⟨0, _, Nat.zero_le _, rfl, fun k hk => absurd hk (by omega), M0, hg0⟩
    case round =>
      obtain ⟨j, O, hj, rfl, hO, M, hG⟩ := hrel
      have HO := Lib.hid hO
      clear M0 hg0 hO
      by_cases hlt : j < n
      · have d0 := M.c2
        have d1 := M.co j hlt
        have d2 := M.fo j hlt
        have M1 := Lib.hid (M.setO j (-1) hlt)
        have K1 := Lib.hid (Only.set (lo := lo) (hi := lo + 5) wr ⟨bo, j, none⟩ (.int .i64 (-1)) M.ro.1 (by have := M.ro.2; simp; omega))
        clear M
        go_wp2
        go_roundw
        case rel => exact ⟨j + 1, _, by omega, by go_num, fun k hk => by
          by_cases e : k = j
          · subst e; exact upI_same _ _ _
          · rw [upI_other _ _ _ _ e]; exact HO.out k (by omega), M1.out, Only.on hG K1.out (Nat.le_of_eq HLO.out)⟩
        case measure => simp [intOf]; omega
      · have e : j = n := by omega
        subst e
        have h3 := M.c3
        go_wp2
        clear h3
        go_loopw [46] (fun it wr => ∃ (i : Nat) (N P : Nat → Nat), i ≤ m ∧ it = .int .i64 i ∧ Hid (∀ k, k < i → N (j + k) = j + k ∧ P (j + k) = j + k) ∧ LinksMem wr lo bn bp bo bl j m N P O (fun _ => 0) ∧ w.grownBy wr none) (fun it _ => m - (intOf it).toNat)
        case atStart => exact ⟨0, _, _, Nat.zero_le _, rfl, Lib.hid fun k hk => absurd hk (by omega), M, hG⟩
        case round =>
          obtain ⟨i, N, P, hi, rfl, hNP, M2, hG2⟩ := hrel
          clear M hG
          by_cases hlt2 : i < m
          · have kn := Lib.hid (knot_any i M2 hlt2)
            have jn := Lib.hid (join_any (j + i) (j + i) M2 (by omega) (by omega))
            clear M2
            go_wp2_with fail
            refine (kn.out).mono ?_
            rintro e w' ⟨rfl, rfl⟩
            go_wp2_with fail
            refine (kn.out).mono ?_
            rintro e w' ⟨rfl, rfl⟩
            go_wp2_with fail
            refine jn.out.mono ?_
            rintro e w3 ⟨rfl, k3, M3⟩
            have hG3 := Only.on hG2 k3 (Nat.le_of_eq HLO.out)
            clear hG2 jn kn k3
            go_wp2
            go_roundw
            case rel => exact ⟨i + 1, _, _, by omega, by go_num, Lib.hid fun k hk => by
              by_cases e : k = i
              · subst e; exact ⟨upN_same _ _ _, upN_same _ _ _⟩
              · rw [upN_other _ _ _ _ (by omega), upN_other _ _ _ _ (by omega)]; exact hNP.out k (by omega), M3, hG3⟩
            case measure => simp [intOf]; omega
          · have e : i = m := by omega
            subst e
            go_wp2
            go_ret
            have HL := HLO.out
            subst HL
            exact ⟨rfl, hG2, bn, bp, bo, bl, N, P, O, M2, good_start j i N P O HO.out (fun k hk => (hNP.out k hk).1) (fun k hk => (hNP.out k hk).2)⟩

end Go.Proofs.YtkkodhjolgcokaaDoor
