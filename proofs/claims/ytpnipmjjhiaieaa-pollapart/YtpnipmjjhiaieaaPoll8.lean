/-
  poll.New.
-/
import Derived.Test.YtpnipmjjhiaieaaPoll7
namespace Go.Proofs.Ytpnipmjjhiaieaa
open Go.RowKit Go.Lib BN
set_option maxRecDepth 100000
set_option linter.unusedVariables false
def gz : Gt := ⟨false, 0, 0, 0, 0, 0, 0⟩
def gzc : Array Value := #[.bool false, .int .i64 0, .int .i64 0, .int .u64 0, .int .i64 0, .int .i64 0, .int .i64 0]
theorem gate_info : ∃ i : TypeInfo, Try.prog.info? 71 = some i ∧ (∃ z, i.zero = some z ∧ z.cells = gzc) ∧ i.size = 7 ∧ i.bytes = 56 := ⟨_, rfl, ⟨_, rfl, rfl⟩, rfl, rfl⟩
theorem gmade_at (n i j : Nat) (hi : i < n) (hj : j < 7) : (madeCells gzc (n * 7))[i * 7 + j]? = gzc[j]? := by
  unfold madeCells
  have h : i * 7 + j < n * 7 := by omega
  have h2 : (i * 7 + j) % 7 = j := by omega
  rw [Array.getElem?_map, Array.getElem?_eq_getElem (by simpa using h)]
  simp only [Array.getElem_range, Option.map_some]
  have h3 : gzc.size = 7 := rfl
  rw [h3, h2]
  have hjj : j = 0 ∨ j = 1 ∨ j = 2 ∨ j = 3 ∨ j = 4 ∨ j = 5 ∨ j = 6 := by omega
  rcases hjj with rfl | rfl | rfl | rfl | rfl | rfl | rfl <;> rfl
theorem make_gates (n : Nat) (hn : n ≤ 64) (w : World) :
    (Instr.makeSlice 63 (.int .i64 (n : Int)) (.int .i64 (n : Int))).run Try.prog w = .ok (.slice (some ⟨w.heap.size, 0, none⟩) n n) (w.alloc (.cells (madeCells gzc (n * 7)) 71)) := by
  obtain ⟨i, hi, ⟨z, hz, hzc⟩, hs, hb⟩ := gate_info
  have h := run_make (P := Try.prog) w 63 71 i z Try.underlying63 hi hz .i64 .i64 (n : Int) (n : Int) (by omega) (by omega) (by rw [hb]; omega) (by omega)
  rw [hs, Int.toNat_natCast, hzc] at h
  exact h
theorem gs_new {w : World} {gb n : Nat} (h : w.heap[gb]? = some (.cells (madeCells gzc (n * 7)) 71 (0, 0))) : GS w gb n (fun _ => gz) := by
  refine ⟨⟨_, h⟩, fun i hi => ?_, fun i hi => by show (0 : Int) ≤ 0 ∧ (0 : Int) ≤ 2; decide⟩
  have hc : ∀ j, j < 7 → w.cell? ⟨gb, i * 7 + j, none⟩ = gzc[j]? := fun j hj => (cell_blk h _).trans (gmade_at n i j hi hj)
  exact ⟨hc 0 (by omega), hc 1 (by omega), hc 2 (by omega), hc 3 (by omega), hc 4 (by omega), hc 5 (by omega), hc 6 (by omega), fun j => frozen_blk h j, blk_lt h⟩
def nP (x : Int) : Nat := (max 0 (min x 64)).toNat
section
variable {w w' : World} {qb lo hi T D : Nat} {Mx : Int} {Q : List Nat}
/-- What stands behind New. -/
theorem pnew_fin {pb gb bb c n cap : Nat} (HQ : Qu w lo hi qb T D Mx Q) (k : w.grownBy w' none) (hn : n ≤ 64)
    (hp : w'.heap[pb]? = some (.cells #[.slice (some ⟨gb, 0, none⟩) n n, .pointer (some ⟨bb, 0, none⟩), .pointer (some ⟨qb, 0, none⟩), .int .i64 0] 69 (0, 0)))
    (hg : w'.heap[gb]? = some (.cells (madeCells gzc (n * 7)) 71 (0, 0))) (hb : Bx w' bb c cap [])
    (h1 : w.heap.size ≤ pb) (h2 : w.heap.size ≤ gb) (h3 : w.heap.size ≤ bb) (h4 : w.heap.size ≤ c) :
    PoF (grF (fun j => lo ≤ j ∧ j < hi) w w') w' pb qb n cap T D Mx ⟨fun _ => gz, [], 0, Q⟩ := by
  have hq := HQ.hs
  refine ⟨gb, bb, c, lo, hi, [], ⟨hp, gs_new hg, hb, HQ.kept k, ⟨by omega, by omega, by omega, by omega, fun x hx => (by cases hx)⟩, ⟨hn, Or.inl rfl⟩, fun x hx => (by cases hx)⟩, rfl, fun j hj => ?_⟩
  rcases hj with h | h | h | h | h | ⟨x, hx, h⟩
  · subst h; exact Or.inr ⟨h1, blk_lt hp⟩
  · subst h; exact Or.inr ⟨h2, blk_lt hg⟩
  · subst h; exact Or.inr ⟨h3, hb.lt.1⟩
  · subst h; exact Or.inr ⟨h4, hb.lt.2.1⟩
  · exact Or.inl h
  · cases hx

def pst (gb n bb qb : Nat) : Obj := .cells #[.slice (some ⟨gb, 0, none⟩) n n, .pointer (some ⟨bb, 0, none⟩), .pointer (some ⟨qb, 0, none⟩), .int .i64 0] 69
theorem finA {wb : World} {n cap : Nat} (HQ : Qu w lo hi qb T D Mx Q) (hn : n ≤ 64) (hb : Bx wb (w.heap.size + 1) w.heap.size cap []) (kb : w.grownBy wb none) :
    w.grownBy ((wb.alloc (.cells (madeCells gzc (n * 7)) 71)).alloc (pst wb.heap.size n (w.heap.size + 1) qb)) none ∧ PoF (grF (fun j => lo ≤ j ∧ j < hi) w ((wb.alloc (.cells (madeCells gzc (n * 7)) 71)).alloc (pst wb.heap.size n (w.heap.size + 1) qb))) ((wb.alloc (.cells (madeCells gzc (n * 7)) 71)).alloc (pst wb.heap.size n (w.heap.size + 1) qb)) (wb.heap.size + 1) qb n cap T D Mx ⟨fun _ => gz, [], 0, Q⟩ := by
  have ka := World.grownBy_alloc wb (.cells (madeCells gzc (n * 7)) 71) none
  have hs : (wb.alloc (.cells (madeCells gzc (n * 7)) 71)).heap.size = wb.heap.size + 1 := World.size_alloc ..
  have hg : (wb.alloc (.cells (madeCells gzc (n * 7)) 71)).heap[wb.heap.size]? = some (.cells (madeCells gzc (n * 7)) 71 (0, 0)) := heap_alloc_new _ _
  generalize wb.alloc (.cells (madeCells gzc (n * 7)) 71) = wg at *
  have kp := World.grownBy_alloc wg (pst wb.heap.size n (w.heap.size + 1) qb) none
  have hp : (wg.alloc (pst wb.heap.size n (w.heap.size + 1) qb)).heap[wg.heap.size]? = some (pst wb.heap.size n (w.heap.size + 1) qb) := heap_alloc_new _ _
  rw [hs] at hp
  have hsz := kb.size
  exact ⟨(kb.trans ka).trans kp, pnew_fin HQ ((kb.trans ka).trans kp) hn hp ((kp.block _ (by omega) (by simp)).trans hg) (hb.kept (ka.trans kp)) (by omega) (by omega) (by omega) (by omega)⟩
theorem finB {wb : World} {n cap : Nat} (HQ : Qu w lo hi qb T D Mx Q) (hn : n ≤ 64) (hb : Bx wb (w.heap.size + 1 + 1) (w.heap.size + 1) cap []) (kb : (w.alloc (.cells (madeCells gzc (n * 7)) 71)).grownBy wb none) :
    w.grownBy (wb.alloc (pst w.heap.size n (w.heap.size + 1 + 1) qb)) none ∧ PoF (grF (fun j => lo ≤ j ∧ j < hi) w (wb.alloc (pst w.heap.size n (w.heap.size + 1 + 1) qb))) (wb.alloc (pst w.heap.size n (w.heap.size + 1 + 1) qb)) wb.heap.size qb n cap T D Mx ⟨fun _ => gz, [], 0, Q⟩ := by
  have ka := World.grownBy_alloc w (.cells (madeCells gzc (n * 7)) 71) none
  have hs : (w.alloc (.cells (madeCells gzc (n * 7)) 71)).heap.size = w.heap.size + 1 := World.size_alloc ..
  have hg : (w.alloc (.cells (madeCells gzc (n * 7)) 71)).heap[w.heap.size]? = some (.cells (madeCells gzc (n * 7)) 71 (0, 0)) := heap_alloc_new _ _
  generalize w.alloc (.cells (madeCells gzc (n * 7)) 71) = wg at *
  have kp := World.grownBy_alloc wb (pst w.heap.size n (w.heap.size + 1 + 1) qb) none
  have hp : (wb.alloc (pst w.heap.size n (w.heap.size + 1 + 1) qb)).heap[wb.heap.size]? = some (pst w.heap.size n (w.heap.size + 1 + 1) qb) := heap_alloc_new _ _
  have hsz := kb.size
  exact ⟨(ka.trans kb).trans kp, pnew_fin HQ ((ka.trans kb).trans kp) hn hp (((kb.trans kp).block _ (by omega) (by simp)).trans hg) (hb.kept kp) (by omega) (by omega) (by omega) (by omega)⟩

set_option maxHeartbeats 4000000 in
theorem po_new (HQ : Qu w lo hi qb T D Mx Q) (devs notes : Int) (n cap : Nat) (hn : nP devs = n) (hc : nP notes = cap) :
    Calls Try.prog 9 #[.int .i64 devs, .int .i64 notes, .pointer (some ⟨qb, 0, none⟩)] w fun e w' => ∃ pb, e = .returned (.pointer (some ⟨pb, 0, none⟩)) ∧ w.grownBy w' none ∧ PoF (grF (fun j => lo ≤ j ∧ j < hi) w w') w' pb qb n cap T D Mx ⟨fun _ => gz, [], 0, Q⟩ := by
  have hn64 : n ≤ 64 := by unfold nP at hn; omega
  have hc64 : cap ≤ 64 := by unfold nP at hc; omega
  have C1 : Hid (∀ v : World, Calls Try.prog 24 #[.int .i64 devs, .int .i64 0, .int .i64 64] v fun e w' => e = .returned (.int .i64 (n : Nat)) ∧ v = w') := Lib.hid fun v => by
    have := clamp_any devs 0 64 v
    rwa [show max 0 (min devs 64) = (n : Int) by unfold nP at hn; omega] at this
  have C2 : Hid (∀ v : World, Calls Try.prog 24 #[.int .i64 notes, .int .i64 0, .int .i64 64] v fun e w' => e = .returned (.int .i64 (cap : Nat)) ∧ v = w') := Lib.hid fun v => by
    have := clamp_any notes 0 64 v
    rwa [show max 0 (min notes 64) = (cap : Int) by unfold nP at hc; omega] at this
  have CB : Hid (∀ v : World, Calls Try.prog 26 #[.int .i64 (cap : Nat)] v fun e w' => e = .returned (.pointer (some ⟨v.heap.size + 1, 0, none⟩)) ∧ Bx w' (v.heap.size + 1) v.heap.size cap [] ∧ v.grownBy w' none) := Lib.hid fun v => BN.new_any (cap : Int) cap (by omega) v
  have hmk := make_gates n hn64
  have HQ0 := Lib.hid HQ
  clear HQ hn hc
  go_enter Try.func9, Try.ntmps9
  go_wp2_with fail
  go_region_with (first
    | (go_at_call 24; (with_reducible refine (C1.out _).mono ?_); rintro e w' ⟨rfl, rfl⟩)
    | (go_at_call 24; (with_reducible refine (C2.out _).mono ?_); rintro e w' ⟨rfl, rfl⟩)
    | (go_at_call 26; (with_reducible refine (CB.out _).mono ?_); rintro e wb ⟨rfl, hbx, kb⟩))
  all_goals
    go_wp2
    go_ret
    first
      | exact ⟨_, rfl, finA HQ0.out hn64 hbx ⟨kb.os, kb.tape, kb.output, kb.size, kb.block⟩⟩
      | exact ⟨_, rfl, finB HQ0.out hn64 (by simpa using hbx) ⟨kb.os, kb.tape, kb.output, kb.size, kb.block⟩⟩
end
end Go.Proofs.Ytpnipmjjhiaieaa
