/-
  Contracts of package box (things of type poll.Note), over this seat's translation: a box in memory; New, Room, Len, Post, Fetch.
-/
import Derived.Test.YtpnipmjjhiaieaaBox1N
import Derived.BigQuiet
namespace Go.Proofs.Ytpnipmjjhiaieaa.BN
open Go.RowKit Go.Lib Go.Conc
set_option maxRecDepth 100000
set_option linter.unusedVariables false

/-- What is put in. -/
abbrev Vt := Int × Int
def cellsOf (v : Vt) (m : Bool) : Array Value := #[.int .i64 v.1, .int .i64 v.2, .bool m]
def valOf (v : Vt) : Value := .agg #[.int .i64 v.1, .int .i64 v.2]
def zeroV : Vt := (0, 0)

theorem cell_blk {w : World} {b : Nat} {a : Array Value} {t : TypeId} {fr : Nat × Nat} (h : w.heap[b]? = some (.cells a t fr)) (i : Nat) : w.cell? ⟨b, i, none⟩ = a[i]? := by
  simp [World.cell?, h]
theorem frozen_blk {w : World} {b : Nat} {a : Array Value} {t : TypeId} (h : w.heap[b]? = some (.cells a t (0, 0))) (i : Nat) : w.frozen? ⟨b, i, none⟩ = false := by
  simp [World.frozen?, h]
def ptr (p : Nat) : Value := .pointer (some ⟨p, 0, none⟩)

/-- A box: its struct in block bb, its channel in block c, its things each in a block, marked or not. -/
structure BxM (w : World) (bb c cap : Nat) (L : List (Nat × Vt)) (M : Nat → Bool) : Prop where
  b : w.heap[bb]? = some (.cells #[.chan (some c)] 90 (0, 0))
  ch : ∃ s r, w.heap[c]? = some (.chan cap (L.map fun x => ptr x.1).toArray false s r false)
  th : ∀ x ∈ L, w.heap[x.1]? = some (.cells (cellsOf x.2 (M x.1)) 96 (0, 0))
  nd : (L.map Prod.fst).Nodup
  le : L.length ≤ cap ∧ cap ≤ 4096
abbrev Bx (w : World) (bb c cap : Nat) (L : List (Nat × Vt)) : Prop := BxM w bb c cap L (fun _ => false)

section
variable {w w' : World} {bb c cap : Nat} {L : List (Nat × Vt)} {M : Nat → Bool}
theorem blk_lt {w : World} {b : Nat} {o : Obj} (h : w.heap[b]? = some o) : b < w.heap.size := by
  rcases Nat.lt_or_ge b w.heap.size with h' | h'
  · exact h'
  · rw [Array.getElem?_eq_none h'] at h; cases h
theorem BxM.lt (H : BxM w bb c cap L M) : bb < w.heap.size ∧ c < w.heap.size ∧ ∀ x ∈ L, x.1 < w.heap.size :=
  ⟨blk_lt H.b, by obtain ⟨s, r, h⟩ := H.ch; exact blk_lt h, fun x hx => blk_lt (H.th x hx)⟩
theorem BxM.ne (H : BxM w bb c cap L M) : bb ≠ c ∧ ∀ x ∈ L, x.1 ≠ c ∧ x.1 ≠ bb := by
  obtain ⟨s, r, h⟩ := H.ch
  refine ⟨?_, fun x hx => ⟨?_, ?_⟩⟩
  · rintro rfl; rw [H.b] at h; cases h
  · rintro e; have := H.th x hx; rw [e, h] at this; cases this
  · rintro e
    have := H.th x hx
    rw [e, H.b] at this
    injection this with this
    injection this with _ h2
    exact absurd h2 (by decide)
/-- All blocks that turned are others. -/
theorem BxM.off (H : BxM w bb c cap L M) (h1 : w'.heap[bb]? = w.heap[bb]?) (h2 : w'.heap[c]? = w.heap[c]?) (h3 : ∀ x ∈ L, w'.heap[x.1]? = w.heap[x.1]?) : BxM w' bb c cap L M :=
  ⟨h1.trans H.b, by obtain ⟨s, r, h⟩ := H.ch; exact ⟨s, r, h2.trans h⟩, fun x hx => (h3 x hx).trans (H.th x hx), H.nd, H.le⟩
theorem BxM.kept (H : BxM w bb c cap L M) (k : w.grownBy w' none) : BxM w' bb c cap L M :=
  H.off (k.block _ H.lt.1 (by simp)) (k.block _ H.lt.2.1 (by simp)) fun x hx => k.block _ (H.lt.2.2 x hx) (by simp)
/-- Another box's channel turned. -/
theorem BxM.only {d : Nat} (H : BxM w bb c cap L M) (k : Only d (d + 1) w w') (h1 : d ≠ c) (h2 : ∀ a t fr, w.heap[d]? ≠ some (.cells a t fr)) : BxM w' bb c cap L M :=
  H.off (k.block _ H.lt.1 (by have : bb ≠ d := (fun e => h2 _ _ _ (by rw [← e]; exact H.b)); omega)) (k.block _ H.lt.2.1 (by omega))
    fun x hx => k.block _ (H.lt.2.2 x hx) (by have : x.1 ≠ d := (fun e => h2 _ _ _ (by rw [← e]; exact H.th x hx)); omega)
theorem only_setChan (w : World) (c cap : Nat) (buf : Array Value) (cl : Bool) (s r : Nat) (tm : Bool) : Only c (c + 1) w (w.setChan c cap buf cl s r tm) :=
  ⟨rfl, rfl, rfl, by simp [World.setChan], fun k hk hr => by simp only [World.setChan]; rw [Array.getElem?_setIfInBounds_ne (by omega)]⟩
/-- What waits turns. -/
theorem BxM.setCh (H : BxM w bb c cap L M) {L' : List (Nat × Vt)} (s r : Nat) (hs : ∀ x ∈ L', w.heap[x.1]? = some (.cells (cellsOf x.2 (M x.1)) 96 (0, 0))) (nd : (L'.map Prod.fst).Nodup) (le : L'.length ≤ cap) :
    BxM (w.setChan c cap (L'.map fun x => ptr x.1).toArray false s r false) bb c cap L' M := by
  have k := only_setChan w c cap (L'.map fun x => ptr x.1).toArray false s r false
  have hc := H.lt.2.1
  obtain ⟨s0, r0, h⟩ := H.ch
  have hn : ∀ a t fr, w.heap[c]? ≠ some (.cells a t fr) := fun a t fr e => by rw [h] at e; cases e
  refine ⟨(k.block _ H.lt.1 (by have := H.ne.1; omega)).trans H.b, ⟨s, r, heap_setChan w c cap _ false s r false hc⟩, fun x hx => ?_, nd, le, H.le.2⟩
  have h1 := hs x hx
  refine (k.block _ (blk_lt h1) ?_).trans h1
  have : x.1 ≠ c := fun e => hn _ _ _ (by rw [← e]; exact h1)
  omega

theorem len_any (H : BxM w bb c cap L M) : Calls Try.prog 67 #[.pointer (some ⟨bb, 0, none⟩)] w fun e w' => e = .returned (.int .i64 (L.length : Nat)) ∧ w = w' := by
  have c0 : w.cell? ⟨bb, 0, none⟩ = some (.chan (some c)) := cell_blk H.b 0
  obtain ⟨s, r, h⟩ := H.ch
  have hlen := fun ty => run_len_chan (P := Try.prog) 88 ty Try.underlying88 h
  simp only [List.size_toArray, List.length_map] at hlen
  clear H h
  go_enter Try.func67, Try.ntmps67
  go_wp2
  go_ret
  exact ⟨rfl, rfl⟩

theorem elem_bytes : ∃ i, Try.prog.info? 94 = some i ∧ i.bytes = 8 := by
  have h : (Try.prog.info? 94).map (·.bytes) = some 8 := by kernel_rfl
  obtain ⟨i, hi, hb⟩ := Option.map_eq_some_iff.1 h
  exact ⟨i, hi, hb⟩
theorem mk_chan (n : Nat) (hn : n ≤ 4096) (w : World) : (Instr.makeChan 88 (.int .i64 (n : Int))).run Try.prog w = .ok (.chan (some w.heap.size)) (w.alloc (.chan n #[] false 0 0 false)) := by
  obtain ⟨i, hi, hb⟩ := elem_bytes
  simpa using run_makeChan (P := Try.prog) (w := w) Try.underlying88 hi .i64 n (by omega) (by rw [hb]; omega)

set_option maxHeartbeats 1000000 in
theorem new_any (room : Int) (n : Nat) (hn : (n : Int) = max 0 (min room 4096)) (w : World) : Calls Try.prog 26 #[.int .i64 room] w fun e w' => e = .returned (.pointer (some ⟨w.heap.size + 1, 0, none⟩)) ∧ Bx w' (w.heap.size + 1) w.heap.size n [] ∧ w.grownBy w' none := by
  have hn4 : n ≤ 4096 := by omega
  have HX : Hid (Bx ((w.alloc (.chan n #[] false 0 0 false)).alloc (.cells #[.chan (some w.heap.size)] 90)) (w.heap.size + 1) w.heap.size n []) := by
    have s1 : (w.alloc (.chan n #[] false 0 0 false)).heap.size = w.heap.size + 1 := by show (w.heap.push _).size = _; rw [Array.size_push]
    have h1 : ((w.alloc (.chan n #[] false 0 0 false)).alloc (.cells #[.chan (some w.heap.size)] 90)).heap[w.heap.size + 1]? = some (.cells #[.chan (some w.heap.size)] 90 (0, 0)) := by rw [← s1]; exact heap_alloc_new _ _
    have k := World.grownBy_alloc (w.alloc (.chan n #[] false 0 0 false)) (.cells #[.chan (some w.heap.size)] 90) none
    have h2 : ((w.alloc (.chan n #[] false 0 0 false)).alloc (.cells #[.chan (some w.heap.size)] 90)).heap[w.heap.size]? = some (.chan n #[] false 0 0 false) := (k.block _ (by omega) (by simp)).trans (heap_alloc_new _ _)
    exact Lib.hid ⟨h1, ⟨0, 0, h2⟩, fun x hx => (by cases hx), by simp, by simp, hn4⟩
  have HK : Hid (w.grownBy ((w.alloc (.chan n #[] false 0 0 false)).alloc (.cells #[.chan (some w.heap.size)] 90)) none) := Lib.hid ((World.grownBy_alloc ..).trans (World.grownBy_alloc ..))
  have hc : (room ≤ 0 ∧ n = 0) ∨ (4096 < room ∧ n = 4096) ∨ (0 < room ∧ ¬ 4096 < room ∧ room = (n : Int)) := by omega
  clear hn
  rcases hc with ⟨q0, rfl⟩ | ⟨q0, rfl⟩ | ⟨q0, q1, rfl⟩
  · have hmk : ∀ w : World, (Instr.makeChan 88 (.int .i64 0)).run Try.prog w = _ := mk_chan 0 hn4
    have q1 : (if 4096 < room then (4096 : Int) else room) = room := by split <;> omega
    have q2 : (if room < 4096 then room else (4096 : Int)) = room := by split <;> omega
    have q3 : min room 4096 = room := by omega
    have q4 : max 0 room = 0 := by omega
    have q5 : ¬ 0 < room := by omega
    have q6 : (if room > 0 then room else 0) = 0 := by split <;> omega
    go_enter Try.func26, Try.ntmps26
    go_wp2
    go_ret
    exact ⟨rfl, HX.out, HK.out⟩
  · have hmk : ∀ w : World, (Instr.makeChan 88 (.int .i64 4096)).run Try.prog w = _ := mk_chan 4096 hn4
    have q2 : ¬ room < 4096 := by omega
    have q3 : min room 4096 = 4096 := by omega
    go_enter Try.func26, Try.ntmps26
    go_wp2
    go_ret
    exact ⟨rfl, HX.out, HK.out⟩
  · have hmk := mk_chan n hn4
    go_enter Try.func26, Try.ntmps26
    go_wp2
    all_goals
      go_ret
      exact ⟨rfl, HX.out, HK.out⟩

end
end Go.Proofs.Ytpnipmjjhiaieaa.BN
