/-
  A queue as an object: Has, Drop, Len, Devs.
-/
import Derived.Test.YtpnipmjjhiaieaaQueue2
namespace Go.Proofs.Ytpnipmjjhiaieaa
open Go.RowKit Go.Lib
set_option maxRecDepth 100000
set_option linter.unusedVariables false

/-- The number of a thing that waits. -/
def inQ (T D : Nat) (Q : List Nat) (k i : Int) : Option Nat :=
  match numT T D k i with
  | none => none
  | some j => if j ∈ Q then some j else none
theorem inQ_some {T D : Nat} {Q : List Nat} {k i : Int} {j : Nat} (h : inQ T D Q k i = some j) : numT T D k i = some j ∧ j ∈ Q := by
  unfold inQ at h
  split at h
  · cases h
  · rename_i j' hn
    split at h
    · rename_i hq
      injection h with h
      subst h
      exact ⟨hn, hq⟩
    · cases h
theorem inQ_none {T D : Nat} {Q : List Nat} {k i : Int} (h : inQ T D Q k i = none) : numT T D k i = none ∨ ∃ j, numT T D k i = some j ∧ j ∉ Q := by
  unfold inQ at h
  split at h
  · exact Or.inl (by assumption)
  · rename_i j' hn
    split at h
    · cases h
    · exact Or.inr ⟨j', hn, by assumption⟩
section
variable {w w' : World} {lo hi qb lb T D d : Nat} {M : Int} {Q : List Nat}
theorem upL0 {L : List Nat} (f : Nat → List Nat) : ∀ z, z < 1 → upL f 0 L z = L := fun z hz => by obtain rfl : z = 0 := (by omega); simp [upL]
set_option maxHeartbeats 4000000 in
theorem qhas_y (H : QMem w qb lb T D M d Q) (k i : Int) (j : Nat) (hn : numT T D k i = some j) (hq : j ∈ Q) :
    Calls Try.prog 22 #[.pointer (some ⟨qb, 0, none⟩), .agg #[.int .i64 k, .int .i64 i]] w fun e w' => e = .returned (.bool true) ∧ w.grownBy w' none := by
  obtain ⟨lo, hi⟩ : Nat × Nat := (0, 0)
  have C1 := Lib.hid (qnum_some (H.kept (World.grownBy_alloc w (.cells #[.int .i64 k, .int .i64 i] 46) none)) k i j hn)
  have HH := Lib.hid H
  have hszq := H.sz
  have hap := H.ap
  have hsl := H.ln.sz
  have hnd := H.ln.nodup 0 (by omega)
  clear H
  go_enter Try.func22, Try.ntmps22
  go_wp2_with fail
  refine C1.out.mono ?_
  rintro e w1 ⟨rfl, g1⟩
  obtain ⟨⟨b0, b1⟩, g0⟩ := box2 w (.int .i64 k) (.int .i64 i) 46 0
  replace b0 := g1.cell b0 (by simp)
  have g2 : w.grownBy w1 none := (World.grownBy_alloc w _ none).trans g1
  have K2 := Lib.hid (Only.of_none (lo := lo) (hi := hi) g2)
  have G2 := Lib.hid g2
  have H1 := HH.out.kept g2
  have c0 := H1.c0
  have c2 := H1.c2
  have c3 := H1.c3
  have hbz : w.heap.size < w1.heap.size := by have := g1.size; rw [World.size_alloc] at this; exact this
  replace b0 : w1.cell? ⟨w.heap.size, 0, none⟩ = some (.int .i64 k) := b0
  have HH1 := Lib.hid H1
  have C2 := Lib.hid (on_some j 0 H1.ln (by omega) hq)
  clear H1 g2 g0 b1 HH C1 K2 HH1
  go_wp2_with fail
  refine C2.out.mono ?_
  rintro e w2 ⟨rfl, rfl⟩
  go_wp2
  go_ret
  exact ⟨rfl, G2.out⟩
set_option maxHeartbeats 4000000 in
theorem qhas_n (H : QMem w qb lb T D M d Q) (k i : Int) (j : Nat) (hn : numT T D k i = some j) (hq : j ∉ Q) :
    Calls Try.prog 22 #[.pointer (some ⟨qb, 0, none⟩), .agg #[.int .i64 k, .int .i64 i]] w fun e w' => e = .returned (.bool false) ∧ w.grownBy w' none := by
  obtain ⟨lo, hi⟩ : Nat × Nat := (0, 0)
  have C1 := Lib.hid (qnum_some (H.kept (World.grownBy_alloc w (.cells #[.int .i64 k, .int .i64 i] 46) none)) k i j hn)
  have HH := Lib.hid H
  have hszq := H.sz
  have hap := H.ap
  have hsl := H.ln.sz
  have hnd := H.ln.nodup 0 (by omega)
  clear H
  go_enter Try.func22, Try.ntmps22
  go_wp2_with fail
  refine C1.out.mono ?_
  rintro e w1 ⟨rfl, g1⟩
  obtain ⟨⟨b0, b1⟩, g0⟩ := box2 w (.int .i64 k) (.int .i64 i) 46 0
  replace b0 := g1.cell b0 (by simp)
  have g2 : w.grownBy w1 none := (World.grownBy_alloc w _ none).trans g1
  have K2 := Lib.hid (Only.of_none (lo := lo) (hi := hi) g2)
  have G2 := Lib.hid g2
  have H1 := HH.out.kept g2
  have c0 := H1.c0
  have c2 := H1.c2
  have c3 := H1.c3
  have hbz : w.heap.size < w1.heap.size := by have := g1.size; rw [World.size_alloc] at this; exact this
  replace b0 : w1.cell? ⟨w.heap.size, 0, none⟩ = some (.int .i64 k) := b0
  have HH1 := Lib.hid H1
  have C2 := Lib.hid (on_none (j : Int) H1.ln (fun x hx y hy e => hq (by obtain rfl : y = j := (by omega); exact hy)))
  clear H1 g2 g0 b1 HH C1 K2 HH1
  go_wp2_with fail
  refine C2.out.mono ?_
  rintro e w2 ⟨rfl, rfl⟩
  go_wp2
  go_ret
  exact ⟨rfl, G2.out⟩
set_option maxHeartbeats 4000000 in
theorem qhas_z (H : QMem w qb lb T D M d Q) (k i : Int) (hn : numT T D k i = none) :
    Calls Try.prog 22 #[.pointer (some ⟨qb, 0, none⟩), .agg #[.int .i64 k, .int .i64 i]] w fun e w' => e = .returned (.bool false) ∧ w.grownBy w' none := by
  obtain ⟨lo, hi⟩ : Nat × Nat := (0, 0)
  have C1 := Lib.hid (qnum_none (H.kept (World.grownBy_alloc w (.cells #[.int .i64 k, .int .i64 i] 46) none)) k i hn)
  have HH := Lib.hid H
  have hszq := H.sz
  have hap := H.ap
  have hsl := H.ln.sz
  have hnd := H.ln.nodup 0 (by omega)
  clear H
  go_enter Try.func22, Try.ntmps22
  go_wp2_with fail
  refine C1.out.mono ?_
  rintro e w1 ⟨rfl, g1⟩
  obtain ⟨⟨b0, b1⟩, g0⟩ := box2 w (.int .i64 k) (.int .i64 i) 46 0
  replace b0 := g1.cell b0 (by simp)
  have g2 : w.grownBy w1 none := (World.grownBy_alloc w _ none).trans g1
  have K2 := Lib.hid (Only.of_none (lo := lo) (hi := hi) g2)
  have G2 := Lib.hid g2
  have H1 := HH.out.kept g2
  have c0 := H1.c0
  have c2 := H1.c2
  have c3 := H1.c3
  have hbz : w.heap.size < w1.heap.size := by have := g1.size; rw [World.size_alloc] at this; exact this
  replace b0 : w1.cell? ⟨w.heap.size, 0, none⟩ = some (.int .i64 k) := b0
  have HH1 := Lib.hid H1
  clear H1 g2 g0 b1 HH C1 K2 HH1
  go_wp2
  go_ret
  exact ⟨rfl, G2.out⟩
set_option maxHeartbeats 4000000 in
theorem qdrop_1 (H : QMem w qb lb T D M d Q) (i : Int) (j : Nat) (hn : numT T D 1 i = some j) (hj : j < T) (hq : j ∈ Q) (hd : d ≤ 600) (h1 : lo ≤ lb ∧ lb + 5 ≤ hi) (h2 : lo ≤ qb ∧ qb < hi) :
    Calls Try.prog 30 #[.pointer (some ⟨qb, 0, none⟩), .agg #[.int .i64 1, .int .i64 i]] w fun e w' => e = .returned (.bool true) ∧ Only lo hi w w' ∧ QMem w' qb lb T D M d (Q.erase j) := by
  have C1 := Lib.hid (qnum_some (H.kept (World.grownBy_alloc w (.cells #[.int .i64 1, .int .i64 i] 46) none)) 1 i j hn)
  have HH := Lib.hid H
  have hszq := H.sz
  have hap := H.ap
  have hsl := H.ln.sz
  have hnd := H.ln.nodup 0 (by omega)
  clear H
  go_enter Try.func30, Try.ntmps30
  go_wp2_with fail
  refine C1.out.mono ?_
  rintro e w1 ⟨rfl, g1⟩
  obtain ⟨⟨b0, b1⟩, g0⟩ := box2 w (.int .i64 1) (.int .i64 i) 46 0
  replace b0 := g1.cell b0 (by simp)
  have g2 : w.grownBy w1 none := (World.grownBy_alloc w _ none).trans g1
  have K2 := Lib.hid (Only.of_none (lo := lo) (hi := hi) g2)
  have G2 := Lib.hid g2
  have H1 := HH.out.kept g2
  have c0 := H1.c0
  have c2 := H1.c2
  have c3 := H1.c3
  have hbz : w.heap.size < w1.heap.size := by have := g1.size; rw [World.size_alloc] at this; exact this
  replace b0 : w1.cell? ⟨w.heap.size, 0, none⟩ = some (.int .i64 1) := b0
  have HH1 := Lib.hid H1
  have C2 := Lib.hid (pull_ok j 0 H1.ln (by omega) hq)
  clear H1 g2 g0 b1 HH C1 G2
  go_wp2_with fail
  refine C2.out.mono ?_
  rintro e w2 ⟨rfl, k2, L2⟩
  have H2 := HH1.out.set k2 (L2.congr (L' := fun _ => Q.erase j) (upL0 _))
  have b0' : w2.cell? ⟨w.heap.size, 0, none⟩ = some (.int .i64 1) := (by rw [k2.cell _ hbz (Or.inr (by show _ ≤ w.heap.size; omega))]; exact b0)
  have c3' := H2.c3
  have f3' := H2.f3
  have HH2 := Lib.hid H2
  have KK2 := Lib.hid (K2.out.trans (k2.wider h1.1 h1.2))
  clear H2 k2 L2
  go_wp2
  go_ret
  exact ⟨rfl, KK2.out, HH2.out⟩
set_option maxHeartbeats 4000000 in
theorem qdrop_2 (H : QMem w qb lb T D M d Q) (i : Int) (j : Nat) (hn : numT T D 2 i = some j) (hT : T ≤ j) (hq : j ∈ Q) (hd : d ≤ 600) (hd1 : 1 ≤ d) (h1 : lo ≤ lb ∧ lb + 5 ≤ hi) (h2 : lo ≤ qb ∧ qb < hi) :
    Calls Try.prog 30 #[.pointer (some ⟨qb, 0, none⟩), .agg #[.int .i64 2, .int .i64 i]] w fun e w' => e = .returned (.bool true) ∧ Only lo hi w w' ∧ QMem w' qb lb T D M (d - 1) (Q.erase j) := by
  have C1 := Lib.hid (qnum_some (H.kept (World.grownBy_alloc w (.cells #[.int .i64 2, .int .i64 i] 46) none)) 2 i j hn)
  have HH := Lib.hid H
  have hszq := H.sz
  have hap := H.ap
  have hsl := H.ln.sz
  have hnd := H.ln.nodup 0 (by omega)
  clear H
  go_enter Try.func30, Try.ntmps30
  go_wp2_with fail
  refine C1.out.mono ?_
  rintro e w1 ⟨rfl, g1⟩
  obtain ⟨⟨b0, b1⟩, g0⟩ := box2 w (.int .i64 2) (.int .i64 i) 46 0
  replace b0 := g1.cell b0 (by simp)
  have g2 : w.grownBy w1 none := (World.grownBy_alloc w _ none).trans g1
  have K2 := Lib.hid (Only.of_none (lo := lo) (hi := hi) g2)
  have G2 := Lib.hid g2
  have H1 := HH.out.kept g2
  have c0 := H1.c0
  have c2 := H1.c2
  have c3 := H1.c3
  have hbz : w.heap.size < w1.heap.size := by have := g1.size; rw [World.size_alloc] at this; exact this
  replace b0 : w1.cell? ⟨w.heap.size, 0, none⟩ = some (.int .i64 2) := b0
  have HH1 := Lib.hid H1
  have C2 := Lib.hid (pull_ok j 0 H1.ln (by omega) hq)
  clear H1 g2 g0 b1 HH C1 G2
  go_wp2_with fail
  refine C2.out.mono ?_
  rintro e w2 ⟨rfl, k2, L2⟩
  have H2 := HH1.out.set k2 (L2.congr (L' := fun _ => Q.erase j) (upL0 _))
  have b0' : w2.cell? ⟨w.heap.size, 0, none⟩ = some (.int .i64 2) := (by rw [k2.cell _ hbz (Or.inr (by show _ ≤ w.heap.size; omega))]; exact b0)
  have c3' := H2.c3
  have f3' := H2.f3
  have HH2 := Lib.hid H2
  have KK2 := Lib.hid (K2.out.trans (k2.wider h1.1 h1.2))
  clear H2 k2 L2
  go_wp2
  go_ret
  refine ⟨rfl, KK2.out.trans (Only.set _ ⟨qb, 3, none⟩ _ h2.1 h2.2), ?_⟩
  have := HH2.out.setD (d - 1)
  rw [show ((d - 1 : Nat) : Int) = (d : Int) - 1 by omega] at this
  exact this
set_option maxHeartbeats 4000000 in
theorem qdrop_n (H : QMem w qb lb T D M d Q) (k i : Int) (j : Nat) (hn : numT T D k i = some j) (hq : j ∉ Q) :
    Calls Try.prog 30 #[.pointer (some ⟨qb, 0, none⟩), .agg #[.int .i64 k, .int .i64 i]] w fun e w' => e = .returned (.bool false) ∧ w.grownBy w' none := by
  obtain ⟨lo, hi⟩ : Nat × Nat := (0, 0)
  have C1 := Lib.hid (qnum_some (H.kept (World.grownBy_alloc w (.cells #[.int .i64 k, .int .i64 i] 46) none)) k i j hn)
  have HH := Lib.hid H
  have hszq := H.sz
  have hap := H.ap
  have hsl := H.ln.sz
  have hnd := H.ln.nodup 0 (by omega)
  clear H
  go_enter Try.func30, Try.ntmps30
  go_wp2_with fail
  refine C1.out.mono ?_
  rintro e w1 ⟨rfl, g1⟩
  obtain ⟨⟨b0, b1⟩, g0⟩ := box2 w (.int .i64 k) (.int .i64 i) 46 0
  replace b0 := g1.cell b0 (by simp)
  have g2 : w.grownBy w1 none := (World.grownBy_alloc w _ none).trans g1
  have K2 := Lib.hid (Only.of_none (lo := lo) (hi := hi) g2)
  have G2 := Lib.hid g2
  have H1 := HH.out.kept g2
  have c0 := H1.c0
  have c2 := H1.c2
  have c3 := H1.c3
  have hbz : w.heap.size < w1.heap.size := by have := g1.size; rw [World.size_alloc] at this; exact this
  replace b0 : w1.cell? ⟨w.heap.size, 0, none⟩ = some (.int .i64 k) := b0
  have HH1 := Lib.hid H1
  have C2 := Lib.hid (pull_no (j : Int) H1.ln (fun x hx y hy e => hq (by obtain rfl : y = j := (by omega); exact hy)))
  clear H1 g2 g0 b1 HH C1 K2 HH1
  go_wp2_with fail
  refine C2.out.mono ?_
  rintro e w2 ⟨rfl, rfl⟩
  go_wp2
  go_ret
  exact ⟨rfl, G2.out⟩
set_option maxHeartbeats 4000000 in
theorem qdrop_z (H : QMem w qb lb T D M d Q) (k i : Int) (hn : numT T D k i = none) :
    Calls Try.prog 30 #[.pointer (some ⟨qb, 0, none⟩), .agg #[.int .i64 k, .int .i64 i]] w fun e w' => e = .returned (.bool false) ∧ w.grownBy w' none := by
  obtain ⟨lo, hi⟩ : Nat × Nat := (0, 0)
  have C1 := Lib.hid (qnum_none (H.kept (World.grownBy_alloc w (.cells #[.int .i64 k, .int .i64 i] 46) none)) k i hn)
  have HH := Lib.hid H
  have hszq := H.sz
  have hap := H.ap
  have hsl := H.ln.sz
  have hnd := H.ln.nodup 0 (by omega)
  clear H
  go_enter Try.func30, Try.ntmps30
  go_wp2_with fail
  refine C1.out.mono ?_
  rintro e w1 ⟨rfl, g1⟩
  obtain ⟨⟨b0, b1⟩, g0⟩ := box2 w (.int .i64 k) (.int .i64 i) 46 0
  replace b0 := g1.cell b0 (by simp)
  have g2 : w.grownBy w1 none := (World.grownBy_alloc w _ none).trans g1
  have K2 := Lib.hid (Only.of_none (lo := lo) (hi := hi) g2)
  have G2 := Lib.hid g2
  have H1 := HH.out.kept g2
  have c0 := H1.c0
  have c2 := H1.c2
  have c3 := H1.c3
  have hbz : w.heap.size < w1.heap.size := by have := g1.size; rw [World.size_alloc] at this; exact this
  replace b0 : w1.cell? ⟨w.heap.size, 0, none⟩ = some (.int .i64 k) := b0
  have HH1 := Lib.hid H1
  clear H1 g2 g0 b1 HH C1 K2 HH1
  go_wp2
  go_ret
  exact ⟨rfl, G2.out⟩

theorem qu_has_yes (H : Qu w lo hi qb T D M Q) (k i : Int) (j : Nat) (h : inQ T D Q k i = some j) :
    Calls Try.prog 22 #[.pointer (some ⟨qb, 0, none⟩), .agg #[.int .i64 k, .int .i64 i]] w fun e w' => e = .returned (.bool true) ∧ w.grownBy w' none := by
  obtain ⟨lb, H, h1, h2, h3⟩ := H
  exact qhas_y H k i j (inQ_some h).1 (inQ_some h).2
theorem qu_has_no (H : Qu w lo hi qb T D M Q) (k i : Int) (h : inQ T D Q k i = none) :
    Calls Try.prog 22 #[.pointer (some ⟨qb, 0, none⟩), .agg #[.int .i64 k, .int .i64 i]] w fun e w' => e = .returned (.bool false) ∧ w.grownBy w' none := by
  obtain ⟨lb, H, h1, h2, h3⟩ := H
  rcases inQ_none h with hn | ⟨j, hn, hq⟩
  · exact qhas_z H k i hn
  · exact qhas_n H k i j hn hq
theorem qu_drop_yes (H : Qu w lo hi qb T D M Q) (k i : Int) (j : Nat) (h : inQ T D Q k i = some j) :
    Calls Try.prog 30 #[.pointer (some ⟨qb, 0, none⟩), .agg #[.int .i64 k, .int .i64 i]] w fun e w' => e = .returned (.bool true) ∧ Only lo hi w w' ∧ Qu w' lo hi qb T D M (Q.erase j) := by
  obtain ⟨hn, hq⟩ := inQ_some h
  have hdl := devN_le T Q
  have hde := devN_erase T Q j hq
  have hfew := H.few
  have htb := H.tb
  obtain ⟨lb, H, h1, h2, h3⟩ := H
  rcases numT_kind hn with ⟨rfl, hj⟩ | ⟨rfl, hT, hj⟩
  · refine (qdrop_1 H i j hn hj hq (by omega) h1 h2).mono fun e w' ⟨a, b, c⟩ => ⟨a, b, lb, ?_, h1, h2, Nat.le_trans h3 b.size⟩
    rw [if_neg (by omega)] at hde
    have e : devN T (Q.erase j) = devN T Q := by omega
    rw [e]
    exact c
  · rw [if_pos hT] at hde
    refine (qdrop_2 H i j hn hT hq (by omega) (by omega) h1 h2).mono fun e w' ⟨a, b, c⟩ => ⟨a, b, lb, ?_, h1, h2, Nat.le_trans h3 b.size⟩
    have e : devN T (Q.erase j) = devN T Q - 1 := by omega
    rw [e]
    exact c
theorem qu_drop_no (H : Qu w lo hi qb T D M Q) (k i : Int) (h : inQ T D Q k i = none) :
    Calls Try.prog 30 #[.pointer (some ⟨qb, 0, none⟩), .agg #[.int .i64 k, .int .i64 i]] w fun e w' => e = .returned (.bool false) ∧ w.grownBy w' none := by
  obtain ⟨lb, H, h1, h2, h3⟩ := H
  rcases inQ_none h with hn | ⟨j, hn, hq⟩
  · exact qdrop_z H k i hn
  · exact qdrop_n H k i j hn hq
theorem qu_len (H : Qu w lo hi qb T D M Q) :
    Calls Try.prog 17 #[.pointer (some ⟨qb, 0, none⟩)] w fun e w' => e = .returned (.int .i64 (Q.length : Nat)) ∧ w = w' := by
  obtain ⟨lb, H, h1, h2, h3⟩ := H
  have C := Lib.hid (len_in 0 H.ln (by omega))
  have c0 := H.c0
  clear H
  go_enter Try.func17, Try.ntmps17
  go_wp2_with fail
  refine C.out.mono ?_
  rintro e w2 ⟨rfl, rfl⟩
  go_wp2
  go_ret
  exact ⟨rfl, rfl⟩
end
end Go.Proofs.Ytpnipmjjhiaieaa
