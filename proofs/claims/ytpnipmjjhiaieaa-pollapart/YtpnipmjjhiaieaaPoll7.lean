/-
  A poll as an object: its blocks among F, what it is as a state; its calls, and its queue's, as functions of the state.
-/
import Derived.Test.YtpnipmjjhiaieaaPoll6
namespace Go.Proofs.Ytpnipmjjhiaieaa
open Go.RowKit Go.Lib BN
set_option linter.unusedVariables false
/-- What a poll is: its gates, its notes, who is looked at first, its queue's numbers. -/
structure Ps where
  G : Nat → Gt
  N : List (Int × Int)
  f : Nat
  Q : List Nat
def sOpen (s : Ps) (d : Nat) : Ps := { s with G := updG s.G d (gOpen (s.G d)).1 }
def sClose (T D : Nat) (s : Ps) (d : Nat) : Ps := { G := updG s.G d (gClose (s.G d)).1, N := if (s.G d).op = true then s.N.filter (fun v => decide (v.1 ≠ (d : Int))) else s.N, f := s.f, Q := if (s.G d).op = true then dropD T D s.Q d else s.Q }
def sPost (cap : Nat) (s : Ps) (d : Nat) (m : Int) : Ps :=
  if bits .and .i64 m 7 ≠ 0 ∧ (s.G d).op = true then (if s.N.length < cap then { s with N := s.N ++ [((d : Int), bits .and .i64 m 7)] } else { s with G := updG s.G d (gKeep (s.G d) (bits .and .i64 m 7)) }) else s
def sWatch (T D : Nat) (s : Ps) (d : Nat) (h x m : Int) : Ps := { s with G := updG s.G d (gWatch (s.G d) h x m).1, Q := if (gWatch (s.G d) h x m).2 = true then dropD T D s.Q d else s.Q }
def sUnwatch (T D : Nat) (s : Ps) (d : Nat) : Ps := { s with G := updG s.G d (gUnwatch (s.G d)).1, Q := if (gUnwatch (s.G d)).2 = true then dropD T D s.Q d else s.Q }
def sAck (s : Ps) (d : Nat) (m : Int) : Ps := { s with G := updG s.G d (gAck (s.G d) m).1 }
def sTell (s : Ps) (d : Nat) : Ps := { s with G := updG s.G d (tells (s.G d)).1 }
def sG (n : Nat) (s : Ps) : Nat → Gt := flushN (meetN s.G s.N) n
def sSettle (n T D : Nat) (Mx : Int) (s : Ps) : Ps := { G := sG n s, N := [], f := (lineN T D Mx (sG n s) n s.f s.Q n).2, Q := (lineN T D Mx (sG n s) n s.f s.Q n).1 }
def sQ (s : Ps) (Q : List Nat) : Ps := { s with Q := Q }

/-- Blocks that were there, and all that was made since. -/
def grF (F : Nat → Prop) (w w' : World) : Nat → Prop := fun k => F k ∨ (w.heap.size ≤ k ∧ k < w'.heap.size)
/-- A poll whose blocks are among F. -/
def PoF (F : Nat → Prop) (w : World) (pb qb n cap T D : Nat) (Mx : Int) (s : Ps) : Prop :=
  ∃ gb bb c lo hi L, PoM w pb gb bb c qb lo hi n cap T D Mx s.G L s.f s.Q ∧ L.map Prod.snd = s.N ∧ ∀ k, ownP pb gb bb c lo hi L k → F k
theorem _root_.Go.Proofs.Ytpnipmjjhiaieaa.BN.OnlyB.sub {P P' : Nat → Prop} {a b : World} (k : OnlyB P a b) (h : ∀ j, P j → P' j) : OnlyB P' a b :=
  ⟨k.os, k.tape, k.output, k.size, fun j hj hr => k.block j hj fun hp => hr (h j hp)⟩
section
variable {F F' : Nat → Prop} {w w' : World} {pb qb n cap T D : Nat} {Mx : Int} {s : Ps}
theorem PoF.sub (H : PoF F w pb qb n cap T D Mx s) (h : ∀ k, F k → F' k) : PoF F' w pb qb n cap T D Mx s := by
  obtain ⟨gb, bb, c, lo, hi, L, H, hN, hF⟩ := H
  exact ⟨gb, bb, c, lo, hi, L, H, hN, fun k hk => h k (hF k hk)⟩
theorem PoF.kept (H : PoF F w pb qb n cap T D Mx s) (k : w.grownBy w' none) : PoF F w' pb qb n cap T D Mx s := by
  obtain ⟨gb, bb, c, lo, hi, L, H, hN, hF⟩ := H
  exact ⟨gb, bb, c, lo, hi, L, H.kept k, hN, hF⟩
theorem PoF.nb (H : PoF F w pb qb n cap T D Mx s) : n ≤ 64 ∧ (s.f = 0 ∨ s.f < n) := by
  obtain ⟨gb, bb, c, lo, hi, L, H, hN, hF⟩ := H
  exact H.nb
theorem PoF.md (H : PoF F w pb qb n cap T D Mx s) : ∀ i, i < n → mdOk (s.G i) := by
  obtain ⟨gb, bb, c, lo, hi, L, H, hN, hF⟩ := H
  exact H.gs.md
theorem PoF.room (H : PoF F w pb qb n cap T D Mx s) : s.N.length ≤ cap ∧ cap ≤ 4096 := by
  obtain ⟨gb, bb, c, lo, hi, L, H, hN, hF⟩ := H
  have := H.bx.le
  rw [← hN, List.length_map]
  exact this
theorem pf_open (H : PoF F w pb qb n cap T D Mx s) (d : Nat)  (hd : d < n): Calls Try.prog 10 #[.pointer (some ⟨pb, 0, none⟩), .int .i64 d] w fun e w' => e = .returned (.bool (gOpen (s.G d)).2) ∧ PoF (grF F w w') w' pb qb n cap T D Mx (sOpen s d) ∧ OnlyB F w w' := by
  obtain ⟨gb, bb, c, lo, hi, L, H, hN, hF⟩ := H
  exact (po_open H d hd).mono fun e w' ⟨h1, h2, h3⟩ => ⟨h1, ⟨gb, bb, c, lo, hi, L, h2, hN, fun k hk => Or.inl (hF k hk)⟩, (ownB_g h3).sub hF⟩
theorem pf_close (H : PoF F w pb qb n cap T D Mx s) (d : Nat)  (hd : d < n): Calls Try.prog 11 #[.pointer (some ⟨pb, 0, none⟩), .int .i64 d] w fun e w' => e = .returned (.bool (s.G d).op) ∧ PoF (grF F w w') w' pb qb n cap T D Mx (sClose T D s d) ∧ OnlyB F w w' := by
  obtain ⟨gb, bb, c, lo, hi, L, H, hN, hF⟩ := H
  unfold sClose
  by_cases ho : (s.G d).op = true
  · rw [if_pos ho, if_pos ho, ho]
    exact (po_close_t H d hd ho).mono fun e w' ⟨h1, h2, h3⟩ => ⟨h1, ⟨gb, bb, c, lo, hi, _, h2, by rw [← hN, List.filter_map]; rfl, fun k hk => Or.inl (hF k (by
      rcases hk with h | h | h | h | h | ⟨x, hx, h⟩
      · exact Or.inl h
      · exact Or.inr (Or.inl h)
      · exact Or.inr (Or.inr (Or.inl h))
      · exact Or.inr (Or.inr (Or.inr (Or.inl h)))
      · exact Or.inr (Or.inr (Or.inr (Or.inr (Or.inl h))))
      · exact Or.inr (Or.inr (Or.inr (Or.inr (Or.inr ⟨x, (List.mem_filter.1 hx).1, h⟩))))))⟩, h3.sub hF⟩
  · rw [if_neg ho, if_neg ho, show (s.G d).op = false by simpa using ho]
    exact (po_close_f H d hd (by simpa using ho)).mono fun e w' ⟨h1, h2, h3⟩ => ⟨h1, ⟨gb, bb, c, lo, hi, L, h2, hN, fun k hk => Or.inl (hF k hk)⟩, h3.sub hF⟩
theorem pf_post (H : PoF F w pb qb n cap T D Mx s) (d : Nat) (m : Int)  (hd : d < n): Calls Try.prog 12 #[.pointer (some ⟨pb, 0, none⟩), .int .i64 d, .int .i64 m] w fun e w' => e = .returned (.bool (decide (bits .and .i64 m 7 ≠ 0 ∧ (s.G d).op = true))) ∧ PoF (grF F w w') w' pb qb n cap T D Mx (sPost cap s d m) ∧ OnlyB F w w' := by
  obtain ⟨gb, bb, c, lo, hi, L, H, hN, hF⟩ := H
  unfold sPost
  by_cases hm : bits .and .i64 m 7 = 0
  · rw [if_neg (by simp [hm]), decide_eq_false (by simp [hm])]
    exact (po_post_zero H d m hm).mono fun e w' ⟨h1, h2⟩ => by subst h2; exact ⟨h1, ⟨gb, bb, c, lo, hi, L, H, hN, fun k hk => Or.inl (hF k hk)⟩, OnlyB.refl ..⟩
  · by_cases ho : (s.G d).op = true
    · rw [if_pos ⟨hm, ho⟩, decide_eq_true (show bits .and .i64 m 7 ≠ 0 ∧ (s.G d).op = true from ⟨hm, ho⟩)]
      by_cases hl : s.N.length < cap
      · rw [if_pos hl]
        refine (po_post_in H d m _ rfl hm hd ho (by rw [← hN, List.length_map] at hl; exact hl)).mono fun e w' ⟨h1, ⟨p, hp, hp2, h2⟩, h3⟩ => ⟨h1, ⟨gb, bb, c, lo, hi, _, h2, by rw [List.map_append, hN]; rfl, fun k hk => ?_⟩, h3.sub hF⟩
        rcases hk with h | h | h | h | h | ⟨x, hx, h⟩
        · exact Or.inl (hF k (Or.inl h))
        · exact Or.inl (hF k (Or.inr (Or.inl h)))
        · exact Or.inl (hF k (Or.inr (Or.inr (Or.inl h))))
        · exact Or.inl (hF k (Or.inr (Or.inr (Or.inr (Or.inl h)))))
        · exact Or.inl (hF k (Or.inr (Or.inr (Or.inr (Or.inr (Or.inl h))))))
        · rcases List.mem_append.1 hx with hx | hx
          · exact Or.inl (hF k (Or.inr (Or.inr (Or.inr (Or.inr (Or.inr ⟨x, hx, h⟩))))))
          · rw [List.mem_singleton.1 hx] at h
            exact Or.inr ⟨by rw [h]; exact hp, by rw [h]; exact hp2⟩
      · rw [if_neg hl]
        exact (po_post_keep H d m _ rfl hm hd ho (by rw [← hN, List.length_map] at hl; omega)).mono fun e w' ⟨h1, h2, h3⟩ => ⟨h1, ⟨gb, bb, c, lo, hi, L, h2, hN, fun k hk => Or.inl (hF k hk)⟩, h3.sub hF⟩
    · rw [if_neg (by simp [ho]), decide_eq_false (by simp [ho])]
      exact (po_post_shut H d m hm hd (by simpa using ho)).mono fun e w' ⟨h1, h2⟩ => ⟨h1, ⟨gb, bb, c, lo, hi, L, H.kept h2, hN, fun k hk => Or.inl (hF k hk)⟩, OnlyB.of_none h2⟩
theorem pf_watch (H : PoF F w pb qb n cap T D Mx s) (d : Nat) (h x m : Int)  (hd : d < n): Calls Try.prog 16 #[.pointer (some ⟨pb, 0, none⟩), .int .i64 d, .int .u64 h, .int .i64 x, .int .i64 m] w fun e w' => e = .returned (.bool (gWatch (s.G d) h x m).2) ∧ PoF (grF F w w') w' pb qb n cap T D Mx (sWatch T D s d h x m) ∧ OnlyB F w w' := by
  obtain ⟨gb, bb, c, lo, hi, L, H, hN, hF⟩ := H
  unfold sWatch
  cases hb : (gWatch (s.G d) h x m).2
  · rw [if_neg (by simp)]
    exact (po_watch_f H d h x m hd hb).mono fun e w' ⟨h1, h2, h3⟩ => ⟨h1, ⟨gb, bb, c, lo, hi, L, h2, hN, fun k hk => Or.inl (hF k hk)⟩, h3.sub hF⟩
  · rw [if_pos rfl]
    exact (po_watch_t H d h x m hd hb).mono fun e w' ⟨h1, h2, h3⟩ => ⟨h1, ⟨gb, bb, c, lo, hi, L, h2, hN, fun k hk => Or.inl (hF k hk)⟩, h3.sub hF⟩
theorem pf_unwatch (H : PoF F w pb qb n cap T D Mx s) (d : Nat)  (hd : d < n): Calls Try.prog 20 #[.pointer (some ⟨pb, 0, none⟩), .int .i64 d] w fun e w' => e = .returned (.bool (gUnwatch (s.G d)).2) ∧ PoF (grF F w w') w' pb qb n cap T D Mx (sUnwatch T D s d) ∧ OnlyB F w w' := by
  obtain ⟨gb, bb, c, lo, hi, L, H, hN, hF⟩ := H
  unfold sUnwatch
  cases hb : (gUnwatch (s.G d)).2
  · rw [if_neg (by simp)]
    exact (po_unwatch_f H d hd hb).mono fun e w' ⟨h1, h2, h3⟩ => ⟨h1, ⟨gb, bb, c, lo, hi, L, h2, hN, fun k hk => Or.inl (hF k hk)⟩, h3.sub hF⟩
  · rw [if_pos rfl]
    exact (po_unwatch_t H d hd hb).mono fun e w' ⟨h1, h2, h3⟩ => ⟨h1, ⟨gb, bb, c, lo, hi, L, h2, hN, fun k hk => Or.inl (hF k hk)⟩, h3.sub hF⟩
theorem pf_ack (H : PoF F w pb qb n cap T D Mx s) (d : Nat) (m : Int)  (hd : d < n): Calls Try.prog 21 #[.pointer (some ⟨pb, 0, none⟩), .int .i64 d, .int .i64 m] w fun e w' => e = .returned (.int .i64 (gAck (s.G d) m).2) ∧ PoF (grF F w w') w' pb qb n cap T D Mx (sAck s d m) ∧ OnlyB F w w' := by
  obtain ⟨gb, bb, c, lo, hi, L, H, hN, hF⟩ := H
  exact (po_ack H d m hd).mono fun e w' ⟨h1, h2, h3⟩ => ⟨h1, ⟨gb, bb, c, lo, hi, L, h2, hN, fun k hk => Or.inl (hF k hk)⟩, h3.sub hF⟩
theorem pf_tell (H : PoF F w pb qb n cap T D Mx s) (d : Nat)  (hd : d < n): Calls Try.prog 19 #[.pointer (some ⟨pb, 0, none⟩), .int .i64 d] w fun e w' => e = .returned (.tuple #[.int .u64 (tells (s.G d)).2.1, .int .i64 (tells (s.G d)).2.2]) ∧ PoF (grF F w w') w' pb qb n cap T D Mx (sTell s d) ∧ OnlyB F w w' := by
  obtain ⟨gb, bb, c, lo, hi, L, H, hN, hF⟩ := H
  exact (po_tell H d hd).mono fun e w' ⟨h1, h2, h3⟩ => ⟨h1, ⟨gb, bb, c, lo, hi, L, h2, hN, fun k hk => Or.inl (hF k hk)⟩, h3.sub hF⟩
theorem pf_settle (H : PoF F w pb qb n cap T D Mx s) : Calls Try.prog 14 #[.pointer (some ⟨pb, 0, none⟩)] w fun e w' => e = .returned (.tuple #[]) ∧ PoF (grF F w w') w' pb qb n cap T D Mx (sSettle n T D Mx s) ∧ OnlyB F w w' := by
  obtain ⟨gb, bb, c, lo, hi, L, H, hN, hF⟩ := H
  have := po_settle H
  rw [hN] at this
  exact this.mono fun e w' ⟨h1, h2, h3⟩ => ⟨h1, ⟨gb, bb, c, lo, hi, [], h2, rfl, fun k hk => Or.inl (hF k (by
      rcases hk with h | h | h | h | h | ⟨x, hx, h⟩
      · exact Or.inl h
      · exact Or.inr (Or.inl h)
      · exact Or.inr (Or.inr (Or.inl h))
      · exact Or.inr (Or.inr (Or.inr (Or.inl h)))
      · exact Or.inr (Or.inr (Or.inr (Or.inr (Or.inl h))))
      · cases hx))⟩, h3.sub hF⟩
theorem pf_look (H : PoF F w pb qb n cap T D Mx s) (d : Nat) (hd : d < n) : Calls Try.prog 15 #[.pointer (some ⟨pb, 0, none⟩), .int .i64 d] w fun e w' => e = .returned (.tuple #[gval (s.G d), .bool true]) ∧ w.grownBy w' none := by
  obtain ⟨gb, bb, c, lo, hi, L, H, hN, hF⟩ := H
  exact po_look H d hd
theorem pf_notes (H : PoF F w pb qb n cap T D Mx s) : Calls Try.prog 13 #[.pointer (some ⟨pb, 0, none⟩)] w fun e w' => (∃ sa cp, e = .returned (.slice sa s.N.length cp)) ∧ PoF F w' pb qb n cap T D Mx s ∧ OnlyB F w w' := by
  obtain ⟨gb, bb, c, lo, hi, L, H, hN, hF⟩ := H
  refine (po_notes H).mono fun e w' ⟨⟨v, h1, h4⟩, h2, h3⟩ => ⟨?_, ⟨gb, bb, c, lo, hi, L, h2, hN, hF⟩, (ownB_c h3).sub hF⟩
  obtain ⟨sa, cp, rfl, _, _⟩ := own_at h4
  exact ⟨sa, cp, by rw [h1, ← hN, List.length_map]⟩
theorem pf_qlen (H : PoF F w pb qb n cap T D Mx s) : Calls Try.prog 17 #[.pointer (some ⟨qb, 0, none⟩)] w fun e w' => e = .returned (.int .i64 (s.Q.length : Nat)) ∧ w = w' := by
  obtain ⟨gb, bb, c, lo, hi, L, H, hN, hF⟩ := H
  exact qu_len H.qu
theorem pf_pop_none (H : PoF F w pb qb n cap T D Mx s) (h : s.Q = []) : Calls Try.prog 18 #[.pointer (some ⟨qb, 0, none⟩)] w fun e w' => e = .returned (.tuple #[.agg #[.int .i64 0, .int .i64 0], .bool false]) ∧ w.grownBy w' none := by
  obtain ⟨gb, bb, c, lo, hi, L, H, hN, hF⟩ := H
  exact qu_pop_none (h ▸ H.qu)
theorem pf_pop_some (H : PoF F w pb qb n cap T D Mx s) (j : Nat) (r : List Nat) (h : s.Q = j :: r) : Calls Try.prog 18 #[.pointer (some ⟨qb, 0, none⟩)] w fun e w' => e = .returned (.tuple #[.agg #[.int .i64 (thK T j), .int .i64 (thI T j)], .bool true]) ∧ PoF (grF F w w') w' pb qb n cap T D Mx (sQ s r) ∧ OnlyB F w w' := by
  obtain ⟨gb, bb, c, lo, hi, L, H, hN, hF⟩ := H
  exact (qu_pop_some j r (h ▸ H.qu)).mono fun e w' ⟨h1, h2, h3⟩ => ⟨h1, ⟨gb, bb, c, lo, hi, L, H.queue h2 h3, hN, fun k hk => Or.inl (hF k hk)⟩, (ownB_q h2).sub hF⟩
theorem pf_has (H : PoF F w pb qb n cap T D Mx s) (k i : Int) : Calls Try.prog 22 #[.pointer (some ⟨qb, 0, none⟩), .agg #[.int .i64 k, .int .i64 i]] w fun e w' => e = .returned (.bool (inQ T D s.Q k i).isSome) ∧ w.grownBy w' none := by
  obtain ⟨gb, bb, c, lo, hi, L, H, hN, hF⟩ := H
  cases h : inQ T D s.Q k i with
  | some j => exact qu_has_yes H.qu k i j h
  | none => exact qu_has_no H.qu k i h
end
end Go.Proofs.Ytpnipmjjhiaieaa
