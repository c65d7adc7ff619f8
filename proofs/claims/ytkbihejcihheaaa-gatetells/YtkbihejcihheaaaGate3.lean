/-
  Contracts of package gate, over this seat's translation, all numbers as variables; the law's 'alive'.
-/
import Derived.Test.YtkbihejcihheaaaGate2
namespace Go.Proofs.Ytkbihejcihheaaa
open Go.RowKit Go.Lib
set_option maxRecDepth 100000
set_option linter.unusedVariables false
section
variable {w w' : World} {b : Nat} {g : Gt}

theorem gtell_any (H : GAt w b g) (hm : 0 ≤ g.md ∧ g.md ≤ 2) (g' : Gt) (h m : Int) (e : tells g = (g', h, m)) : Calls Try.prog 12 #[.pointer (some ⟨b, 0, none⟩)] w fun e w' => e = .returned (.tuple #[.int .u64 h, .int .i64 m]) ∧ GAt w' b g' ∧ Only b (b + 1) w w' := by
  unfold tells at e
  by_cases h0 : g.md = 0
  · rw [if_pos h0] at e
    by_cases ht : bits .and .i64 g.rd g.wt = 0
    · rw [if_pos ht] at e
      cases e
      have := gtell_level H h0 0 ht
      simpa using this
    · rw [if_neg ht] at e
      cases e
      have := gtell_level H h0 _ rfl
      rw [if_neg ht] at this
      exact this
  · rw [if_neg h0] at e
    by_cases ht : g.td = 0
    · rw [if_pos ht] at e
      cases e
      exact gtell_none H h0 ht
    · rw [if_neg ht] at e
      by_cases h1 : g.md = 1
      · rw [if_pos h1] at e
        cases e
        exact gtell_edge H h1 ht
      · rw [if_neg h1] at e
        cases e
        exact gtell_once H (by omega) ht

theorem gopen_v {r l h x m t : Int} (H : GAt w b ⟨false, r, l, h, x, m, t⟩) : Calls Try.prog 9 #[.pointer (some ⟨b, 0, none⟩)] w fun e w' => e = .returned (.bool true) ∧ GAt w' b ⟨true, 0, 0, 0, 0, 0, 0⟩ ∧ Only b (b + 1) w w' := gopen_ok H rfl
theorem gopen_n {r l h x m t : Int} (H : GAt w b ⟨true, r, l, h, x, m, t⟩) : Calls Try.prog 9 #[.pointer (some ⟨b, 0, none⟩)] w fun e w' => e = .returned (.bool false) ∧ GAt w' b ⟨true, r, l, h, x, m, t⟩ ∧ Only b (b + 1) w w' :=
  (gopen_no H rfl).mono fun e w' ⟨h1, h2⟩ => by subst h2; exact ⟨h1, H, Only.refl ..⟩
theorem gwatch_v {r l h x m t : Int} (H : GAt w b ⟨true, r, l, h, x, m, t⟩) (h' x' m' t' : Int) (hx : 1 ≤ x' ∧ x' ≤ 7) (hm : 0 ≤ m' ∧ m' ≤ 2) (e : bits .and .i64 r x' = t') :
    Calls Try.prog 10 #[.pointer (some ⟨b, 0, none⟩), .int .u64 h', .int .i64 x', .int .i64 m'] w fun e w' => e = .returned (.bool true) ∧ GAt w' b ⟨true, r, l, h', x', m', t'⟩ ∧ Only b (b + 1) w w' := by
  subst e; exact gwatch_ok H h' x' m' rfl hx hm
theorem gmeet_v {r l h x m t : Int} (H : GAt w b ⟨true, r, l, h, x, m, t⟩) (c r' t' : Int) (e1 : bits .or .i64 r (bits .and .i64 c 7) = r') (e2 : bits .or .i64 t (bits .and .i64 c x) = t') :
    Calls Try.prog 11 #[.pointer (some ⟨b, 0, none⟩), .int .i64 c] w fun e w' => e = .returned (.tuple #[]) ∧ GAt w' b ⟨true, r', l, h, x, m, t'⟩ ∧ Only b (b + 1) w w' := by
  subst e1; subst e2; exact gmeet_on H c rfl
theorem gkeep_v {r l h x m t : Int} (H : GAt w b ⟨true, r, l, h, x, m, t⟩) (c l' : Int) (e1 : bits .or .i64 l (bits .and .i64 c 7) = l') :
    Calls Try.prog 15 #[.pointer (some ⟨b, 0, none⟩), .int .i64 c] w fun e w' => e = .returned (.tuple #[]) ∧ GAt w' b ⟨true, r, l', h, x, m, t⟩ ∧ Only b (b + 1) w w' := by
  subst e1; exact gkeep_on H c rfl
theorem gkeep_n {r l h x m t : Int} (H : GAt w b ⟨false, r, l, h, x, m, t⟩) (c : Int) :
    Calls Try.prog 15 #[.pointer (some ⟨b, 0, none⟩), .int .i64 c] w fun e w' => e = .returned (.tuple #[]) ∧ GAt w' b ⟨false, r, l, h, x, m, t⟩ ∧ Only b (b + 1) w w' :=
  (gkeep_off H c rfl).mono fun e w' ⟨h1, h2⟩ => by subst h2; exact ⟨h1, H, Only.refl ..⟩
theorem gmeet_n {r l h x m t : Int} (H : GAt w b ⟨false, r, l, h, x, m, t⟩) (c : Int) :
    Calls Try.prog 11 #[.pointer (some ⟨b, 0, none⟩), .int .i64 c] w fun e w' => e = .returned (.tuple #[]) ∧ GAt w' b ⟨false, r, l, h, x, m, t⟩ ∧ Only b (b + 1) w w' :=
  (gmeet_off H c rfl).mono fun e w' ⟨h1, h2⟩ => by subst h2; exact ⟨h1, H, Only.refl ..⟩
theorem gflush_v {r l h x m t : Int} (H : GAt w b ⟨true, r, l, h, x, m, t⟩) (r' t' : Int) (e1 : bits .or .i64 r (bits .and .i64 l 7) = r') (e2 : bits .or .i64 t (bits .and .i64 l x) = t') :
    Calls Try.prog 16 #[.pointer (some ⟨b, 0, none⟩)] w fun e w' => e = .returned (.tuple #[]) ∧ GAt w' b ⟨true, r', 0, h, x, m, t'⟩ ∧ Only b (b + 1) w w' := by
  subst e1; subst e2; exact gflush_on H rfl
theorem gack_v {o : Bool} {r l h x m t : Int} (H : GAt w b ⟨o, r, l, h, x, m, t⟩) (c a r' : Int) (e1 : bits .and .i64 r c = a) (e2 : bits .andNot .i64 r c = r') :
    Calls Try.prog 13 #[.pointer (some ⟨b, 0, none⟩), .int .i64 c] w fun e w' => e = .returned (.int .i64 a) ∧ GAt w' b ⟨o, r', l, h, x, m, t⟩ ∧ Only b (b + 1) w w' := by
  subst e1; subst e2; exact gack_any H c
theorem gwants_v {o : Bool} {r l h x m t : Int} (H : GAt w b ⟨o, r, l, h, x, m, t⟩) (p : Bool) (e1 : decide (t ≠ 0) = p) :
    Calls Try.prog 17 #[.pointer (some ⟨b, 0, none⟩)] w fun e w' => e = .returned (.bool p) ∧ GAt w' b ⟨o, r, l, h, x, m, t⟩ ∧ Only b (b + 1) w w' := by
  subst e1; exact (gwants_any H).mono fun e w' ⟨h1, h2⟩ => by subst h2; exact ⟨h1, H, Only.refl ..⟩
theorem gunwatch_v {o : Bool} {r l h x m t : Int} (H : GAt w b ⟨o, r, l, h, x, m, t⟩) (p : Bool) (e1 : decide (x ≠ 0) = p) :
    Calls Try.prog 18 #[.pointer (some ⟨b, 0, none⟩)] w fun e w' => e = .returned (.bool p) ∧ GAt w' b ⟨o, r, l, 0, 0, 0, 0⟩ ∧ Only b (b + 1) w w' := by
  subst e1; exact gunwatch_any H
theorem gclose_v {o : Bool} {r l h x m t : Int} (H : GAt w b ⟨o, r, l, h, x, m, t⟩) :
    Calls Try.prog 19 #[.pointer (some ⟨b, 0, none⟩)] w fun e w' => e = .returned (.bool o) ∧ GAt w' b ⟨false, 0, 0, 0, 0, 0, 0⟩ ∧ Only b (b + 1) w w' := gclose_any H
theorem glook_v {o : Bool} {r l h x m t : Int} (H : GAt w b ⟨o, r, l, h, x, m, t⟩) :
    Calls Try.prog 14 #[.pointer (some ⟨b, 0, none⟩)] w fun e w' => e = .returned (.agg #[.bool o, .int .i64 r, .int .i64 l, .int .u64 h, .int .i64 x, .int .i64 m, .int .i64 t]) ∧ GAt w' b ⟨o, r, l, h, x, m, t⟩ ∧ Only b (b + 1) w w' :=
  (glook_any H).mono fun e w' ⟨h1, h2⟩ => ⟨h1, H.kept h2, Only.of_none h2⟩
/-- A gate that was just made. -/
theorem gt_new (w : World) (T : TypeId) : GAt (w.alloc (Obj.cells #[.bool false, .int .i64 0, .int .i64 0, .int .u64 0, .int .i64 0, .int .i64 0, .int .i64 0] T)) w.heap.size ⟨false, 0, 0, 0, 0, 0, 0⟩ := by
  have hc : ∀ i, (w.alloc (Obj.cells #[.bool false, .int .i64 0, .int .i64 0, .int .u64 0, .int .i64 0, .int .i64 0, .int .i64 0] T)).cell? ⟨w.heap.size, i, none⟩ = (#[.bool false, .int .i64 0, .int .i64 0, .int .u64 0, .int .i64 0, .int .i64 0, .int .i64 0] : Array Value)[i]? := fun i => World.cell?_alloc_at _ T _ i rfl
  exact ⟨hc 0, hc 1, hc 2, hc 3, hc 4, hc 5, hc 6, fun j => World.frozen?_alloc_at _ T _ j rfl, by show _ < (w.heap.push _).size; rw [Array.size_push]; omega⟩
/-- Behind all that is done with a new gate. -/
theorem Only.new {a : World} {o : Obj} (k : Only w.heap.size (w.heap.size + 1) (w.alloc o) a) : w.grownBy a none := Only.on (World.grownBy_alloc w o none) k (Nat.le_refl _)
end

set_option maxRecDepth 100000 in
set_option maxHeartbeats 4000000 in
theorem alive11 (w : World) : Calls Try.prog 8 #[] w fun e w' => e = .returned (.bool true) ∧ w.grownBy w' none := by
  have H0 := Lib.hid (gt_new w 28)
  have K0 := Lib.hid (Only.refl w.heap.size (w.heap.size + 1) (w.alloc (Obj.cells #[.bool false, .int .i64 0, .int .i64 0, .int .u64 0, .int .i64 0, .int .i64 0, .int .i64 0] 28)))
  go_enter Try.func8, Try.ntmps8
  go_wp2_with fail
  refine (gopen_v H0.out).mono ?_
  rintro e w1 ⟨rfl, h, k⟩
  have H1 := Lib.hid h
  have K1 := Lib.hid (K0.out.trans k)
  clear h k H0 K0
  go_wp2_with fail
  refine (gwatch_v H1.out 9 3 0 0 (by decide) (by decide) (by decide)).mono ?_
  rintro e w2 ⟨rfl, h, k⟩
  have H2 := Lib.hid h
  have K2 := Lib.hid (K1.out.trans k)
  clear h k H1 K1
  go_wp2_with fail
  refine (gmeet_v H2.out 5 5 1 (by decide) (by decide)).mono ?_
  rintro e w3 ⟨rfl, h, k⟩
  have H3 := Lib.hid h
  have K3 := Lib.hid (K2.out.trans k)
  clear h k H2 K2
  go_wp2_with fail
  refine (gtell_any H3.out (by decide) ⟨true, 5, 0, 9, 3, 0, 1⟩ 9 1 (by decide)).mono ?_
  rintro e w4 ⟨rfl, h, k⟩
  have H4 := Lib.hid h
  have K4 := Lib.hid (K3.out.trans k)
  clear h k H3 K3
  go_wp2_with fail
  refine (gwants_v H4.out true (by decide)).mono ?_
  rintro e w5 ⟨rfl, h, k⟩
  have H5 := Lib.hid h
  have K5 := Lib.hid (K4.out.trans k)
  clear h k H4 K4
  go_wp2_with fail
  refine (gack_v H5.out 7 5 0 (by decide) (by decide)).mono ?_
  rintro e w6 ⟨rfl, h, k⟩
  have H6 := Lib.hid h
  have K6 := Lib.hid (K5.out.trans k)
  clear h k H5 K5
  go_wp2_with fail
  refine (gtell_any H6.out (by decide) ⟨true, 0, 0, 9, 3, 0, 0⟩ 0 0 (by decide)).mono ?_
  rintro e w7 ⟨rfl, h, k⟩
  have H7 := Lib.hid h
  have K7 := Lib.hid (K6.out.trans k)
  clear h k H6 K6
  go_wp2_with fail
  refine (gopen_n H7.out).mono ?_
  rintro e w8 ⟨rfl, h, k⟩
  have H8 := Lib.hid h
  have K8 := Lib.hid (K7.out.trans k)
  clear h k H7 K7
  go_wp2_with fail
  refine (gwants_v H8.out false (by decide)).mono ?_
  rintro e w9 ⟨rfl, h, k⟩
  have H9 := Lib.hid h
  have K9 := Lib.hid (K8.out.trans k)
  clear h k H8 K8
  go_wp2_with fail
  refine (gunwatch_v H9.out true (by decide)).mono ?_
  rintro e w10 ⟨rfl, h, k⟩
  have H10 := Lib.hid h
  have K10 := Lib.hid (K9.out.trans k)
  clear h k H9 K9
  go_wp2_with fail
  refine (gunwatch_v H10.out false (by decide)).mono ?_
  rintro e w11 ⟨rfl, h, k⟩
  have H11 := Lib.hid h
  have K11 := Lib.hid (K10.out.trans k)
  clear h k H10 K10
  go_wp2_with fail
  refine (gclose_v H11.out).mono ?_
  rintro e w12 ⟨rfl, h, k⟩
  have H12 := Lib.hid h
  have K12 := Lib.hid (K11.out.trans k)
  clear h k H11 K11
  go_wp2_with fail
  refine (gclose_v H12.out).mono ?_
  rintro e w13 ⟨rfl, h, k⟩
  have H13 := Lib.hid h
  have K13 := Lib.hid (K12.out.trans k)
  clear h k H12 K12
  go_wp2
  go_ret
  exact ⟨rfl, K13.out.new⟩
end Go.Proofs.Ytkbihejcihheaaa
