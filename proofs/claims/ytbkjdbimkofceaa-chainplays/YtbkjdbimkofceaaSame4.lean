/-
  A contract of nightjarlaw04's same, over this seat's translation: links and lists that hold the same are the same.
-/
import Derived.Test.YtbkjdbimkofceaaRef4c
namespace Go.Proofs.Ytbkjdbimkofceaa
open Go.RowKit Go.Lib
set_option maxRecDepth 100000

/-- What a list of a wanted number holds: nothing, if there is no such list. -/
def wantL (L : Nat → List Nat) (m : Nat) (i : Int) : List Nat := if 0 ≤ i ∧ i < (m : Int) then L i.toNat else []

section
variable {w : World} {lo n m : Nat} {B : Nat → Prop} {L : Nat → List Nat} {v : Value}
/-- What the links answer of a list and a number. -/
theorem ask_first (i : Int) (H : LinksAt w lo n m L) : (∃ f r, wantL L m i = f :: r ∧ Calls Try.prog 33 #[.pointer (some ⟨lo + 4, 0, none⟩), .int .i64 i] w fun e w' => e = .returned (.tuple #[.int .i64 (f : Nat), .bool true]) ∧ w.grownBy w' none) ∨
    (wantL L m i = [] ∧ Calls Try.prog 33 #[.pointer (some ⟨lo + 4, 0, none⟩), .int .i64 i] w fun e w' => e = .returned (.tuple #[.int .i64 0, .bool false]) ∧ w.grownBy w' none) := by
  by_cases h : 0 ≤ i ∧ i < (m : Int)
  · obtain ⟨q, rfl⟩ := Int.eq_ofNat_of_zero_le h.1
    have e : wantL L m (q : Int) = L q := by unfold wantL; rw [if_pos h]; rfl
    rw [e]
    cases hq : L q with
    | nil => exact Or.inr ⟨rfl, first_none _ H (Or.inr (Or.inr (by simpa using hq)))⟩
    | cons f r => exact Or.inl ⟨f, r, rfl, first_some q f r H (by omega) hq⟩
  · have e : wantL L m i = [] := by unfold wantL; rw [if_neg h]
    exact Or.inr ⟨e, first_none _ H (by omega)⟩
theorem ask_len (i : Int) (H : LinksAt w lo n m L) : Calls Try.prog 35 #[.pointer (some ⟨lo + 4, 0, none⟩), .int .i64 i] w fun e w' => e = .returned (.int .i64 ((wantL L m i).length : Nat)) ∧ w = w' := by
  by_cases h : 0 ≤ i ∧ i < (m : Int)
  · obtain ⟨q, rfl⟩ := Int.eq_ofNat_of_zero_le h.1
    have e : wantL L m (q : Int) = L q := by unfold wantL; rw [if_pos h]; rfl
    rw [e]
    exact len_in q H (by omega)
  · have e : wantL L m i = [] := by unfold wantL; rw [if_neg h]
    rw [e]
    exact len_out i H (by omega)
theorem ask_all (i : Int) (H : LinksAt w lo n m L) : Calls Try.prog 37 #[.pointer (some ⟨lo + 4, 0, none⟩), .int .i64 i] w fun e w' => ∃ u, e = .returned u ∧ w.grownBy w' none ∧ Reads w' u (wantL L m i) := by
  by_cases h : 0 ≤ i ∧ i < (m : Int)
  · obtain ⟨q, rfl⟩ := Int.eq_ofNat_of_zero_le h.1
    have e : wantL L m (q : Int) = L q := by unfold wantL; rw [if_pos h]; rfl
    rw [e]
    exact (all_in q H (by omega)).mono fun e w' ⟨r, cp, he, k, ro⟩ => ⟨_, he, k, ro.reads⟩
  · have e : wantL L m i = [] := by unfold wantL; rw [if_neg h]
    rw [e]
    exact (all_out i H (by omega)).mono fun e w' ⟨he, hw⟩ => ⟨_, he, hw ▸ grow_refl _, reads_nil _⟩
theorem ask_on (k : Int) (H : LinksAt w lo n m L) : (∃ i x : Nat, i < m ∧ x ∈ L i ∧ (x : Int) = k ∧ Calls Try.prog 34 #[.pointer (some ⟨lo + 4, 0, none⟩), .int .i64 k] w fun e w' => e = .returned (.tuple #[.int .i64 (i : Nat), .bool true]) ∧ w = w') ∨
    ((∀ i, i < m → ∀ x ∈ L i, (x : Int) ≠ k) ∧ Calls Try.prog 34 #[.pointer (some ⟨lo + 4, 0, none⟩), .int .i64 k] w fun e w' => e = .returned (.tuple #[.int .i64 0, .bool false]) ∧ w = w') := by
  by_cases h : ∃ i x : Nat, i < m ∧ x ∈ L i ∧ (x : Int) = k
  · obtain ⟨i, x, hi, hx, rfl⟩ := h
    exact Or.inl ⟨i, x, hi, hx, rfl, on_some x i H hi hx⟩
  · have h' : ∀ i, i < m → ∀ x ∈ L i, (x : Int) ≠ k := fun i hi x hx e => h ⟨i, x, hi, hx, e⟩
    exact Or.inr ⟨h', on_none k H h'⟩

set_option maxHeartbeats 8000000 in
theorem same4 (i k : Int) (H : LinksAt w lo n m L) (R : Rows4 w B v m L) :
    Calls Try.prog 15 #[.pointer (some ⟨lo + 4, 0, none⟩), .agg #[.int .i64 (n : Nat), v], .int .i64 i, .int .i64 k] w fun e w' => e = .returned (.bool true) ∧ w.grownBy w' none := by
  have hnm := H.hn
  have hlen : ∀ j, j < m → (L j).length ≤ 4096 := fun j hj => Nat.le_trans (H.few j hj) hnm.1
  have hwl : (wantL L m i).length ≤ 4096 := by
    unfold wantL
    split
    · exact hlen _ (by omega)
    · simp
  have R0 := R
  obtain ⟨Rb, cp, V, rfl, h1, h2, hc⟩ := R
  have ka := World.grownBy_alloc w (.cells #[.int .i64 (n : Nat), .slice (some ⟨Rb, 0, none⟩) m cp] 30) none
  have kb := World.grownBy_alloc (w.alloc (.cells #[.int .i64 (n : Nat), .slice (some ⟨Rb, 0, none⟩) m cp] 30)) (.cells #[] 3) none
  have hs1 : (w.alloc (.cells #[.int .i64 (n : Nat), .slice (some ⟨Rb, 0, none⟩) m cp] 30)).heap.size = w.heap.size + 1 := by simp
  have o0 : ((w.alloc (.cells #[.int .i64 (n : Nat), .slice (some ⟨Rb, 0, none⟩) m cp] 30)).alloc (.cells #[] 3)).cell? ⟨w.heap.size, 0, none⟩ = some (.int .i64 (n : Nat)) := by simp
  have o1 : ((w.alloc (.cells #[.int .i64 (n : Nat), .slice (some ⟨Rb, 0, none⟩) m cp] 30)).alloc (.cells #[] 3)).cell? ⟨w.heap.size, 1, none⟩ = some (.slice (some ⟨Rb, 0, none⟩) m cp) := by simp
  have lit : RowOf ((w.alloc (.cells #[.int .i64 (n : Nat), .slice (some ⟨Rb, 0, none⟩) m cp] 30)).alloc (.cells #[] 3)) (w.heap.size + 1) (w.heap.size + 1) 0 [] := by
    have := lit_room (w.alloc (.cells #[.int .i64 (n : Nat), .slice (some ⟨Rb, 0, none⟩) m cp] 30)) (w.heap.size + 1) (by simp)
    rwa [hs1] at this
  have kab := ka.trans kb
  have H1 := H.kept (Only.of_none (lo := 0) (hi := 0) kab) (Or.inr (by omega))
  have R1 := R0.kept kab
  have hob : w.heap.size < ((w.alloc (.cells #[.int .i64 (n : Nat), .slice (some ⟨Rb, 0, none⟩) m cp] 30)).alloc (.cells #[] 3)).heap.size := by simp; omega
  have cI : Hid (∀ q : Nat, q < m → ((w.alloc (.cells #[.int .i64 (n : Nat), .slice (some ⟨Rb, 0, none⟩) m cp] 30)).alloc (.cells #[] 3)).cell? ⟨Rb, q, none⟩ = some (V q) ∧ Reads ((w.alloc (.cells #[.int .i64 (n : Nat), .slice (some ⟨Rb, 0, none⟩) m cp] 30)).alloc (.cells #[] 3)) (V q) (L q)) := Lib.hid fun q hq => ⟨(kab.cell_far ⟨Rb, q, none⟩ h2 (by simp)).trans (hc q hq).1, ((hc q hq).2.kept kab).reads⟩
  have HK := Lib.hid kab
  have HH := Lib.hid H1
  have HR := Lib.hid R1
  have HLEN := Lib.hid hlen
  have HLIT := Lib.hid lit.reads
  clear H R0 hc ka kb hs1 lit kab H1 R1 hlen
  go_enter Try.func15, Try.ntmps15
  go_upto_region 2 with fail
  generalize (w.alloc (.cells #[.int .i64 (n : Nat), .slice (some ⟨Rb, 0, none⟩) m cp] 30)).alloc (.cells #[] 3) = w1 at *
  generalize w.heap.size = ob at *
  by_cases hin : 0 ≤ i ∧ i < (m : Int)
  · obtain ⟨q, rfl⟩ := Int.eq_ofNat_of_zero_le hin.1
    have hq : q < m := by omega
    have eW : wantL L m (q : Int) = L q := by unfold wantL; rw [if_pos hin]; rfl
    obtain ⟨cq, rq⟩ := cI.out q hq
    have WR : Hid (∀ v : World, w1.grownBy v none → Reads v (V q) (wantL L m (q : Int))) := Lib.hid fun v kv => by rw [eW]; exact rq.kept kv
    obtain ⟨a, capV, hV, hrd⟩ := WR.out w1 (grow_refl _)
    rw [hV] at cq
    rw [hV] at WR
    have q1 : (0 : Int) ≤ (q : Int) := by omega
    have q2 : (q : Int) < (m : Int) := by omega
    clear eW hV rq
    rcases ask_first (q : Int) HH.out with ⟨f, r, hf, CF0⟩ | ⟨hf, CF0⟩
    · obtain ⟨b, o, hb0, hbl, hcell0⟩ := hrd 0 (by rw [hf]; simp)
      subst hb0
      have hcell : w1.cell? ⟨b, o, none⟩ = some (.int .i64 (f : Nat)) := by
        have e : (wantL L m (q : Int))[0]'(by rw [hf]; simp) = f := by simp [hf]
        rw [← e]; exact hcell0
      have hl0 : ((wantL L m (q : Int)).length : Int) = ((r.length + 1 : Nat) : Int) := by rw [hf]; simp
      have ql : (0 : Int) < ((wantL L m (q : Int)).length : Int) := by omega
      have ql2 : decide ((0 : Int) < ((wantL L m (q : Int)).length : Int)) = true := by simp; omega
      have CF := Lib.hid CF0
      clear CF0 hcell0 hf
      go_wp2_with fail
      refine CF.out.mono ?_
      rintro e w2 ⟨rfl, k2⟩
      have hc2 := (k2.cell_far ⟨b, o, none⟩ hbl (by simp)).trans hcell
      clear CF hcell
      have HH2 := Lib.hid (HH.out.kept (Only.of_none (lo := 0) (hi := 0) k2) (Or.inr (by omega)))
      have HR2 := Lib.hid (HR.out.kept k2)
      have p0 := (k2.cell_far ⟨ob, 0, none⟩ hob (by simp)).trans o0
      have p1 := (k2.cell_far ⟨ob, 0 + 1, none⟩ hob (by simp)).trans o1
      have CR := Lib.hid (ron_any k (n : Nat) HR2.out hnm.2 HLEN.out)
      have CLN : Hid (∀ v : World, w1.grownBy v none → Calls Try.prog 35 #[.pointer (some ⟨lo + 4, 0, none⟩), .int .i64 (q : Int)] v fun e w' => e = .returned (.int .i64 ((wantL L m (q : Int)).length : Nat)) ∧ v = w') := Lib.hid fun v kv => ask_len (q : Int) (HH.out.kept (Only.of_none (lo := 0) (hi := 0) kv) (Or.inr (by omega)))
      have CAL : Hid (∀ v : World, w1.grownBy v none → Calls Try.prog 37 #[.pointer (some ⟨lo + 4, 0, none⟩), .int .i64 (q : Int)] v fun e w' => ∃ u, e = .returned u ∧ v.grownBy w' none ∧ Reads w' u (wantL L m (q : Int))) := Lib.hid fun v kv => ask_all (q : Int) (HH.out.kept (Only.of_none (lo := 0) (hi := 0) kv) (Or.inr (by omega)))
      rcases ask_on k HH2.out with ⟨j, x, hj, hx, hxk, CON⟩ | ⟨hno, CON⟩
      · have CO := Lib.hid CON
        have HXX := Lib.hid (show ∃ x ∈ L j, (x : Int) = k from ⟨x, hx, hxk⟩)
        have qj : ¬ (j : Int) < 0 := by omega
        have qj1 : (0 : Int) ≤ (j : Int) := by omega
        have qj2 : (if (j : Int) < 0 then (0 : Int) else (j : Int)) = (j : Int) := by rw [if_neg qj]
        clear CON hx hxk
        go_wp2_with fail
        refine (CO.out).mono ?_
        rintro e w' ⟨rfl, rfl⟩
        go_wp2_with fail
        refine CR.out.mono ?_
        rintro e w3 ⟨k3, hres⟩
        obtain rfl : e = .returned (.int .i64 (j : Nat)) := by
          rcases hres with ⟨j', he, hj', x', hx', hxk'⟩ | ⟨_, hn'⟩
          · obtain ⟨x, hx, hxk⟩ := HXX.out
            have e1 : x' = x := by omega
            subst e1
            have e2 := HH.out.once j' j x' hj' hj hx' hx
            subst e2
            exact he
          · obtain ⟨x, hx, hxk⟩ := HXX.out
            exact absurd hxk (hn' j hj x hx)
        clear hres CR CO p0 p1
        have CLN3 := CLN.out w3 (k2.trans k3)
        have CL3 := Lib.hid CLN3
        clear CLN3 CLN
        go_wp2_with fail
        refine (CL3.out).mono ?_
        rintro e w' ⟨rfl, rfl⟩
        go_wp2_with fail
        refine (CAL.out _ (k2.trans k3)).mono ?_
        rintro e w4 ⟨u4, rfl, k4, r4⟩
        have CS := Lib.hid (same_yes r4 (WR.out w4 ((k2.trans k3).trans k4)) (by omega))
        go_wp2_with fail
        refine CS.out.mono ?_
        rintro e w5 ⟨rfl, k5⟩
        go_wp2
        go_ret
        exact ⟨rfl, HK.out.trans (((k2.trans k3).trans k4).trans k5)⟩
      · have CO := Lib.hid CON
        have HXX := Lib.hid hno
        clear CON hno
        go_wp2_with fail
        refine (CO.out).mono ?_
        rintro e w' ⟨rfl, rfl⟩
        go_wp2_with fail
        refine CR.out.mono ?_
        rintro e w3 ⟨k3, hres⟩
        obtain rfl : e = .returned (.int .i64 (-1)) := by
          rcases hres with ⟨j', he, hj', x', hx', hxk'⟩ | ⟨he, _⟩
          · exact absurd hxk' (HXX.out j' hj' x' hx')
          · exact he
        clear hres CR CO p0 p1
        have CLN3 := CLN.out w3 (k2.trans k3)
        have CL3 := Lib.hid CLN3
        clear CLN3 CLN
        go_wp2_with fail
        refine (CL3.out).mono ?_
        rintro e w' ⟨rfl, rfl⟩
        go_wp2_with fail
        refine (CAL.out _ (k2.trans k3)).mono ?_
        rintro e w4 ⟨u4, rfl, k4, r4⟩
        have CS := Lib.hid (same_yes r4 (WR.out w4 ((k2.trans k3).trans k4)) (by omega))
        go_wp2_with fail
        refine CS.out.mono ?_
        rintro e w5 ⟨rfl, k5⟩
        go_wp2
        go_ret
        exact ⟨rfl, HK.out.trans (((k2.trans k3).trans k4).trans k5)⟩
    · have hl0 : (wantL L m (q : Int)).length = 0 := by rw [hf]; rfl
      rw [hl0] at cq
      simp only [hl0] at WR
      have WLEN := Lib.hid hl0
      clear hl0 hrd
      have CF := Lib.hid CF0
      clear CF0 hf
      go_wp2_with fail
      refine CF.out.mono ?_
      rintro e w2 ⟨rfl, k2⟩
      clear CF
      have HH2 := Lib.hid (HH.out.kept (Only.of_none (lo := 0) (hi := 0) k2) (Or.inr (by omega)))
      have HR2 := Lib.hid (HR.out.kept k2)
      have p0 := (k2.cell_far ⟨ob, 0, none⟩ hob (by simp)).trans o0
      have p1 := (k2.cell_far ⟨ob, 0 + 1, none⟩ hob (by simp)).trans o1
      have CR := Lib.hid (ron_any k (n : Nat) HR2.out hnm.2 HLEN.out)
      have CLN : Hid (∀ v : World, w1.grownBy v none → Calls Try.prog 35 #[.pointer (some ⟨lo + 4, 0, none⟩), .int .i64 (q : Int)] v fun e w' => e = .returned (.int .i64 ((wantL L m (q : Int)).length : Nat)) ∧ v = w') := Lib.hid fun v kv => ask_len (q : Int) (HH.out.kept (Only.of_none (lo := 0) (hi := 0) kv) (Or.inr (by omega)))
      have CAL : Hid (∀ v : World, w1.grownBy v none → Calls Try.prog 37 #[.pointer (some ⟨lo + 4, 0, none⟩), .int .i64 (q : Int)] v fun e w' => ∃ u, e = .returned u ∧ v.grownBy w' none ∧ Reads w' u (wantL L m (q : Int))) := Lib.hid fun v kv => ask_all (q : Int) (HH.out.kept (Only.of_none (lo := 0) (hi := 0) kv) (Or.inr (by omega)))
      rcases ask_on k HH2.out with ⟨j, x, hj, hx, hxk, CON⟩ | ⟨hno, CON⟩
      · have CO := Lib.hid CON
        have HXX := Lib.hid (show ∃ x ∈ L j, (x : Int) = k from ⟨x, hx, hxk⟩)
        have qj : ¬ (j : Int) < 0 := by omega
        have qj1 : (0 : Int) ≤ (j : Int) := by omega
        have qj2 : (if (j : Int) < 0 then (0 : Int) else (j : Int)) = (j : Int) := by rw [if_neg qj]
        clear CON hx hxk
        go_wp2_with fail
        refine (CO.out).mono ?_
        rintro e w' ⟨rfl, rfl⟩
        go_wp2_with fail
        refine CR.out.mono ?_
        rintro e w3 ⟨k3, hres⟩
        obtain rfl : e = .returned (.int .i64 (j : Nat)) := by
          rcases hres with ⟨j', he, hj', x', hx', hxk'⟩ | ⟨_, hn'⟩
          · obtain ⟨x, hx, hxk⟩ := HXX.out
            have e1 : x' = x := by omega
            subst e1
            have e2 := HH.out.once j' j x' hj' hj hx' hx
            subst e2
            exact he
          · obtain ⟨x, hx, hxk⟩ := HXX.out
            exact absurd hxk (hn' j hj x hx)
        clear hres CR CO p0 p1
        have CLN3 := CLN.out w3 (k2.trans k3)
        rw [WLEN.out] at CLN3
        have CL3 := Lib.hid CLN3
        clear CLN3 CLN
        go_wp2_with fail
        refine (CL3.out).mono ?_
        rintro e w' ⟨rfl, rfl⟩
        go_wp2_with fail
        refine (CAL.out _ (k2.trans k3)).mono ?_
        rintro e w4 ⟨u4, rfl, k4, r4⟩
        have CS := Lib.hid (same_yes r4 (WR.out w4 ((k2.trans k3).trans k4)) (by omega))
        go_wp2_with fail
        refine CS.out.mono ?_
        rintro e w5 ⟨rfl, k5⟩
        go_wp2
        go_ret
        exact ⟨rfl, HK.out.trans (((k2.trans k3).trans k4).trans k5)⟩
      · have CO := Lib.hid CON
        have HXX := Lib.hid hno
        clear CON hno
        go_wp2_with fail
        refine (CO.out).mono ?_
        rintro e w' ⟨rfl, rfl⟩
        go_wp2_with fail
        refine CR.out.mono ?_
        rintro e w3 ⟨k3, hres⟩
        obtain rfl : e = .returned (.int .i64 (-1)) := by
          rcases hres with ⟨j', he, hj', x', hx', hxk'⟩ | ⟨he, _⟩
          · exact absurd hxk' (HXX.out j' hj' x' hx')
          · exact he
        clear hres CR CO p0 p1
        have CLN3 := CLN.out w3 (k2.trans k3)
        rw [WLEN.out] at CLN3
        have CL3 := Lib.hid CLN3
        clear CLN3 CLN
        go_wp2_with fail
        refine (CL3.out).mono ?_
        rintro e w' ⟨rfl, rfl⟩
        go_wp2_with fail
        refine (CAL.out _ (k2.trans k3)).mono ?_
        rintro e w4 ⟨u4, rfl, k4, r4⟩
        have CS := Lib.hid (same_yes r4 (WR.out w4 ((k2.trans k3).trans k4)) (by omega))
        go_wp2_with fail
        refine CS.out.mono ?_
        rintro e w5 ⟨rfl, k5⟩
        go_wp2
        go_ret
        exact ⟨rfl, HK.out.trans (((k2.trans k3).trans k4).trans k5)⟩
  · have WR : Hid (∀ v : World, w1.grownBy v none → Reads v (.slice (some ⟨ob + 1, 0, none⟩) 0 0) (wantL L m i)) := Lib.hid fun v kv => by
      have e : wantL L m i = [] := by unfold wantL; rw [if_neg hin]
      rw [e]; exact HLIT.out.kept kv
    have eW : wantL L m i = [] := by unfold wantL; rw [if_neg hin]
    have WLEN : Hid ((wantL L m i).length = 0) := Lib.hid (by rw [eW]; rfl)
    have CF : Hid (Calls Try.prog 33 #[.pointer (some ⟨lo + 4, 0, none⟩), .int .i64 i] w1 fun e w' => e = .returned (.tuple #[.int .i64 0, .bool false]) ∧ w1.grownBy w' none) := Lib.hid (first_none i HH.out (by omega))
    clear eW
    by_cases hneg : i < 0
    · have q1 : ¬ (0 : Int) ≤ i := by omega
      go_wp2_with fail
      refine CF.out.mono ?_
      rintro e w2 ⟨rfl, k2⟩
      clear CF
      have HH2 := Lib.hid (HH.out.kept (Only.of_none (lo := 0) (hi := 0) k2) (Or.inr (by omega)))
      have HR2 := Lib.hid (HR.out.kept k2)
      have p0 := (k2.cell_far ⟨ob, 0, none⟩ hob (by simp)).trans o0
      have p1 := (k2.cell_far ⟨ob, 0 + 1, none⟩ hob (by simp)).trans o1
      have CR := Lib.hid (ron_any k (n : Nat) HR2.out hnm.2 HLEN.out)
      have CLN : Hid (∀ v : World, w1.grownBy v none → Calls Try.prog 35 #[.pointer (some ⟨lo + 4, 0, none⟩), .int .i64 i] v fun e w' => e = .returned (.int .i64 ((wantL L m i).length : Nat)) ∧ v = w') := Lib.hid fun v kv => ask_len i (HH.out.kept (Only.of_none (lo := 0) (hi := 0) kv) (Or.inr (by omega)))
      have CAL : Hid (∀ v : World, w1.grownBy v none → Calls Try.prog 37 #[.pointer (some ⟨lo + 4, 0, none⟩), .int .i64 i] v fun e w' => ∃ u, e = .returned u ∧ v.grownBy w' none ∧ Reads w' u (wantL L m i)) := Lib.hid fun v kv => ask_all i (HH.out.kept (Only.of_none (lo := 0) (hi := 0) kv) (Or.inr (by omega)))
      rcases ask_on k HH2.out with ⟨j, x, hj, hx, hxk, CON⟩ | ⟨hno, CON⟩
      · have CO := Lib.hid CON
        have HXX := Lib.hid (show ∃ x ∈ L j, (x : Int) = k from ⟨x, hx, hxk⟩)
        have qj : ¬ (j : Int) < 0 := by omega
        have qj1 : (0 : Int) ≤ (j : Int) := by omega
        have qj2 : (if (j : Int) < 0 then (0 : Int) else (j : Int)) = (j : Int) := by rw [if_neg qj]
        clear CON hx hxk
        go_wp2_with fail
        refine (CO.out).mono ?_
        rintro e w' ⟨rfl, rfl⟩
        go_wp2_with fail
        refine CR.out.mono ?_
        rintro e w3 ⟨k3, hres⟩
        obtain rfl : e = .returned (.int .i64 (j : Nat)) := by
          rcases hres with ⟨j', he, hj', x', hx', hxk'⟩ | ⟨_, hn'⟩
          · obtain ⟨x, hx, hxk⟩ := HXX.out
            have e1 : x' = x := by omega
            subst e1
            have e2 := HH.out.once j' j x' hj' hj hx' hx
            subst e2
            exact he
          · obtain ⟨x, hx, hxk⟩ := HXX.out
            exact absurd hxk (hn' j hj x hx)
        clear hres CR CO p0 p1
        have CLN3 := CLN.out w3 (k2.trans k3)
        rw [WLEN.out] at CLN3
        have CL3 := Lib.hid CLN3
        clear CLN3 CLN
        go_wp2_with fail
        refine (CL3.out).mono ?_
        rintro e w' ⟨rfl, rfl⟩
        go_wp2_with fail
        refine (CAL.out _ (k2.trans k3)).mono ?_
        rintro e w4 ⟨u4, rfl, k4, r4⟩
        have CS := Lib.hid (same_yes r4 (WR.out w4 ((k2.trans k3).trans k4)) (by omega))
        go_wp2_with fail
        refine CS.out.mono ?_
        rintro e w5 ⟨rfl, k5⟩
        go_wp2
        go_ret
        exact ⟨rfl, HK.out.trans (((k2.trans k3).trans k4).trans k5)⟩
      · have CO := Lib.hid CON
        have HXX := Lib.hid hno
        clear CON hno
        go_wp2_with fail
        refine (CO.out).mono ?_
        rintro e w' ⟨rfl, rfl⟩
        go_wp2_with fail
        refine CR.out.mono ?_
        rintro e w3 ⟨k3, hres⟩
        obtain rfl : e = .returned (.int .i64 (-1)) := by
          rcases hres with ⟨j', he, hj', x', hx', hxk'⟩ | ⟨he, _⟩
          · exact absurd hxk' (HXX.out j' hj' x' hx')
          · exact he
        clear hres CR CO p0 p1
        have CLN3 := CLN.out w3 (k2.trans k3)
        rw [WLEN.out] at CLN3
        have CL3 := Lib.hid CLN3
        clear CLN3 CLN
        go_wp2_with fail
        refine (CL3.out).mono ?_
        rintro e w' ⟨rfl, rfl⟩
        go_wp2_with fail
        refine (CAL.out _ (k2.trans k3)).mono ?_
        rintro e w4 ⟨u4, rfl, k4, r4⟩
        have CS := Lib.hid (same_yes r4 (WR.out w4 ((k2.trans k3).trans k4)) (by omega))
        go_wp2_with fail
        refine CS.out.mono ?_
        rintro e w5 ⟨rfl, k5⟩
        go_wp2
        go_ret
        exact ⟨rfl, HK.out.trans (((k2.trans k3).trans k4).trans k5)⟩
    · have q1 : (0 : Int) ≤ i := by omega
      have q2 : ¬ i < (m : Int) := by omega
      go_wp2_with fail
      refine CF.out.mono ?_
      rintro e w2 ⟨rfl, k2⟩
      clear CF
      have HH2 := Lib.hid (HH.out.kept (Only.of_none (lo := 0) (hi := 0) k2) (Or.inr (by omega)))
      have HR2 := Lib.hid (HR.out.kept k2)
      have p0 := (k2.cell_far ⟨ob, 0, none⟩ hob (by simp)).trans o0
      have p1 := (k2.cell_far ⟨ob, 0 + 1, none⟩ hob (by simp)).trans o1
      have CR := Lib.hid (ron_any k (n : Nat) HR2.out hnm.2 HLEN.out)
      have CLN : Hid (∀ v : World, w1.grownBy v none → Calls Try.prog 35 #[.pointer (some ⟨lo + 4, 0, none⟩), .int .i64 i] v fun e w' => e = .returned (.int .i64 ((wantL L m i).length : Nat)) ∧ v = w') := Lib.hid fun v kv => ask_len i (HH.out.kept (Only.of_none (lo := 0) (hi := 0) kv) (Or.inr (by omega)))
      have CAL : Hid (∀ v : World, w1.grownBy v none → Calls Try.prog 37 #[.pointer (some ⟨lo + 4, 0, none⟩), .int .i64 i] v fun e w' => ∃ u, e = .returned u ∧ v.grownBy w' none ∧ Reads w' u (wantL L m i)) := Lib.hid fun v kv => ask_all i (HH.out.kept (Only.of_none (lo := 0) (hi := 0) kv) (Or.inr (by omega)))
      rcases ask_on k HH2.out with ⟨j, x, hj, hx, hxk, CON⟩ | ⟨hno, CON⟩
      · have CO := Lib.hid CON
        have HXX := Lib.hid (show ∃ x ∈ L j, (x : Int) = k from ⟨x, hx, hxk⟩)
        have qj : ¬ (j : Int) < 0 := by omega
        have qj1 : (0 : Int) ≤ (j : Int) := by omega
        have qj2 : (if (j : Int) < 0 then (0 : Int) else (j : Int)) = (j : Int) := by rw [if_neg qj]
        clear CON hx hxk
        go_wp2_with fail
        refine (CO.out).mono ?_
        rintro e w' ⟨rfl, rfl⟩
        go_wp2_with fail
        refine CR.out.mono ?_
        rintro e w3 ⟨k3, hres⟩
        obtain rfl : e = .returned (.int .i64 (j : Nat)) := by
          rcases hres with ⟨j', he, hj', x', hx', hxk'⟩ | ⟨_, hn'⟩
          · obtain ⟨x, hx, hxk⟩ := HXX.out
            have e1 : x' = x := by omega
            subst e1
            have e2 := HH.out.once j' j x' hj' hj hx' hx
            subst e2
            exact he
          · obtain ⟨x, hx, hxk⟩ := HXX.out
            exact absurd hxk (hn' j hj x hx)
        clear hres CR CO p0 p1
        have CLN3 := CLN.out w3 (k2.trans k3)
        rw [WLEN.out] at CLN3
        have CL3 := Lib.hid CLN3
        clear CLN3 CLN
        go_wp2_with fail
        refine (CL3.out).mono ?_
        rintro e w' ⟨rfl, rfl⟩
        go_wp2_with fail
        refine (CAL.out _ (k2.trans k3)).mono ?_
        rintro e w4 ⟨u4, rfl, k4, r4⟩
        have CS := Lib.hid (same_yes r4 (WR.out w4 ((k2.trans k3).trans k4)) (by omega))
        go_wp2_with fail
        refine CS.out.mono ?_
        rintro e w5 ⟨rfl, k5⟩
        go_wp2
        go_ret
        exact ⟨rfl, HK.out.trans (((k2.trans k3).trans k4).trans k5)⟩
      · have CO := Lib.hid CON
        have HXX := Lib.hid hno
        clear CON hno
        go_wp2_with fail
        refine (CO.out).mono ?_
        rintro e w' ⟨rfl, rfl⟩
        go_wp2_with fail
        refine CR.out.mono ?_
        rintro e w3 ⟨k3, hres⟩
        obtain rfl : e = .returned (.int .i64 (-1)) := by
          rcases hres with ⟨j', he, hj', x', hx', hxk'⟩ | ⟨he, _⟩
          · exact absurd hxk' (HXX.out j' hj' x' hx')
          · exact he
        clear hres CR CO p0 p1
        have CLN3 := CLN.out w3 (k2.trans k3)
        rw [WLEN.out] at CLN3
        have CL3 := Lib.hid CLN3
        clear CLN3 CLN
        go_wp2_with fail
        refine (CL3.out).mono ?_
        rintro e w' ⟨rfl, rfl⟩
        go_wp2_with fail
        refine (CAL.out _ (k2.trans k3)).mono ?_
        rintro e w4 ⟨u4, rfl, k4, r4⟩
        have CS := Lib.hid (same_yes r4 (WR.out w4 ((k2.trans k3).trans k4)) (by omega))
        go_wp2_with fail
        refine CS.out.mono ?_
        rintro e w5 ⟨rfl, k5⟩
        go_wp2
        go_ret
        exact ⟨rfl, HK.out.trans (((k2.trans k3).trans k4).trans k5)⟩
end
end Go.Proofs.Ytbkjdbimkofceaa
