/-
  The walk of the statement ChainPulls: numbers that are taken off, from wherever, leave the others in their order.
-/
import Derived.Test.YtgbodembcnppaaaChain6
import Derived.Maps.Own
import Derived.Maps.OwnSet
import Derived.Maps.Views
import Derived.DataShut
namespace Go.Proofs.Ytgbodembcnppaaa
open Go.RowKit Go.Lib Go.Maps

/-- The list behind the first j numbers that go to its end, each if it isn't on it. -/
def pushes (f : Nat → Nat) : Nat → List Nat
  | 0 => []
  | j + 1 => if f j ∈ pushes f j then pushes f j else pushes f j ++ [f j]
theorem pushes_succ (f : Nat → Nat) (j : Nat) : pushes f (j + 1) = if f j ∈ pushes f j then pushes f j else pushes f j ++ [f j] := rfl
theorem pushes_mem (f : Nat → Nat) (x : Nat) : ∀ j, x ∈ pushes f j ↔ ∃ t, t < j ∧ f t = x
  | 0 => by simp [pushes]
  | j + 1 => by
    have ih := pushes_mem f x j
    unfold pushes
    split
    · rename_i h
      obtain ⟨t, ht, e⟩ := (pushes_mem f (f j) j).1 h
      rw [ih]
      constructor
      · rintro ⟨t, h1, h2⟩; exact ⟨t, by omega, h2⟩
      · rintro ⟨s, h1, h2⟩
        by_cases e2 : s = j
        · subst e2; exact ⟨t, ht, e.trans h2⟩
        · exact ⟨s, by omega, h2⟩
    · simp only [List.mem_append, ih, List.mem_singleton]
      constructor
      · rintro (⟨t, h1, h2⟩ | rfl)
        · exact ⟨t, by omega, h2⟩
        · exact ⟨j, by omega, rfl⟩
      · rintro ⟨s, h1, h2⟩
        by_cases e2 : s = j
        · subst e2; exact Or.inr h2.symm
        · exact Or.inl ⟨s, by omega, h2⟩
theorem pushes_nodup (f : Nat → Nat) : ∀ j, (pushes f j).Nodup
  | 0 => List.nodup_nil
  | j + 1 => by
    unfold pushes
    split
    · exact pushes_nodup f j
    · rename_i h
      exact List.nodup_append.2 ⟨pushes_nodup f j, by simp, fun a ha b hb e => by simp at hb; subst hb; subst e; exact h ha⟩
theorem pushes_len (f : Nat → Nat) : ∀ j, (pushes f j).length ≤ j
  | 0 => by simp [pushes]
  | j + 1 => by
    have := pushes_len f j
    unfold pushes
    split
    · omega
    · simp; omega
theorem pushed_one (f : Nat → Nat) (j : Nat) : ∀ i, i < 1 → pushed (fun _ => pushes f j) 1 0 (f j) i = pushes f (j + 1) := by
  intro i hi
  have : i = 0 := by omega
  subst this
  rw [pushes_succ]
  unfold pushed
  by_cases h : f j ∈ pushes f j
  · have : free (fun _ => pushes f j) 1 (f j) = false := by simp [free, List.range_succ, h]
    rw [this, if_pos h]; simp
  · have : free (fun _ => pushes f j) 1 (f j) = true := by simp [free, List.range_succ, h]
    rw [this, if_neg h]; simp [upL]

/-- How often a number came among the first t. -/
def tally (g : Nat → Nat) (x : Nat) : Nat → Nat
  | 0 => 0
  | t + 1 => tally g x t + (if g t = x then 1 else 0)
theorem tally_succ (g : Nat → Nat) (x t : Nat) : tally g x (t + 1) = tally g x t + (if g t = x then 1 else 0) := rfl
theorem tally_le (g : Nat → Nat) (x : Nat) : ∀ t, tally g x t ≤ t
  | 0 => Nat.le_refl _
  | t + 1 => by have := tally_le g x t; unfold tally; split <;> omega
theorem tally_zero (g : Nat → Nat) (x : Nat) : ∀ t, tally g x t = 0 ↔ ∀ s, s < t → g s ≠ x
  | 0 => by simp [tally]
  | t + 1 => by
    have ih := tally_zero g x t
    unfold tally
    constructor
    · intro h s hs
      by_cases e : s = t
      · subst e; intro e2; rw [if_pos e2] at h; omega
      · exact ih.1 (by omega) s (by omega)
    · intro h
      rw [if_neg (h t (by omega)), ih.2 fun s hs => h s (by omega)]

def left (f g : Nat → Nat) (len t : Nat) : List Nat := (pushes f len).filter fun x => tally g x t == 0
theorem left_zero (f g : Nat → Nat) (len : Nat) : left f g len 0 = pushes f len := by simp [left, tally]
theorem left_nodup (f g : Nat → Nat) (len t : Nat) : (left f g len t).Nodup := (pushes_nodup f len).filter _
theorem left_succ (f g : Nat → Nat) (len t : Nat) : (left f g len t).erase (g t) = left f g len (t + 1) := by
  rw [(left_nodup f g len t).erase_eq_filter]
  unfold left
  rw [List.filter_filter]
  congr 1
  funext x
  show (x != g t && tally g x t == 0) = (tally g x (t + 1) == 0)
  rw [tally_succ]
  by_cases e : g t = x
  · subst e
    rw [if_pos rfl]
    have h1 : (g t != g t) = false := by simp
    rw [h1, Bool.false_and]
    symm
    rw [beq_eq_false_iff_ne]; omega
  · rw [if_neg e, Nat.add_zero]
    have : (x != g t) = true := by rw [bne_iff_ne]; exact fun h => e h.symm
    rw [this, Bool.true_and]

/-- What the statement puts together from the first j numbers. -/
def wants (f g : Nat → Nat) (t j : Nat) : List Nat := (pushes f j).filter fun x => tally g x t == 0
theorem wants_step (f g : Nat → Nat) (t j : Nat) : wants f g t (j + 1) = if tally f (f j) (j + 1) = 1 ∧ tally g (f j) t = 0 then wants f g t j ++ [f j] else wants f g t j := by
  unfold wants
  rw [pushes_succ]
  have hT : tally f (f j) (j + 1) = tally f (f j) j + 1 := by rw [tally_succ, if_pos rfl]
  rw [hT]
  by_cases h : f j ∈ pushes f j
  · rw [if_pos h, if_neg]
    rintro ⟨h1, _⟩
    have h2 : tally f (f j) j = 0 := by omega
    obtain ⟨s, hs, e⟩ := (pushes_mem f (f j) j).1 h
    exact (tally_zero f (f j) j).1 h2 s hs e
  · rw [if_neg h, List.filter_append]
    have h0 : tally f (f j) j = 0 := (tally_zero f (f j) j).2 fun s hs e => h ((pushes_mem f (f j) j).2 ⟨s, hs, e⟩)
    by_cases h2 : tally g (f j) t = 0
    · rw [if_pos ⟨by omega, h2⟩]; simp [h2]
    · rw [if_neg fun hh => h2 hh.2]; simp [h2]

/-- The map has each number's count. -/
def Tally (D : DataW Unit) (c : Nat → Nat) : Prop := ∀ k : Nat, D.atKey (.int .i64 (k : Int)) (.lit (.int .i64 0)) = .lit (.int .i64 (c k : Nat))
theorem tally_nil : Tally (.map []) (fun _ => 0) := fun _ => rfl
theorem tally_put {D : DataW Unit} {c c' : Nat → Nat} {k v : Nat} (h : Tally D c) (hm : IsMap D) (hv : c' k = v) (ho : ∀ i, i ≠ k → c' i = c i) : Tally (D.put (.int .i64 (k : Int)) (.lit (.int .i64 (v : Int)))) c' := by
  have hkl : WideAt.IsKeyLit (.int .i64 (k : Int)) := trivial
  intro i
  by_cases e : i = k
  · subst e; rw [atKey_put_same hm hkl, hv]
  · rw [atKey_put_other (by intro h; injection h with _ h2; omega), h i, ho i e]

theorem law_int : Keyed Try.prog 3 := int_keyed Try.underlying3
theorem zero_int (w : World) : (zeroValue 3).run Try.prog w = .ok (.int .i64 0) w := rfl
theorem wf_small (k : Nat) (h : k ≤ 4096) : (Lit.int .i64 (k : Int)).wf = true := by
  rw [Lit.wf_int_iff]
  exact ⟨by show (-9223372036854775808 : Int) ≤ _; omega, by show _ ≤ (9223372036854775807 : Int); omega⟩

theorem ownsMap_only {w w' : World} {b j lo hi : Nat} {D : DataW Unit} (h : w.ownsMap Try.prog 3 (plainElem Try.prog 3) b j D) (k : Only lo hi w w') (hb : b < lo ∨ hi ≤ b) : w'.ownsMap Try.prog 3 (plainElem Try.prog 3) b j D := by
  obtain ⟨es, clock, hh, rest⟩ := h
  have hs : b < w.heap.size := (Array.getElem?_eq_some_iff.1 hh).1
  exact ⟨es, clock, (k.block b hs hb).trans hh, rest⟩

theorem tally_lookup {w : World} {b j : Nat} {D : DataW Unit} {c : Nat → Nat} (hm : w.ownsMap Try.prog 3 (plainElem Try.prog 3) b j D) (hT : Tally D c) (k : Nat) (hk : k < 64) :
    (Instr.lookup 48 (.map (some b)) (.int .i64 (k : Int)) false).run Try.prog w = .ok (.int .i64 (c k : Nat)) w := by
  have hkey := keyOf_int_mk Try.underlying3 (wf_small k (by omega))
  obtain ⟨v, hrun, hat, _⟩ := hm.lookup_int law_int Try.underlying48 Try.underlying3 (zero_int w) hkey
  have e := hat.symm.trans (hT k)
  have e2 : v = (c k : Nat) := by simpa using e
  rw [← e2]
  exact hrun

set_option maxHeartbeats 8000000 in
theorem pulls_walk (sa : Option Addr) (len cap sb off : Nat) (zs : Nat → Int) (sa1 : Option Addr) (len1 cap1 sb1 off1 : Nat) (zs1 : Nat → Int) (w : World)
    (_hm : len ≤ maxLen) (hsa : 0 < len → sa = some ⟨sb, off, none⟩ ∧ sb < w.heap.size) (hz : ∀ j, j < len → w.cell? ⟨sb, off + j, none⟩ = some (.int .i64 (zs j)))
    (_hm1 : len1 ≤ maxLen) (hsa1 : 0 < len1 → sa1 = some ⟨sb1, off1, none⟩ ∧ sb1 < w.heap.size) (hz1 : ∀ j, j < len1 → w.cell? ⟨sb1, off1 + j, none⟩ = some (.int .i64 (zs1 j))) :
    Calls Try.prog 5 #[.slice sa len cap, .slice sa1 len1 cap1] w fun e w' => e = .returned (.bool true) ∧ w.grownBy w' none := by
  have HSA := Lib.hid hsa
  have HZ := Lib.hid hz
  have HSA1 := Lib.hid hsa1
  have HZ1 := Lib.hid hz1
  clear hsa hz hsa1 hz1 _hm _hm1
  by_cases hl : 50 < len
  · go_enter Try.func5, Try.ntmps5
    go_wp2_with fail
    refine (alive4 _).mono ?_
    rintro e w0 ⟨rfl, hG0⟩
    go_wp2
    go_ret
    exact ⟨rfl, hG0⟩
  by_cases hl1 : 50 < len1
  · go_enter Try.func5, Try.ntmps5
    go_wp2_with fail
    refine (alive4 _).mono ?_
    rintro e w0 ⟨rfl, hG0⟩
    go_wp2
    go_ret
    exact ⟨rfl, hG0⟩
  go_enter Try.func5, Try.ntmps5
  go_wp2_with fail
  refine (alive4 _).mono ?_
  rintro e w0 ⟨rfl, hG0⟩
  go_wp2_with fail
  refine (new_made 64 1 64 1 (by decide) (by decide) _).mono ?_
  rintro e w1 ⟨lo, rfl, hlo, hk1, H1⟩
  have hG1 := grow_to hG0 hk1
  have hloW : w.heap.size ≤ lo := Nat.le_trans hG0.size hlo
  have hmk : ∀ W : World, (Instr.makeMap 48 none).run Try.prog W = .ok (.map (some W.heap.size)) (W.alloc (.map #[] 0)) := fun W => run_makeMap _ W
  have k2 := World.grownBy_alloc w1 (.map #[] 0) none
  have k3 := World.grownBy_alloc (w1.alloc (.map #[] 0)) (.map #[] 0) none
  have hm0 := (World.ownsMap_made (H := Unit) w1 Try.prog 3 (plainElem Try.prog 3)).kept k3 (by simp)
  have hm1 := World.ownsMap_made (H := Unit) (w1.alloc (.map #[] 0)) Try.prog 3 (plainElem Try.prog 3)
  have H2 := H1.kept (Only.of_none (lo := 0) (hi := 0) (k2.trans k3)) (Or.inr (by omega))
  have hG2 := grow_to hG1 (k2.trans k3)
  have hB1 := H1.sz
  have e1 : (w1.alloc (.map #[] 0)).heap.size = w1.heap.size + 1 := by simp
  have hB2 : w1.heap.size + 2 ≤ ((w1.alloc (.map #[] 0)).alloc (.map #[] 0)).heap.size := by simp
  rw [e1] at hm1
  clear hG0 hk1 hlo H1 hG1 k2 k3
  go_wp2
  clear hmk e1
  generalize (w1.alloc (.map #[] 0)).alloc (.map #[] 0) = wx at hm0 hm1 H2 hG2 hB2 ⊢
  generalize w1.heap.size = mb at hB1 hB2 hm0 hm1 ⊢
  have hmW : w.heap.size ≤ mb := by omega
  clear w1 w0
  obtain ⟨f, hf⟩ : ∃ f : Nat → Nat, f = fun t => mk (zs t) := ⟨_, rfl⟩
  obtain ⟨g, hg⟩ : ∃ g : Nat → Nat, g = fun t => mk (zs1 t) := ⟨_, rfl⟩
  have HF : Hid (∀ t, mk (zs t) = f t) := Lib.hid fun t => by rw [hf]
  have HGG : Hid (∀ t, mk (zs1 t) = g t) := Lib.hid fun t => by rw [hg]
  clear hf hg
  go_loopw [30] (fun it wr => ∃ j : Nat, j ≤ len ∧ it = .int .i64 j ∧ LinksAt wr lo 64 1 (fun _ => pushes f j) ∧ wr.ownsMap Try.prog 3 (plainElem Try.prog 3) mb 0 (.map []) ∧ wr.ownsMap Try.prog 3 (plainElem Try.prog 3) (mb + 1) 0 (.map []) ∧ w.grownBy wr none ∧ mb + 2 ≤ wr.heap.size) (fun it _ => len - (intOf it).toNat)
  case atStart => exact ⟨0, Nat.zero_le _, rfl, H2, hm0, hm1, hG2, hB2⟩
  case round =>
    obtain ⟨j, hj, rfl, H, m0, m1, hG, hB⟩ := hrel
    clear H2 hm0 hm1 hG2 hB2
    by_cases hlt : j < len
    · obtain ⟨rfl, hsb⟩ := HSA.out (by omega)
      have hc : wr.cell? ⟨sb, off + j, none⟩ = some (.int .i64 (zs j)) := (hG.cell_far ⟨sb, off + j, none⟩ hsb (by simp)).trans (HZ.out j hlt)
      have hv := mk_lt (zs j)
      have hV := mask_mk (zs j)
      have hfj := HF.out j
      generalize zs j = z at *
      rw [hfj] at hv hV
      have c1 := Lib.hid (push_g 0 (f j) H (by decide) hv)
      have hp := Lib.hid (pushed_one f j)
      clear hfj
      go_wp2_with fail
      refine c1.out.mono ?_
      rintro e w3 ⟨rfl, k3, H3⟩
      have H3' := H3.congr hp.out
      have m03 := ownsMap_only m0 k3 (by omega)
      have m13 := ownsMap_only m1 k3 (by omega)
      have hG3 := Only.on hG k3 hloW
      have hB3 : mb + 2 ≤ w3.heap.size := Nat.le_trans hB k3.size
      clear H m0 m1 hG hB c1 k3 H3 hc hp
      go_wp2
      go_roundw
      case rel => exact ⟨j + 1, by omega, by go_num, H3', m03, m13, hG3, hB3⟩
      case measure => simp [intOf]; omega
    · have he : j = len := by omega
      subst he
      have H0 : LinksAt wr lo 64 1 (fun _ => left f g j 0) := by rw [left_zero]; exact H
      clear H
      have T0 : Hid (Tally (.map []) (fun x => tally g x 0)) := Lib.hid tally_nil
      go_wp2
      go_loopw [41] (fun it wr => ∃ (t : Nat) (D : DataW Unit), t ≤ len1 ∧ it = .int .i64 t ∧ LinksAt wr lo 64 1 (fun _ => left f g j t) ∧ wr.ownsMap Try.prog 3 (plainElem Try.prog 3) mb t D ∧ Hid (Tally D (fun x => tally g x t)) ∧ wr.ownsMap Try.prog 3 (plainElem Try.prog 3) (mb + 1) 0 (.map []) ∧ w.grownBy wr none ∧ mb + 2 ≤ wr.heap.size) (fun it _ => len1 - (intOf it).toNat)
      case atStart => exact ⟨0, _, Nat.zero_le _, rfl, H0, m0, T0, m1, hG, hB⟩
      case round =>
        obtain ⟨t, D, ht, rfl, H, m0, hT, m1, hG, hB⟩ := hrel
        clear H0 T0
        by_cases hlt2 : t < len1
        · obtain ⟨rfl, hsb1⟩ := HSA1.out (by omega)
          have hc : wr.cell? ⟨sb1, off1 + t, none⟩ = some (.int .i64 (zs1 t)) := (hG.cell_far ⟨sb1, off1 + t, none⟩ hsb1 (by simp)).trans (HZ1.out t hlt2)
          have hv := mk_lt (zs1 t)
          have hV := mask_mk (zs1 t)
          have hgt := HGG.out t
          generalize zs1 t = z at *
          rw [hgt] at hv hV
          have c1 := Lib.hid (pull_g (g t) H)
          have hs := Lib.hid (left_succ f g j t)
          have htl := tally_le g (g t) t
          have hts := Lib.hid (show tally g (g t) (t + 1) = tally g (g t) t + 1 by rw [tally_succ, if_pos rfl])
          have hkey := keyOf_int_mk Try.underlying3 (wf_small (g t) (by omega))
          have hT3 := Lib.hid (tally_put (c' := fun x => tally g x (t + 1)) (v := tally g (g t) t + 1) hT.out m0.isMap hts.out (fun i hi => by show tally g i (t + 1) = _; rw [tally_succ, if_neg (fun e => hi e.symm)]; rfl))
          clear hgt
          go_wp2_with fail
          refine c1.out.mono ?_
          rintro e w3 ⟨rfl, k3, H3⟩
          have H3' : LinksAt w3 lo 64 1 (fun _ => left f g j (t + 1)) := H3.congr fun _ _ => hs.out
          have m03 := ownsMap_only m0 k3 (by omega)
          have m13 := ownsMap_only m1 k3 (by omega)
          have hG3 := Only.on hG k3 hloW
          have hB3 : mb + 2 ≤ w3.heap.size := Nat.le_trans hB k3.size
          have hrun := tally_lookup m03 hT.out (g t) hv
          clear H m0 m1 hG hB c1 k3 H3 hc hs hts hT
          generalize tally g (g t) t = v at *
          go_wp2_with (at_mapUpdate; refine wpList_mapUpdate_own _ rfl _ _ _ 48 rfl 3 3 law_int Try.underlying48 (plainElem Try.prog 3) mb t D rfl m03 (by unfold maxLen; omega) _ _ _ rfl rfl hkey _ [] (plainElem_int Try.underlying3 (wf_small (v + 1) (by omega))) ?_; intro w5 hm5 k5)
          have H5 := H3'.kept (Only.of_some (lo := mb) (hi := mb + 1) k5 (Nat.le_refl _) (by omega)) (Or.inl hB1)
          have hG5 := grow_on hG3 k5 hmW
          have m15 := m13.kept k5 (fun h => by cases h)
          exact ⟨⟨t + 1, _, by omega, by go_num, H5, hm5, hT3, m15, hG5, Nat.le_trans hB3 k5.size⟩, by simp [intOf]; omega⟩
        · have he2 : t = len1 := by omega
          subst he2
          have hR0 := lit_room wr (mb + 2) hB
          have k0 := World.grownBy_alloc wr (.cells #[] 3) none
          have H0 := H.kept (Only.of_none (lo := 0) (hi := 0) k0) (Or.inr (by omega))
          have n0 := m0.kept k0 (by simp)
          have n1 := m1.kept k0 (by simp)
          have hG0 := grow_to hG k0
          have hB0 : mb + 2 ≤ (wr.alloc (.cells #[] 3)).heap.size := Nat.le_trans hB k0.size
          have T1 : Hid (Tally (.map []) (fun x => tally f x 0)) := Lib.hid tally_nil
          obtain ⟨i0, hi0, hz0, hz1, hz2⟩ := int_info
          have I0 := Lib.hid hi0
          have I1 := Lib.hid hz0
          have I2 := Lib.hid hz1
          have I3 := Lib.hid hz2
          clear hi0 hz0 hz1 hz2 H m0 m1 hG k0
          go_wp2
          generalize wr.alloc (.cells #[] 3) = wy at hR0 H0 n0 n1 hG0 hB0 ⊢
          generalize wr.heap.size = r0 at hR0 ⊢
          clear wr hB
          go_loopw [12, 58] (fun av it wr => ∃ (i r cp : Nat) (D' : DataW Unit), i ≤ j ∧ it = .int .i64 i ∧ av = .slice (some ⟨r, 0, none⟩) (wants f g t i).length cp ∧ RowOf wr (mb + 2) r cp (wants f g t i) ∧ LinksAt wr lo 64 1 (fun _ => left f g j t) ∧
              wr.ownsMap Try.prog 3 (plainElem Try.prog 3) mb t D ∧ wr.ownsMap Try.prog 3 (plainElem Try.prog 3) (mb + 1) i D' ∧ Hid (Tally D' (fun x => tally f x i)) ∧ w.grownBy wr none ∧ mb + 2 ≤ wr.heap.size) (fun _ it _ => j - (intOf it).toNat)
          case atStart => exact ⟨0, r0, 0, _, Nat.zero_le _, rfl, rfl, hR0, H0, n0, n1, T1, hG0, hB0⟩
          case round =>
            obtain ⟨i, r, cp, D', hi, rfl, rfl, hown, H, m0, m1, hT1, hG, hB⟩ := hrel
            clear hR0 H0 n0 n1 T1 hG0 hB0
            have hwl : (wants f g t i).length ≤ i := Nat.le_trans (List.length_filter_le _ _) (pushes_len f i)
            have hrr := hown.lt
            by_cases hlt3 : i < j
            · obtain ⟨rfl, hsb⟩ := HSA.out (by omega)
              have hc : wr.cell? ⟨sb, off + i, none⟩ = some (.int .i64 (zs i)) := (hG.cell_far ⟨sb, off + i, none⟩ hsb (by simp)).trans (HZ.out i hlt3)
              have hv := mk_lt (zs i)
              have hV := mask_mk (zs i)
              have hfi := HF.out i
              generalize zs i = z at *
              rw [hfi] at hv hV
              have htl := tally_le f (f i) i
              have hts := Lib.hid (show tally f (f i) (i + 1) = tally f (f i) i + 1 by rw [tally_succ, if_pos rfl])
              have hkey := keyOf_int_mk Try.underlying3 (wf_small (f i) (by omega))
              have hT3 := Lib.hid (tally_put (c' := fun x => tally f x (i + 1)) (v := tally f (f i) i + 1) hT1.out m1.isMap hts.out (fun q hq => by show tally f q (i + 1) = _; rw [tally_succ, if_neg (fun e => hq e.symm)]; rfl))
              have hrun := tally_lookup m1 hT1.out (f i) hv
              have hws := Lib.hid (wants_step f g t i)
              have LG : Hid (∀ wz : World, wz.ownsMap Try.prog 3 (plainElem Try.prog 3) mb t D → (Instr.lookup 48 (.map (some mb)) (.int .i64 (f i : Int)) false).run Try.prog wz = .ok (.int .i64 (tally g (f i) t : Nat)) wz) := Lib.hid fun wz hz => tally_lookup hz hT.out (f i) hv
              have LS : Hid (∀ (wz : World) (D2 : DataW Unit), wz.ownsMap Try.prog 3 (plainElem Try.prog 3) (mb + 1) (i + 1) D2 → Tally D2 (fun x => tally f x (i + 1)) → (Instr.lookup 48 (.map (some (mb + 1))) (.int .i64 (f i : Int)) false).run Try.prog wz = .ok (.int .i64 (tally f (f i) i + 1 : Nat)) wz) := Lib.hid fun wz D2 hz hT2 => hts.out ▸ tally_lookup hz hT2 (f i) hv
              clear hfi hT1
              generalize tally f (f i) i = v at *
              generalize tally g (f i) t = u at *
              by_cases hv0 : v = 0
              · subst hv0
                by_cases hu0 : u = 0
                · subst hu0
                  have hwn : wants f g t (i + 1) = wants f g t i ++ [f i] := by rw [hws.out, hts.out]; simp
                  have HWN := Lib.hid hwn
                  clear hwn hws hts
                  generalize f i = k at *
                  go_wp2_with (first
                    | (
                      at_mapUpdate
                      refine wpList_mapUpdate_own _ rfl _ _ _ 48 rfl 3 3 law_int Try.underlying48 (plainElem Try.prog 3) (mb + 1) i D' rfl m1 (by unfold maxLen; omega) _ _ _ rfl rfl hkey _ [] (plainElem_int Try.underlying3 (wf_small (0 + 1) (by omega))) ?_
                      intro w5 m15 k5
                      have H5 := H.kept (Only.of_some (lo := mb + 1) (hi := mb + 2) k5 (Nat.le_refl _) (by omega)) (Or.inl (by omega))
                      have hG5 := grow_on hG k5 (by omega)
                      have hB5 := Nat.le_trans hB k5.size
                      have m05 := m0.kept k5 (fun h => by cases h)
                      have hown5 := hown.kept k5 (fun h => by cases h; omega)
                      have hr1 := LS.out w5 _ m15 hT3.out
                      have hr2 := LG.out w5 m05
                      have hrr5 := hown5.lt
                      unfold RowOf at hown5
                      clear hrun H m0 m1 hG hB hown k5
                      )
                    | (
                      at_builtin
                      refine wpList_append_own _ rfl _ _ 40 rfl (mb + 2) 3 i0 (.int .i64 0) 1 8 Try.underlying40 I0.out I1.out I2.out I3.out rfl (by decide) _ _ _ rfl (World.ownsRow.alloc hown5 _) ⟨w5.heap.size, 0, none⟩ 1 1 [.int .i64 (k : Int)] rfl rfl (cell_one_new _ _ _) (fun x hx => by simp at hx; subst hx; rfl) (by unfold maxLen; omega) (by omega) (by simp; omega) ?_
                      intro v' w6 hown' hgrow3 hnil3
                      have hgr : (w5.alloc (.cells #[.int .i64 (k : Int)] 3)).grownBy w6 (some r) := hgrow3
                      have hnn : v' ≠ .slice none 0 0 := fun h => absurd (hnil3.1 h).2 (by decide)
                      have k4 := World.grownBy_alloc w5 (.cells #[.int .i64 (k : Int)] 3) none
                      have hG6 : w.grownBy w6 none := grow_on (grow_to hG5 k4) hgr (by omega)
                      have hB6 := Nat.le_trans hB5 (Nat.le_trans k4.size hgr.size)
                      have H6 := (H5.kept (Only.of_none (lo := 0) (hi := 0) k4) (Or.inr (by omega))).kept (Only.of_some (lo := r) (hi := r + 1) hgr (Nat.le_refl _) (by omega)) (Or.inl (by omega))
                      have m06 := (m05.kept k4 (by simp)).kept hgr (fun h => by cases h; omega)
                      have m16 := (m15.kept k4 (by simp)).kept hgr (fun h => by cases h; omega)
                      obtain ⟨r', cp', rfl, hown6⟩ := row_of_owns hown' (F := wants f g t (i + 1)) (by rw [HWN.out]; simp) (by rw [HWN.out, ints_snoc]) hnn
                      clear hgrow3 hnil3 hgr hown' hnn k4 hG5 hB5 hown5 H5 m05 m15 hr1 hr2
                      ))
                  exact ⟨⟨i + 1, r', cp', _, by omega, by go_num, rfl, hown6, H6, m06, m16, hT3, hG6, hB6⟩, by simp [intOf]; omega⟩
                · have hwn : wants f g t (i + 1) = wants f g t i := by rw [hws.out, hts.out]; simp [hu0]
                  have HWN := Lib.hid hwn
                  have hu1 : ((u : Int) == 0) = false := by rw [beq_eq_false_iff_ne]; omega
                  clear hwn hws hts hu0
                  generalize f i = k at *
                  go_wp2_with (
                    at_mapUpdate
                    refine wpList_mapUpdate_own _ rfl _ _ _ 48 rfl 3 3 law_int Try.underlying48 (plainElem Try.prog 3) (mb + 1) i D' rfl m1 (by unfold maxLen; omega) _ _ _ rfl rfl hkey _ [] (plainElem_int Try.underlying3 (wf_small (0 + 1) (by omega))) ?_
                    intro w5 m15 k5
                    have H5 := H.kept (Only.of_some (lo := mb + 1) (hi := mb + 2) k5 (Nat.le_refl _) (by omega)) (Or.inl (by omega))
                    have hG5 := grow_on hG k5 (by omega)
                    have hB5 := Nat.le_trans hB k5.size
                    have m05 := m0.kept k5 (fun h => by cases h)
                    have hown5 := hown.kept k5 (fun h => by cases h; omega)
                    have hr1 := LS.out w5 _ m15 hT3.out
                    have hr2 := LG.out w5 m05
                    clear hrun H m0 m1 hG hB hown k5
                    )
                  exact ⟨⟨i + 1, r, cp, _, by omega, by go_num, by rw [HWN.out], by rw [HWN.out]; exact hown5, H5, m05, m15, hT3, hG5, hB5⟩, by simp [intOf]; omega⟩
              · have hwn : wants f g t (i + 1) = wants f g t i := by rw [hws.out, hts.out]; simp [hv0]
                have HWN := Lib.hid hwn
                have hu1 : (((v + 1 : Nat) : Int) == 1) = false := by rw [beq_eq_false_iff_ne]; omega
                have hu2 : ((v : Int) + 1 == 1) = false := by rw [beq_eq_false_iff_ne]; omega
                clear hwn hws hts hv0
                generalize f i = k at *
                go_wp2_with (
                  at_mapUpdate
                  refine wpList_mapUpdate_own _ rfl _ _ _ 48 rfl 3 3 law_int Try.underlying48 (plainElem Try.prog 3) (mb + 1) i D' rfl m1 (by unfold maxLen; omega) _ _ _ rfl rfl hkey _ [] (plainElem_int Try.underlying3 (wf_small (v + 1) (by omega))) ?_
                  intro w5 m15 k5
                  have H5 := H.kept (Only.of_some (lo := mb + 1) (hi := mb + 2) k5 (Nat.le_refl _) (by omega)) (Or.inl (by omega))
                  have hG5 := grow_on hG k5 (by omega)
                  have hB5 := Nat.le_trans hB k5.size
                  have m05 := m0.kept k5 (fun h => by cases h)
                  have hown5 := hown.kept k5 (fun h => by cases h; omega)
                  have hr1 := LS.out w5 _ m15 hT3.out
                  have hr2 := LG.out w5 m05
                  clear hrun H m0 m1 hG hB hown k5
                  )
                exact ⟨⟨i + 1, r, cp, _, by omega, by go_num, by rw [HWN.out], by rw [HWN.out]; exact hown5, H5, m05, m15, hT3, hG5, hB5⟩, by simp [intOf]; omega⟩
            · have he3 : i = j := by omega
              subst he3
              have hlw : left f g i t = wants f g t i := rfl
              have ca := all_in 0 H (by decide)
              simp only [hlw] at ca
              have CA := Lib.hid ca
              have HH := Lib.hid H
              have HO := Lib.hid hown
              clear H ca hown hlw
              have hwl2 : (wants f g t i).length ≤ 1000000 := by omega
              go_wp2_with fail
              refine CA.out.mono ?_
              rintro e w6 ⟨r6, cp6, rfl, k6, R6⟩
              have C7 := Lib.hid (same_yes R6.reads (HO.out.kept k6 (by simp)).reads hwl2)
              have hG6 := grow_to hG k6
              have H6 := Lib.hid (HH.out.kept (Only.of_none (lo := 0) (hi := 0) k6) (Or.inr (by omega)))
              clear CA HO HH R6 k6 hG
              go_wp2_with fail
              refine C7.out.mono ?_
              rintro e w7 ⟨rfl, k7⟩
              have hG7 := grow_to hG6 k7
              have cl := len_in 0 (H6.out.kept (Only.of_none (lo := 0) (hi := 0) k7) (Or.inr (by omega))) (by decide)
              have hlw : left f g i t = wants f g t i := rfl
              simp only [hlw] at cl
              have CL := Lib.hid cl
              clear cl hlw C7 H6 k7 hG6
              generalize (wants f g t i).length = wl at *
              go_wp2_with fail
              refine (CL.out).mono ?_
              rintro e w' ⟨rfl, rfl⟩
              go_wp2
              go_ret
              exact ⟨rfl, hG7⟩

end Go.Proofs.Ytgbodembcnppaaa
