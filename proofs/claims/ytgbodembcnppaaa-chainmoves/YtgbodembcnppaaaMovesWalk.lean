/-
  The walk of the statement ChainMoves: numbers go from one list to another one, first come first gone, in their order; none gets lost.
-/
import Derived.Test.YtgbodembcnppaaaPullsWalk
namespace Go.Proofs.Ytgbodembcnppaaa
open Go.RowKit Go.Lib

/-- Two lists. -/
def two (a b : List Nat) : Nat → List Nat := fun i => if i = 0 then a else if i = 1 then b else []
theorem two_zero (a b : List Nat) : two a b 0 = a := rfl
theorem two_one (a b : List Nat) : two a b 1 = b := rfl
theorem two_none : (fun _ => []) = two [] [] := by funext i; simp [two]
theorem two_up0 (a b c : List Nat) : upL (two a b) 0 c = two c b := by funext i; unfold upL two; split <;> rfl
theorem two_up1 (a b c : List Nat) : upL (two a b) 1 c = two a c := by
  funext i; unfold upL two
  by_cases h0 : i = 0
  · subst h0; rfl
  · by_cases h1 : i = 1
    · subst h1; rfl
    · simp [h0, h1]
theorem two_not (a b : List Nat) (k : Nat) (ha : k ∉ a) (hb : k ∉ b) : ∀ j, j < 2 → k ∉ two a b j := by
  intro j hj
  match j, hj with
  | 0, _ => exact ha
  | 1, _ => exact hb

set_option maxRecDepth 100000 in
set_option maxHeartbeats 8000000 in
theorem moves_walk (sa : Option Addr) (len cap sb off : Nat) (zs : Nat → Int) (sa1 : Option Addr) (len1 cap1 sb1 off1 : Nat) (zs1 : Nat → Bool) (w : World)
    (_hm : len ≤ maxLen) (hsa : 0 < len → sa = some ⟨sb, off, none⟩ ∧ sb < w.heap.size) (hz : ∀ j, j < len → w.cell? ⟨sb, off + j, none⟩ = some (.int .i64 (zs j)))
    (_hm1 : len1 ≤ maxLen) (hsa1 : 0 < len1 → sa1 = some ⟨sb1, off1, none⟩ ∧ sb1 < w.heap.size) (hz1 : ∀ j, j < len1 → w.cell? ⟨sb1, off1 + j, none⟩ = some (.bool (zs1 j))) :
    Calls Try.prog 4 #[.slice sa len cap, .slice sa1 len1 cap1] w fun e w' => e = .returned (.bool true) ∧ w.grownBy w' none := by
  have HSA := Lib.hid hsa
  have HZ := Lib.hid hz
  have HSA1 := Lib.hid hsa1
  have HZ1 := Lib.hid hz1
  clear hsa hz hsa1 hz1 _hm _hm1
  by_cases hl : 50 < len
  · go_enter Try.func4, Try.ntmps4
    go_wp2_with fail
    refine (alive4 _).mono ?_
    rintro e w0 ⟨rfl, hG0⟩
    go_wp2
    go_ret
    exact ⟨rfl, hG0⟩
  by_cases hl1 : 100 < len1
  · go_enter Try.func4, Try.ntmps4
    go_wp2_with fail
    refine (alive4 _).mono ?_
    rintro e w0 ⟨rfl, hG0⟩
    go_wp2
    go_ret
    exact ⟨rfl, hG0⟩
  go_enter Try.func4, Try.ntmps4
  go_wp2_with fail
  refine (alive4 _).mono ?_
  rintro e w0 ⟨rfl, hG0⟩
  go_wp2_with fail
  refine (new_made 64 2 64 2 (by decide) (by decide) _).mono ?_
  rintro e w1 ⟨lo, rfl, hlo, hk1, H1⟩
  have hG1 := grow_to hG0 hk1
  have hloW : w.heap.size ≤ lo := Nat.le_trans hG0.size hlo
  have k2 := World.grownBy_alloc w1 (.cells #[] 3) none
  have k3 := World.grownBy_alloc (w1.alloc (.cells #[] 3)) (.cells #[] 3) none
  have R1 := (lit_room w1 w1.heap.size (Nat.le_refl _)).kept k3 (by simp)
  have e1 : (w1.alloc (.cells #[] 3)).heap.size = w1.heap.size + 1 := by simp
  have R2 := lit_room (w1.alloc (.cells #[] 3)) w1.heap.size (by rw [e1]; omega)
  have H2 := H1.kept (Only.of_none (lo := 0) (hi := 0) (k2.trans k3)) (Or.inr (by omega))
  have hG2 := grow_to hG1 (k2.trans k3)
  have hB1 := H1.sz
  have hB2 : w1.heap.size + 2 ≤ ((w1.alloc (.cells #[] 3)).alloc (.cells #[] 3)).heap.size := by simp
  rw [e1] at R2
  rw [two_none] at H2
  clear hG0 hk1 hlo H1 hG1 k2 k3
  obtain ⟨i0, hi0, hz0, hz1, hz2⟩ := int_info
  have I0 := Lib.hid hi0
  have I1 := Lib.hid hz0
  have I2 := Lib.hid hz1
  have I3 := Lib.hid hz2
  clear hi0 hz0 hz1 hz2
  go_wp2
  clear e1
  generalize (w1.alloc (.cells #[] 3)).alloc (.cells #[] 3) = wx at R1 R2 H2 hG2 hB2 ⊢
  generalize w1.heap.size = B at R1 R2 hB1 hB2 ⊢
  have hBW : w.heap.size ≤ B := by omega
  clear w1 w0
  obtain ⟨f, hf⟩ : ∃ f : Nat → Nat, f = fun t => mk (zs t) := ⟨_, rfl⟩
  have HF : Hid (∀ t, mk (zs t) = f t) := Lib.hid fun t => by rw [hf]
  clear hf
  go_loopw [6, 33] (fun av it wr => ∃ j r cp : Nat, j ≤ len ∧ it = .int .i64 j ∧ av = .slice (some ⟨r, 0, none⟩) (pushes f j).length cp ∧ LinksAt wr lo 64 2 (two (pushes f j) []) ∧ RowOf wr B r cp (pushes f j) ∧ RowOf wr B (B + 1) 0 [] ∧ r ≠ B + 1 ∧ w.grownBy wr none ∧ B + 2 ≤ wr.heap.size) (fun _ it _ => len - (intOf it).toNat)
  case atStart => exact ⟨0, B, 0, Nat.zero_le _, rfl, rfl, H2, R1, R2, by omega, hG2, hB2⟩
  case round =>
    obtain ⟨j, r, cp, hj, rfl, rfl, H, R, R0, hne, hG, hB⟩ := hrel
    clear H2 R1 R2 hG2 hB2
    have hpl := pushes_len f j
    have hrr := R.lt
    by_cases hlt : j < len
    · obtain ⟨rfl, hsb⟩ := HSA.out (by omega)
      have hc : wr.cell? ⟨sb, off + j, none⟩ = some (.int .i64 (zs j)) := (hG.cell_far ⟨sb, off + j, none⟩ hsb (by simp)).trans (HZ.out j hlt)
      have hv := mk_lt (zs j)
      have hV := mask_mk (zs j)
      have hfj := HF.out j
      generalize zs j = z at *
      rw [hfj] at hv hV
      have hps := Lib.hid (pushes_succ f j)
      clear hfj
      generalize f j = k at *
      by_cases hin : k ∈ pushes f j
      · have c1 := Lib.hid (push_no 0 k H (Or.inr (Or.inr ⟨0, by decide, by simpa [two] using hin⟩)))
        have hpe : pushes f (j + 1) = pushes f j := by rw [hps.out, if_pos hin]
        have HP := Lib.hid hpe
        clear hpe hin
        go_wp2_with fail
        refine (c1.out).mono ?_
        rintro e w' ⟨rfl, rfl⟩
        go_wp2
        go_roundw
        case rel => exact ⟨j + 1, r, cp, by omega, by go_num, by rw [HP.out], by rw [HP.out]; exact H, by rw [HP.out]; exact R, R0, hne, hG, hB⟩
        case measure => simp [intOf]; omega
      · have c1 := push_ok 0 k H (by decide) hv (two_not _ _ _ hin (by simp))
        rw [two_up0, two_zero] at c1
        have hpe : pushes f (j + 1) = pushes f j ++ [k] := by rw [hps.out, if_neg hin]
        rw [← hpe] at c1
        have C1 := Lib.hid c1
        have HP := Lib.hid hpe
        clear hpe hin c1
        go_wp2_with fail
        refine C1.out.mono ?_
        rintro e w3 ⟨rfl, k3, H3⟩
        have R3 := R.only k3 (by omega)
        have R03 := R0.only k3 (by omega)
        have hG3 := Only.on hG k3 hloW
        have hB3 : B + 2 ≤ w3.heap.size := Nat.le_trans hB k3.size
        have hrr3 := R3.lt
        unfold RowOf at R3
        clear H R R0 hG hB C1 k3 hc
        go_wp2_with (
        at_builtin
        refine wpList_append_own_at _ rfl _ _ 40 rfl B 3 i0 (.int .i64 0) 1 8 Try.underlying40 I0.out I1.out I2.out I3.out rfl (by decide) _ _ _ rfl (World.ownsRow.alloc R3 _) ⟨w3.heap.size, 0, none⟩ 1 1 [.int .i64 (k : Int)] rfl rfl (cell_one_new _ _ _) (fun x hx => by simp at hx; subst hx; rfl) (by unfold maxLen; omega) (by omega) (by simp; omega) ?_
        intro v' w5 hown' hgrow3 hnil3 hat0
        have hgr : (w3.alloc (.cells #[.int .i64 (k : Int)] 3)).grownBy w5 (some r) := hgrow3
        have hnn : v' ≠ .slice none 0 0 := fun h => absurd (hnil3.1 h).2 (by decide)
        have k4 := World.grownBy_alloc w3 (.cells #[.int .i64 (k : Int)] 3) none
        have hat1 : v'.ownBlock = some r ∨ v'.ownBlock = some (w3.alloc (.cells #[.int .i64 (k : Int)] 3)).heap.size := hat0
        clear hgrow3 hnil3 hat0
        obtain ⟨r', cp', rfl, R5⟩ := row_of_owns hown' (F := pushes f (j + 1)) (by rw [HP.out]; simp) (by rw [HP.out, ints_snoc]) hnn
        have hat : r' = r ∨ r' = w3.heap.size + 1 := by simpa [Value.ownBlock] using hat1
        have hG5 : w.grownBy w5 none := grow_on (grow_to hG3 k4) hgr (by omega)
        have hB5 := Nat.le_trans hB3 (Nat.le_trans k4.size hgr.size)
        have H5 := (H3.kept (Only.of_none (lo := 0) (hi := 0) k4) (Or.inr (by omega))).kept (Only.of_some (lo := r) (hi := r + 1) hgr (Nat.le_refl _) (by omega)) (Or.inl (by omega))
        have R05 := (R03.kept k4 (by simp)).kept hgr (fun h => by cases h; omega)
        clear hgr hown' hnn k4 hG3 hB3 R3 H3 R03 hat1
        )
        exact ⟨⟨j + 1, r', cp', by omega, by go_num, rfl, H5, R5, R05, by omega, hG5, hB5⟩, by simp [intOf]; omega⟩
    · have he : j = len := by omega
      subst he
      have hnd := Lib.hid (pushes_nodup f j)
      have hbd : Hid (∀ k ∈ pushes f j, k < 64) := Lib.hid (H.bound 0 (by decide))
      generalize pushes f j = A at *
      clear HSA HZ HF
      have H0 : LinksAt wr lo 64 2 (two (A.drop 0) (A.take 0)) := by simpa using H
      have R00 : RowOf wr B (B + 1) 0 (A.take 0) := by simpa using R0
      clear H R0
      go_wp2
      go_loopw [7, 49] (fun av it wr => ∃ i t r' cp' : Nat, i ≤ len1 ∧ t ≤ A.length ∧ it = .int .i64 i ∧ av = .slice (some ⟨r', 0, none⟩) t cp' ∧ LinksAt wr lo 64 2 (two (A.drop t) (A.take t)) ∧ RowOf wr B r cp A ∧ RowOf wr B r' cp' (A.take t) ∧ r ≠ r' ∧ w.grownBy wr none ∧ B + 2 ≤ wr.heap.size) (fun _ it _ => len1 - (intOf it).toNat)
      case atStart => exact ⟨0, 0, B + 1, 0, Nat.zero_le _, Nat.zero_le _, rfl, rfl, H0, R, R00, hne, hG, hB⟩
      case round =>
        obtain ⟨i, t, r', cp', hi, ht, rfl, rfl, H, R, R', hne', hG, hB⟩ := hrel
        clear H0 R00 hne
        have hrr' := R'.lt
        by_cases hlt2 : i < len1
        · obtain ⟨rfl, hsb1⟩ := HSA1.out (by omega)
          have hc : wr.cell? ⟨sb1, off1 + i, none⟩ = some (.bool (zs1 i)) := (hG.cell_far ⟨sb1, off1 + i, none⟩ hsb1 (by simp)).trans (HZ1.out i hlt2)
          generalize zs1 i = mv at *
          by_cases hta : t < A.length
          · have hdr : A.drop t = A[t] :: A.drop (t + 1) := List.drop_eq_getElem_cons hta
            have htk : A.take (t + 1) = A.take t ++ [A[t]] := List.take_succ_eq_append_getElem hta
            have hk64 := hbd.out A[t] (List.getElem_mem hta)
            have hnd1 : A[t] ∉ A.drop (t + 1) := by
              have h := hnd.out.sublist (List.drop_sublist t A)
              rw [hdr] at h
              exact (List.nodup_cons.1 h).1
            have hnd2 : A[t] ∉ A.take t := by
              have h := hnd.out.sublist (List.take_sublist (t + 1) A)
              rw [htk] at h
              exact fun hm => (List.nodup_append.1 h).2.2 _ hm _ (by simp) rfl
            have CF : Hid (Calls Try.prog 17 #[.pointer (some ⟨lo + 4, 0, none⟩), .int .i64 0] wr fun e w' => e = .returned (.tuple #[.int .i64 (A[t] : Nat), .bool true]) ∧ wr.grownBy w' none) := Lib.hid (first_some 0 A[t] (A.drop (t + 1)) H (by decide) hdr)
            have HTK := Lib.hid htk
            generalize A[t] = k at *
            go_wp2_with fail
            refine CF.out.mono ?_
            rintro e w3 ⟨rfl, k3⟩
            have H3 := H.kept (Only.of_none (lo := 0) (hi := 0) k3) (Or.inr (by omega))
            have R3 := R.kept k3 (by simp)
            have R3' := R'.kept k3 (by simp)
            have hG3 := grow_to hG k3
            have hB3 := Nat.le_trans hB k3.size
            clear CF H R R' hG hB k3 hc
            cases mv
            · clear hdr htk
              go_wp2
              go_roundw
              case rel => exact ⟨i + 1, t, r', cp', by omega, ht, by go_num, rfl, H3, R3, R3', hne', hG3, hB3⟩
              case measure => simp [intOf]; omega
            · have cp1 := pull_ok k 0 H3 (by decide) (by rw [two_zero, hdr]; exact List.mem_cons_self)
              rw [two_up0, two_zero, hdr, List.erase_cons_head] at cp1
              have CP := Lib.hid cp1
              clear cp1 H3 hdr htk
              go_wp2_with fail
              refine CP.out.mono ?_
              rintro e w4 ⟨rfl, k4, H4⟩
              have R4 := R3.only k4 (by omega)
              have R4' := R3'.only k4 (by omega)
              have hG4 := Only.on hG3 k4 hloW
              have hB4 := Nat.le_trans hB3 k4.size
              clear CP R3 R3' hG3 hB3 k4
              have cp2 := push_ok 1 k H4 (by decide) hk64 (two_not _ _ _ hnd1 hnd2)
              rw [two_up1, two_one] at cp2
              have CP2 : Hid (Calls Try.prog 13 #[.pointer (some ⟨lo + 4, 0, none⟩), .int .i64 1, .int .i64 (k : Int)] w4 _) := Lib.hid cp2
              clear cp2 H4
              go_wp2_with fail
              refine CP2.out.mono ?_
              rintro e w6 ⟨rfl, k6, H6⟩
              have R6 := R4.only k6 (by omega)
              have R6' := R4'.only k6 (by omega)
              have hG6 := Only.on hG4 k6 hloW
              have hB6 := Nat.le_trans hB4 k6.size
              clear CP2 R4 R4' hG4 hB4 k6 hnd1 hnd2
              rw [← HTK.out] at H6
              have hr6 := R6'.lt
              have hr6i := R6.lt
              unfold RowOf at R6'
              have hlt3 : (A.take t).length = t := by simp; omega
              rw [hlt3] at R6'
              go_wp2_with (
              at_builtin
              refine wpList_append_own_at _ rfl _ _ 40 rfl B 3 i0 (.int .i64 0) 1 8 Try.underlying40 I0.out I1.out I2.out I3.out rfl (by decide) _ _ _ rfl (World.ownsRow.alloc R6' _) ⟨w6.heap.size, 0, none⟩ 1 1 [.int .i64 (k : Int)] rfl rfl (cell_one_new _ _ _) (fun x hx => by simp at hx; subst hx; rfl) (by unfold maxLen; omega) (by omega) (by simp; omega) ?_
              intro v' w5 hown' hgrow3 hnil3 hat0
              have hgr : (w6.alloc (.cells #[.int .i64 (k : Int)] 3)).grownBy w5 (some r') := hgrow3
              have hnn : v' ≠ .slice none 0 0 := fun h => absurd (hnil3.1 h).2 (by decide)
              have k4 := World.grownBy_alloc w6 (.cells #[.int .i64 (k : Int)] 3) none
              have hat1 : v'.ownBlock = some r' ∨ v'.ownBlock = some (w6.alloc (.cells #[.int .i64 (k : Int)] 3)).heap.size := hat0
              clear hgrow3 hnil3 hat0
              have hlt4 : (A.take (t + 1)).length = t + 1 := by simp; omega
              obtain ⟨r2, cp2, rfl, R7'⟩ := row_of_owns hown' (F := A.take (t + 1)) hlt4.symm (by rw [HTK.out, ints_snoc]) hnn
              have hat : r2 = r' ∨ r2 = w6.heap.size + 1 := by simpa [Value.ownBlock] using hat1
              have hG7 : w.grownBy w5 none := grow_on (grow_to hG6 k4) hgr (by omega)
              have hB7 := Nat.le_trans hB6 (Nat.le_trans k4.size hgr.size)
              have H7 := (H6.kept (Only.of_none (lo := 0) (hi := 0) k4) (Or.inr (by omega))).kept (Only.of_some (lo := r') (hi := r' + 1) hgr (Nat.le_refl _) (by omega)) (Or.inl (by omega))
              have R7 := (R6.kept k4 (by simp)).kept hgr (fun h => by cases h; omega)
              rw [hlt4]
              clear hgr hown' hnn k4 hG6 hB6 R6 H6 R6' hat1
              )
              exact ⟨⟨i + 1, t + 1, r2, cp2, by omega, by omega, by go_num, rfl, H7, R7, R7', by omega, hG7, hB7⟩, by simp [intOf]; omega⟩
          · have hdr : A.drop t = [] := List.drop_eq_nil_of_le (by omega)
            have CF : Hid (Calls Try.prog 17 #[.pointer (some ⟨lo + 4, 0, none⟩), .int .i64 0] wr fun e w' => e = .returned (.tuple #[.int .i64 0, .bool false]) ∧ wr.grownBy w' none) := Lib.hid (first_none 0 H (Or.inr (Or.inr hdr)))
            clear hdr
            go_wp2_with fail
            refine CF.out.mono ?_
            rintro e w3 ⟨rfl, k3⟩
            have H3 := H.kept (Only.of_none (lo := 0) (hi := 0) k3) (Or.inr (by omega))
            have R3 := R.kept k3 (by simp)
            have R3' := R'.kept k3 (by simp)
            have hG3 := grow_to hG k3
            have hB3 := Nat.le_trans hB k3.size
            clear CF H R R' hG hB k3 hc
            go_wp2
            go_roundw
            case rel => exact ⟨i + 1, t, r', cp', by omega, ht, by go_num, rfl, H3, R3, R3', hne', hG3, hB3⟩
            case measure => simp [intOf]; omega
        · have hlt3 : (A.take t).length = t := by simp; omega
          have hld : (A.drop t).length = A.length - t := by simp
          have HLT := Lib.hid hlt3
          have HLD := Lib.hid hld
          have hAl : A.length ≤ 50 := by omega
          have k0 := World.grownBy_alloc wr (.cells #[] 3) none
          have H0 := H.kept (Only.of_none (lo := 0) (hi := 0) k0) (Or.inr (by omega))
          have Ri := R.kept k0 (by simp)
          have Ro := R'.kept k0 (by simp)
          have hG0 := grow_to hG k0
          have L0 := lit_room wr wr.heap.size (Nat.le_refl _)
          have hb0 : wr.heap.size + 1 ≤ (wr.alloc (.cells #[] 3)).heap.size := by simp
          have hb1 : r < wr.heap.size := R.lt.2
          have hb2 : r' < wr.heap.size := R'.lt.2
          have hb3 : w.heap.size ≤ wr.heap.size := hG.size
          have hb4 : lo + 5 ≤ wr.heap.size := H.sz
          generalize hwb : wr.heap.size = b0 at *
          have C1 : Hid (Calls Try.prog 19 #[.pointer (some ⟨lo + 4, 0, none⟩), .int .i64 1] (wr.alloc (.cells #[] 3)) _) := Lib.hid (all_in 1 H0 (by decide))
          have HWB := Lib.hid hwb
          clear hwb H R R' hG k0 hB hlt3 hld hrr' HSA1 HZ1
          go_wp2_with fail
          rw [HWB.out]
          refine C1.out.mono ?_
          rintro e w1 ⟨r1, c1, rfl, k1, Q1⟩
          rw [two_one] at Q1
          have H1 := H0.kept (Only.of_none (lo := 0) (hi := 0) k1) (Or.inr (by omega))
          have Ri1 := Ri.kept k1 (by simp)
          have Ro1 := Ro.kept k1 (by simp)
          have hG1 := grow_to hG0 k1
          have L1 := L0.kept k1 (by simp)
          have q1 := Q1.lt
          have hs1 := k1.size
          generalize wr.alloc (.cells #[] 3) = wz at *
          rw [two_one, HLT.out]
          have NEW : Hid (∀ j u, (ints (A.take t))[j]? = some u → w1.cell? ((⟨r1, 0, none⟩ : Addr).add j) = some u) := Lib.hid (World.ownsRow.cells Q1 rfl)
          have LN := Lib.hid (show (ints (A.take t)).length = t * 1 by rw [ints_len, HLT.out, Nat.mul_one])
          have HL1 : Hid (w1.ownsRow b0 3 1 (.slice (some ⟨b0, 0, none⟩) 0 0) 0 []) := Lib.hid L1
          clear C1 H0 Ri Ro hG0 L0 k1 Q1 L1
          go_wp2_with (
          at_builtin
          refine wpList_append_own _ rfl _ _ 40 rfl b0 3 i0 (.int .i64 0) 1 8 Try.underlying40 I0.out I1.out I2.out I3.out rfl (by decide) _ _ _ rfl HL1.out ⟨r1, 0, none⟩ t c1 (ints (A.take t)) rfl LN.out NEW.out (ints_one _) (by unfold maxLen; omega) (by omega) (by omega) ?_
          intro v' w2 hown' hgrow3 hnil3
          have hgr : w1.grownBy w2 (some b0) := hgrow3
          have hnn : v' ≠ .slice none 0 0 := fun h => absurd (hnil3.1 h).1 (by intro e; cases e)
          clear hgrow3 hnil3
          obtain ⟨r2, c2, rfl, T2⟩ := row_of_owns hown' (F := A.take t) (by rw [HLT.out]; omega) (by simp) hnn
          have H2 := H1.kept (Only.of_some (lo := b0) (hi := b0 + 1) hgr (Nat.le_refl _) (by omega)) (Or.inl (by omega))
          have Ri2 := Ri1.kept hgr (fun h => by cases h; omega)
          have Ro2 := Ro1.kept hgr (fun h => by cases h; omega)
          have hG2 := grow_on hG1 hgr (by omega)
          have hs2 := hgr.size
          have C2 : Hid (Calls Try.prog 19 #[.pointer (some ⟨lo + 4, 0, none⟩), .int .i64 0] w2 _) := Lib.hid (all_in 0 H2 (by decide))
          clear hown' hgr hnn H1 Ri1 Ro1 hG1 NEW LN HL1
          rw [HLT.out]
          )
          refine C2.out.mono ?_
          rintro e w3 ⟨r3, c3, rfl, k3, Q3⟩
          rw [two_zero] at Q3
          have H3 := H2.kept (Only.of_none (lo := 0) (hi := 0) k3) (Or.inr (by omega))
          have Ri3 := Ri2.kept k3 (by simp)
          have Ro3 := Ro2.kept k3 (by simp)
          have hG3 := grow_to hG2 k3
          have T3 := T2.kept k3 (by simp)
          have q3 := Q3.lt
          have p3 := T3.lt
          have hs3 := k3.size
          rw [two_zero, HLD.out]
          have NEW : Hid (∀ j u, (ints (A.drop t))[j]? = some u → w3.cell? ((⟨r3, 0, none⟩ : Addr).add j) = some u) := Lib.hid (World.ownsRow.cells Q3 rfl)
          have LN := Lib.hid (show (ints (A.drop t)).length = (A.length - t) * 1 by rw [ints_len, HLD.out, Nat.mul_one])
          have HT3 : Hid (w3.ownsRow b0 3 1 (.slice (some ⟨r2, 0, none⟩) t c2) t (ints (A.take t))) := Lib.hid (by unfold RowOf at T3; rw [HLT.out] at T3; exact T3)
          clear C2 H2 Ri2 Ro2 hG2 T2 k3 Q3 T3
          go_wp2_with (
          at_builtin
          refine wpList_append_own _ rfl _ _ 40 rfl b0 3 i0 (.int .i64 0) 1 8 Try.underlying40 I0.out I1.out I2.out I3.out rfl (by decide) _ _ _ rfl HT3.out ⟨r3, 0, none⟩ (A.length - t) c3 (ints (A.drop t)) rfl LN.out NEW.out (ints_one _) (by unfold maxLen; omega) (by omega) (by omega) ?_
          intro v' w4 hown' hgrow3 hnil3
          have hgr : w3.grownBy w4 (some r2) := hgrow3
          have hnn : v' ≠ .slice none 0 0 := fun h => absurd (hnil3.1 h).1 (by intro e; cases e)
          clear hgrow3 hnil3
          obtain ⟨r4, c4, rfl, T4⟩ := row_of_owns hown' (F := A) (by omega) (by rw [ints_add, List.take_append_drop]) hnn
          have H4 := H3.kept (Only.of_some (lo := r2) (hi := r2 + 1) hgr (Nat.le_refl _) (by omega)) (Or.inl (by omega))
          have Ri4 := Ri3.kept hgr (fun h => by cases h; omega)
          have Ro4 := Ro3.kept hgr (fun h => by cases h; omega)
          have hG4 := grow_on hG3 hgr (by omega)
          have C4 := Lib.hid (same_yes T4.reads Ri4.reads (by omega))
          clear hown' hgr hnn H3 Ri3 Ro3 hG3 NEW LN HT3 T4
          )
          refine C4.out.mono ?_
          rintro e w5 ⟨rfl, k5⟩
          have H5 := H4.kept (Only.of_none (lo := 0) (hi := 0) k5) (Or.inr (by omega))
          have Ro5 := Ro4.kept k5 (by simp)
          have hG5 := grow_to hG4 k5
          have C5 : Hid (Calls Try.prog 19 #[.pointer (some ⟨lo + 4, 0, none⟩), .int .i64 1] w5 _) := Lib.hid (all_in 1 H5 (by decide))
          clear H4 Ri4 Ro4 hG4 k5 C4
          go_wp2_with fail
          refine C5.out.mono ?_
          rintro e w6 ⟨r6, c6, rfl, k6, Q6⟩
          rw [two_one] at Q6
          have H6 := H5.kept (Only.of_none (lo := 0) (hi := 0) k6) (Or.inr (by omega))
          have Ro6 := Ro5.kept k6 (by simp)
          have hG6 := grow_to hG5 k6
          rw [two_one, HLT.out]
          have C6 := same_yes Q6.reads Ro6.reads (by rw [HLT.out]; omega)
          rw [HLT.out] at C6
          have C6' := Lib.hid C6
          clear H5 Ro5 hG5 k6 C5 Q6 C6
          go_wp2_with fail
          refine C6'.out.mono ?_
          rintro e w7 ⟨rfl, k7⟩
          have H7 := H6.kept (Only.of_none (lo := 0) (hi := 0) k7) (Or.inr (by omega))
          have Ro7 := Ro6.kept k7 (by simp)
          have hG7 := grow_to hG6 k7
          clear H6 Ro6 hG6 k7 C6'
          have HCELL : Hid (∀ (j : Nat), j < t → ∃ k : Nat, w7.cell? ⟨r', j, none⟩ = some (.int .i64 (k : Int)) ∧ k ∈ A.take t) := Lib.hid fun j hj => ⟨(A.take t)[j]'(by rw [HLT.out]; exact hj), Ro7.cell j (by rw [HLT.out]; exact hj), List.getElem_mem _⟩
          have c10 := len_in 0 H7 (by decide)
          have c11 := len_in 1 H7 (by decide)
          rw [two_zero, HLD.out] at c10
          rw [two_one, HLT.out] at c11
          have C10 : Hid (Calls Try.prog 21 #[.pointer (some ⟨lo + 4, 0, none⟩), .int .i64 0] w7 _) := Lib.hid c10
          have C11 : Hid (Calls Try.prog 21 #[.pointer (some ⟨lo + 4, 0, none⟩), .int .i64 1] w7 _) := Lib.hid c11
          have HH := Lib.hid H7
          clear c10 c11 Ro7 H7
          go_wp2
          go_loop [98] (fun it => ∃ j : Nat, j ≤ t ∧ it = .int .i64 j) (fun it => t - (intOf it).toNat)
          case atStart => exact ⟨0, Nat.zero_le _, rfl⟩
          case round =>
            obtain ⟨j3, hj3, rfl⟩ := hrel
            by_cases hlt4 : j3 < t
            · obtain ⟨k, hc, hkm⟩ := HCELL.out j3 hlt4
              have D1 : Hid (Calls Try.prog 20 #[.pointer (some ⟨lo + 4, 0, none⟩), .int .i64 (k : Int)] w7 fun e w' => e = .returned (.tuple #[.int .i64 1, .bool true]) ∧ w7 = w') := Lib.hid (on_some k 1 HH.out (by decide) hkm)
              have D2 := Lib.hid (push_no 0 k HH.out (Or.inr (Or.inr ⟨1, by decide, by simpa [two] using hkm⟩)))
              clear hkm
              go_wp2_with fail
              refine (D1.out).mono ?_
              rintro e w' ⟨rfl, rfl⟩
              go_wp2_with fail
              refine (D2.out).mono ?_
              rintro e w' ⟨rfl, rfl⟩
              go_wp2
              go_round
              case rel => exact ⟨j3 + 1, by omega, by go_num⟩
              case measure => simp [intOf]; omega
            · have e : j3 = t := by omega
              subst e
              go_wp2_with fail
              refine (C10.out).mono ?_
              rintro e w' ⟨rfl, rfl⟩
              go_wp2_with fail
              refine (C11.out).mono ?_
              rintro e w' ⟨rfl, rfl⟩
              go_wp2
              go_ret
              refine ⟨ret_bool ?_, hG7⟩
              simp; omega

end Go.Proofs.Ytgbodembcnppaaa
