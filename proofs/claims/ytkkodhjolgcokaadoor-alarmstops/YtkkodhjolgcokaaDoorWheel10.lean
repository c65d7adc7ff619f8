/-
  Contracts of package wheel, over this seat's translation: goOn lets it be a later time.
-/
import Derived.Test.YtkkodhjolgcokaaDoorWheel9
namespace Go.Proofs.YtkkodhjolgcokaaDoor
open Go.RowKit Go.Lib
set_option maxRecDepth 100000
set_option linter.unusedVariables false

theorem own_grow {W w w' : World} {v : Value} {m : Nat} {xs : List Value} (K : W.grownBy w none) (own : w.ownsRow W.heap.size 3 1 v m xs) (gr : w.grownBy w' v.ownBlock) : W.grownBy w' none := by
  cases hv : v.ownBlock with
  | none => rw [hv] at gr; exact K.trans gr
  | some g => rw [hv] at gr; exact Only.on K (Only.of_some gr (Nat.le_refl _) (Nat.lt_succ_self _)) (World.ownsRow.lt own g hv).1

theorem own_form {w : World} {B : Nat} {v : Value} {F : List Nat} (h : w.ownsRow B 3 1 v F.length (ints F)) : ∃ sa cp, v = .slice sa F.length cp ∧ (0 < F.length → ∃ q, sa = some ⟨q, 0, none⟩ ∧ B ≤ q) := by
  rcases h.2 with ⟨hv, h0⟩ | ⟨q, cp, cur, hv, hb, _⟩
  · exact ⟨none, 0, by rw [hv, h0], fun h => absurd h (by omega)⟩
  · exact ⟨_, cp, hv, fun _ => ⟨q, rfl, hb⟩⟩
theorem own_only2 {W w w' : World} {lo hi m : Nat} {v : Value} {xs : List Value} (h : w.ownsRow W.heap.size 3 1 v m xs) (k : Only lo hi w w') (hh : hi ≤ W.heap.size) : w'.ownsRow W.heap.size 3 1 v m xs := by
  refine ⟨h.1, ?_⟩
  rcases h.2 with hn | ⟨g, cap, cur, rfl, hb, hgg, rest⟩
  · exact .inl hn
  · refine .inr ⟨g, cap, cur, rfl, hb, ?_, rest⟩
    rw [k.block g (Array.getElem?_eq_some_iff.1 hgg).1 (Or.inr (by omega))]
    exact hgg
theorem WhMem.setNow {w : World} {wb ab lb n now : Nat} {A : Nat → Nat × Nat} {L : Nat → List Nat} {C : Nat → Nat} (H : WhMem w wb ab lb n now A L C) (tg : Nat) (ht : tg < 18446744073709551616) : WhMem (w.setCell ⟨wb, 0, none⟩ (.int .u64 (tg : Nat))) wb ab lb n tg A L C := by
  have k := Only.set (lo := wb) (hi := wb + 1) w ⟨wb, 0, none⟩ (.int .u64 (tg : Nat)) (Nat.le_refl _) (Nat.lt_succ_self _)
  have fr : ∀ a, (w.setCell ⟨wb, 0, none⟩ (.int .u64 (tg : Nat))).frozen? a = w.frozen? a := fun a => World.frozen?_setCell ..
  have hd := H.d
  have ot : ∀ j, j ≠ 0 → (w.setCell ⟨wb, 0, none⟩ (.int .u64 (tg : Nat))).cell? ⟨wb, j, none⟩ = w.cell? ⟨wb, j, none⟩ := fun j hj => set_farW w wb 0 wb j _ (Or.inr hj)
  refine ⟨World.cell?_setCell_same _ _ _ H.c0, (ot 1 (by omega)).trans H.c1, (ot 2 (by omega)).trans H.c2, fun r hr => (ot (3 + r) (by omega)).trans (H.c3 r hr), fun j => (fr _).trans (H.fw j), fun k' hk' => ?_, fun j => (fr _).trans (H.fa j), H.links.kept k (by omega), ⟨ht, H.bd.2⟩, H.d, ?_⟩
  · obtain ⟨h1, h2⟩ := H.a0 k' hk'
    exact ⟨(set_farW w wb 0 ab _ _ (Or.inl (by omega))).trans h1, (set_farW w wb 0 ab _ _ (Or.inl (by omega))).trans h2⟩
  · have := k.size
    exact ⟨Nat.lt_of_lt_of_le H.l.1 this, Nat.lt_of_lt_of_le H.l.2 this⟩

theorem WInv.lt {n : Nat} {A : Nat → Nat × Nat} {L : Nat → List Nat} {C : Nat → Nat} {S : Nat → Option (Nat × Nat)} {pl : Nat → Nat} (I : WInv n A L C S pl) {k r : Nat} (hk : k < n) (hS : S k = none) (hr : r < 12) : C r < n := by
  rw [I.cnt r hr]
  have h := few_of_nodup n (k :: flatL L r 64) (by
    rw [List.nodup_cons]
    refine ⟨fun h => ?_, I.flat_nodup hr 64 (by omega)⟩
    obtain ⟨b, hb, hkb⟩ := (flat_mem 64).1 h
    obtain ⟨v, hv⟩ := (I.is _ (by omega) k hkb).2.1
    rw [hS] at hv; cases hv) (fun x hx => by
    rcases List.mem_cons.1 hx with rfl | hx
    · exact hk
    · obtain ⟨b, hb, hkb⟩ := (flat_mem 64).1 hx
      exact (I.is _ (by omega) x hkb).1)
  simp only [List.length_cons] at h
  omega

section
variable {w : World} {wb ab lb n now : Nat} {A : Nat → Nat × Nat} {L : Nat → List Nat} {C : Nat → Nat} {S : Nat → Option (Nat × Nat)} {pl : Nat → Nat}

set_option maxHeartbeats 8000000 in
set_option maxRecDepth 100000 in
theorem wgoOn (tg lo hi : Nat) (H : WhMem w wb ab lb n now A L C) (I : WInv n A L C S pl) (hn : n ≤ 4096) (htg : tg < 18446744073709551616) (hlt : now < tg) (hpl : ∀ k v, k < n → S k = some v → pl k = slotN now v.1)
    (hlo : lo ≤ wb ∧ lo ≤ ab ∧ lo ≤ lb) (hhi : wb < hi ∧ ab < hi ∧ lb + 5 ≤ hi) (hhw : hi ≤ w.heap.size) :
    Calls Tryd.prog 46 #[.pointer (some ⟨wb, 0, none⟩), .int .u64 (tg : Nat)] w fun e w' => (∃ v, e = .returned v) ∧ Only lo hi w w' ∧ ∃ A' L' C' pl', WhMem w' wb ab lb n tg A' L' C' ∧ WInv n A' L' C' S pl' ∧ ∀ k v, k < n → S k = some v → pl' k = slotN tg v.1 := by
  have hnow := H.bd.1
  have hb64 := bitLen64 htg hnow
  have CR := Lib.hid (rowOf_any wb now tg w H.c0 htg hnow hb64)
  obtain ⟨top, htop⟩ : ∃ top, rowN now tg = top := ⟨_, rfl⟩
  have htl : top ≤ 11 := by rw [← htop]; exact rowN_le now tg htg hnow hb64
  have CU := Lib.hid (fun (v : World) (hv : w.grownBy v none) (r b : Nat) (hr : r < 12) (hb : b < 64) => wupTo_any r b (H.kept hv) I hn hr hb)
  have CD := Lib.hid (fun v => digit_any top tg v htl htg)
  obtain ⟨dg, hdg⟩ : ∃ dg, digN top tg = dg := ⟨_, rfl⟩
  have hdl : dg < 64 := by rw [← hdg]; exact digN_lt top tg
  rw [htop] at CR
  rw [hdg] at CD
  have HH := Lib.hid H
  have HI := Lib.hid I
  have HTOP := Lib.hid htop
  have HDG := Lib.hid hdg
  have HPL := Lib.hid hpl
  have HLT := Lib.hid hlt
  obtain ⟨i0, hi0, hz0, hz1, hz2⟩ := int_info
  have I0 := Lib.hid hi0
  have I1 := Lib.hid hz0
  have I2 := Lib.hid hz1
  have I3 := Lib.hid hz2
  clear H I htop hdg hpl hi0 hz0 hz1 hz2 hb64 hlt
  go_enter Tryd.func46, Tryd.ntmps46
  go_wp2_with fail
  refine CR.out.mono ?_
  rintro e w' ⟨rfl, rfl⟩
  clear CR
  go_wp2
  go_loopw [5, 14] (fun pv it wr => ∃ (j : Nat), j ≤ top ∧ it = .int .i64 j ∧ Hid (wr.ownsRow w.heap.size 3 1 pv (rowsL L j).length (ints (rowsL L j))) ∧ Hid (w.grownBy wr none)) (fun pv it _ => top - (Go.RowKit.intOf it).toNat)
  case atStart => exact ⟨0, Nat.zero_le _, rfl, Lib.hid ⟨rfl, Or.inl ⟨rfl, rfl⟩⟩, Lib.hid (World.grownBy.refl _ _)⟩
  case round =>
    obtain ⟨j, hj, rfl, OW, KR⟩ := hrel
    generalize u5 = v at *
    have hrl := HI.out.rows_len j (by omega)
    have hjn : j * n ≤ 12 * 4096 := Nat.mul_le_mul (by omega) hn
    by_cases hjt : j < top
    · have C1 := Lib.hid (CU.out wr KR.out j 63 (by omega) (by omega))
      have hfl := HI.out.flat_le (r := j) (by omega) 64 (Nat.le_refl _)
      have hrs : Hid (rowsL L (j + 1) = rowsL L j ++ flatL L j 64) := Lib.hid rfl
      have hj100 : (j : Int) < 100 := by omega
      generalize rowsL L j = F at *
      generalize hG : flatL L j 64 = G at *
      have C1' : Hid (Calls Tryd.prog 69 #[.pointer (some ⟨wb, 0, none⟩), .int .i64 (j : Nat), .int .i64 63] wr fun e w' => ∃ v, e = .returned v ∧ wr.grownBy w' none ∧ SrcAt w' 1 v G.length (ints G)) := Lib.hid (by have := C1.out; simpa [hG] using this)
      clear C1 hG
      go_wp2_with fail
      refine C1'.out.mono ?_
      rintro e w2 ⟨sv, rfl, k2, SR⟩
      have OW2 := Lib.hid (World.ownsRow.kept OW.out k2 (by cases hv : v.ownBlock <;> simp))
      have KR2 := Lib.hid (KR.out.trans k2)
      have SR2 := Lib.hid SR
      clear C1' k2 SR OW KR
      go_wp2_with (
        at_builtin
        refine wpList_append_src w2 rfl _ _ 30 rfl w.heap.size 3 i0 (.int .i64 0) 1 8 Tryd.underlying30 I0.out I1.out I2.out I3.out rfl (by decide) v F.length (ints F) rfl OW2.out sv G.length (ints G) rfl SR2.out (by unfold maxLen; omega) (by omega) (by have := KR2.out.size; exact this) ?_
        intro v3 w3 own3 gr3 nil3 at3
        have gr3' : w2.grownBy w3 v.ownBlock := gr3
        have KR3 := Lib.hid (own_grow KR2.out OW2.out gr3')
        have OW3 : Hid (w3.ownsRow w.heap.size 3 1 v3 (rowsL L (j + 1)).length (ints (rowsL L (j + 1)))) := Lib.hid (by rw [hrs.out, List.length_append, ← ints_add]; exact own3)
        clear own3 gr3 nil3 at3 gr3' OW2 SR2 KR2)
      go_roundw
      case rel => exact ⟨j + 1, by omega, by go_num, OW3, KR3⟩
      case measure => simp [Go.RowKit.intOf]; omega
    · obtain rfl : j = top := by omega
      have C1 := Lib.hid (CU.out wr KR.out j dg (by omega) hdl)
      have hfl := HI.out.flat_le (r := j) (by omega) (dg + 1) (by omega)
      obtain ⟨F, hF⟩ : ∃ F, rowsL L j ++ flatL L j (dg + 1) = F := ⟨_, rfl⟩
      have HF := Lib.hid hF
      have HFL : Hid (F.length ≤ 100000 - 1) := Lib.hid (by rw [← hF, List.length_append]; omega)
      clear hjt CU
      go_wp2_with fail
      refine (CD.out _).mono ?_
      rintro e w' ⟨rfl, rfl⟩
      go_wp2_with fail
      refine C1.out.mono ?_
      rintro e w2 ⟨sv, rfl, k2, SR⟩
      have OW2 := Lib.hid (World.ownsRow.kept OW.out k2 (by cases hv : v.ownBlock <;> simp))
      have KR2 := Lib.hid (KR.out.trans k2)
      have SR2 := Lib.hid SR
      clear C1 CD k2 SR OW KR hF
      have HF2 : Hid (rowsL L j ++ flatL L j (dg + 1) = F) := Lib.hid HF.out
      obtain ⟨F1, hF1⟩ : ∃ F1, rowsL L j = F1 := ⟨_, rfl⟩
      obtain ⟨G, hG⟩ : ∃ G, flatL L j (dg + 1) = G := ⟨_, rfl⟩
      rw [hF1] at OW2 HF hrl
      rw [hG] at SR2 HF hfl
      clear hF1 hG
      have W5 := Lib.hid (fun (v : World) (hv : w.grownBy v none) => (HH.out.kept hv).c0)
      have W5f := Lib.hid (fun (v : World) (hv : w.grownBy v none) => (HH.out.kept hv).fw 0)
      go_wp2_with (
        at_builtin
        refine wpList_append_src w2 rfl _ _ 30 rfl w.heap.size 3 i0 (.int .i64 0) 1 8 Tryd.underlying30 I0.out I1.out I2.out I3.out rfl (by decide) v F1.length (ints F1) rfl OW2.out sv G.length (ints G) rfl SR2.out (by unfold maxLen; omega) (by omega) (by have := KR2.out.size; exact this) ?_
        intro v3 w3 own3 gr3 nil3 at3
        have gr3' : w2.grownBy w3 v.ownBlock := gr3
        have KR3 := Lib.hid (own_grow KR2.out OW2.out gr3')
        have OW3 : Hid (w3.ownsRow w.heap.size 3 1 v3 F.length (ints F)) := Lib.hid (by rw [← HF.out, List.length_append, ← ints_add]; exact own3)
        have n0 := W5.out w3 KR3.out
        have nf := W5f.out w3 KR3.out
        obtain ⟨sa, cp3, rfl, hsa⟩ := own_form OW3.out
        clear own3 gr3 nil3 at3 gr3' OW2 SR2 KR2)
      have M4 := Lib.hid ((HH.out.kept KR3.out).setNow tg htg)
      have O4 := Lib.hid ((Only.of_none (lo := lo) (hi := hi) KR3.out).trans (Only.set w3 ⟨wb, 0, none⟩ (.int .u64 (tg : Nat)) hlo.1 hhi.1))
      have OW4 := Lib.hid (own_only2 OW3.out (Only.set (lo := lo) (hi := hi) w3 ⟨wb, 0, none⟩ (.int .u64 (tg : Nat)) hlo.1 hhi.1) hhw)
      generalize w3.setCell ⟨wb, 0, none⟩ (.int .u64 (tg : Nat)) = w4 at *
      clear OW3 KR3 n0 nf
      go_loopw [37] (fun it wr => ∃ (x : Nat) (Ax : Nat → Nat × Nat) (Lx : Nat → List Nat) (Cx plx : Nat → Nat), x ≤ F.length ∧ it = .int .i64 x ∧ Hid (WhMem wr wb ab lb n tg Ax Lx Cx) ∧ Hid (WInv n Ax Lx Cx S plx) ∧ Hid (Only lo hi w wr) ∧ Hid (wr.ownsRow w.heap.size 3 1 (.slice sa F.length cp3) F.length (ints F)) ∧ Hid (∀ k v, k < n → S k = some v → (k ∈ F.take x → plx k = slotN tg v.1) ∧ (k ∉ F.take x → plx k = pl k))) (fun it _ => F.length - (Go.RowKit.intOf it).toNat)
      case atStart => exact ⟨0, A, L, C, pl, Nat.zero_le _, rfl, M4, HI, O4, OW4, Lib.hid fun k v _ _ => ⟨fun h => by simp at h, fun _ => rfl⟩⟩
      case round =>
        obtain ⟨x, Ax, Lx, Cx, plx, hx, rfl, MX, IX, OX, RX, PX⟩ := hrel
        clear M4 O4 OW4
        by_cases hxl : x < F.length
        · obtain ⟨q, rfl, hqB⟩ := hsa (by omega)
          obtain ⟨k, hk⟩ : ∃ k, F[x] = k := ⟨_, rfl⟩
          have d0 : wr.cell? ⟨q, x, none⟩ = some (.int .i64 (k : Nat)) := by rw [← hk]; exact RowOf.cell (B := w.heap.size) RX.out x hxl
          have hkF : k ∈ F := by rw [← hk]; exact List.getElem_mem hxl
          have hkL : ∃ i, i < 768 ∧ k ∈ L i := by
            rw [← HF2.out] at hkF
            rcases List.mem_append.1 hkF with h | h
            · obtain ⟨i, hi, h⟩ := (rows_mem j).1 h; exact ⟨i, by omega, h⟩
            · obtain ⟨b, hb, h⟩ := (flat_mem (dg + 1)).1 h; exact ⟨_, by omega, h⟩
          obtain ⟨i, hi768, hkL⟩ := hkL
          obtain ⟨hkn, ⟨⟨at_, tu⟩, hSk⟩, -⟩ := HI.out.is i hi768 k hkL
          obtain ⟨hA, hp768, hkx⟩ := IX.out.on k _ hkn hSk
          have hbd := MX.out.bd.2 k hkn
          obtain ⟨e0, e1⟩ := MX.out.a0 k hkn
          rw [hA] at hbd e0 e1
          have c1 := MX.out.c1
          have kb := World.grownBy_alloc wr (.cells #[.int .u64 (at_ : Nat), .int .u64 (tu : Nat)] 79) none
          have MB := MX.out.kept kb
          have hC1 := IX.out.pos hp768 hkx
          have hC2 := IX.out.le (r := plx k / 64) (by omega)
          have CU1 := Lib.hid (wunset_ok k (plx k) lo hi MB hp768 hkx ⟨hC1, by omega⟩ hlo hhi)
          have IU := IX.out.unset hp768 hkx
          have hnow2 := MX.out.bd.1
          have hb64 := bitLen64 hbd.1 hnow2
          have hrl := rowN_le tg at_ hbd.1 hnow2 hb64
          have hsl := slotN_lt hrl
          have hdv : slotN tg at_ / 64 = rowN tg at_ := by unfold slotN; have := digN_lt (rowN tg at_) at_; omega
          have hno : ∀ jj, jj < 768 → k ∉ upL Lx (plx k) ((Lx (plx k)).erase k) jj := fun jj hjj h => by obtain ⟨v', hv'⟩ := (IU.is jj hjj k h).2.1; simp [upS] at hv'
          have hCs := IU.lt hkn (by simp [upS]) (r := rowN tg at_) (by omega)
          have IS := IU.set (k := k) (i := slotN tg at_) (at_, tu) hkn (by simp [upS]) hsl
          rw [hdv] at IS
          have hSS : upS (upS S k none) k (some (at_, tu)) = S := by
            funext y; by_cases e : y = k
            · subst e; simp [upS, hSk]
            · simp [upS, e]
          rw [hSS] at IS
          have CS1 : Hid (∀ v : World, WhMem v wb ab lb n tg (upA Ax k (0, 0)) (upL Lx (plx k) ((Lx (plx k)).erase k)) (upN Cx (plx k / 64) (Cx (plx k / 64) - 1)) → _) := Lib.hid fun v hv => wset_ok k at_ tu lo hi hv hbd.1 hbd.2 hb64 hkn hno (Nat.lt_of_lt_of_le hCs hn) hlo hhi
          have hsz : hi ≤ wr.heap.size := Nat.le_trans hhw OX.out.size
          have bx0 : (wr.alloc (.cells #[.int .u64 (at_ : Int), .int .u64 (tu : Int)] 79)).cell? ⟨wr.heap.size, 0, none⟩ = some (.int .u64 (at_ : Int)) := by simp
          have bx1 : (wr.alloc (.cells #[.int .u64 (at_ : Int), .int .u64 (tu : Int)] 79)).cell? ⟨wr.heap.size, 1, none⟩ = some (.int .u64 (tu : Int)) := by simp
          have hszb : wr.heap.size < (wr.alloc (.cells #[.int .u64 (at_ : Int), .int .u64 (tu : Int)] 79)).heap.size := by simp
          have ISH := Lib.hid IS
          have OB := Lib.hid (OX.out.into kb)
          have RB := Lib.hid (own_only2 RX.out (Only.of_none (lo := lo) (hi := hi) kb) hhw)
          have kn1 : (k : Int) < (n : Int) := by omega
          have HKX : Hid (F[x] = k) := Lib.hid hk
          have HXL : Hid (x < F.length) := Lib.hid hxl
          have HSK := Lib.hid hSk
          have xl : (x : Int) < (F.length : Int) := by omega
          have hx1 : (x : Int) < 100000 := by have := HFL.out; omega
          clear hA hkx IS IU hno hCs hSS hdv hsl hrl hb64 hC1 hC2 MB kb hk hkF hkL hSk hbd hp768 hnow2 HI MX IX
          go_wp2_with fail
          refine CU1.out.mono ?_
          rintro e w6 ⟨rfl, O6, M6⟩
          have b0 := (O6.cell ⟨wr.heap.size, 0, none⟩ hszb (Or.inr hsz)).trans bx0
          have b1 := (O6.cell ⟨wr.heap.size, 1, none⟩ hszb (Or.inr hsz)).trans bx1
          have CS2 := Lib.hid (CS1.out _ M6)
          have O6H := Lib.hid O6
          clear CU1 CS1 O6 M6 bx0 bx1
          go_wp2_with fail
          refine CS2.out.mono ?_
          rintro e w7 ⟨rfl, O7, M7⟩
          have M7H := Lib.hid M7
          have O7H := Lib.hid (OB.out.trans (O6H.out.trans O7))
          have R7H := Lib.hid (own_only2 (own_only2 RB.out O6H.out hhw) O7 hhw)
          clear CS2 M7 O7 b0 b1 OB O6H RB
          go_wp2
          go_roundw
          case rel =>
            refine ⟨x + 1, _, _, _, _, HXL.out, by go_num, M7H, ISH, O7H, R7H, Lib.hid fun k' v' hk' hv' => ?_⟩
            have htk : F.take (x + 1) = F.take x ++ [k] := by rw [← HKX.out]; exact (List.take_append_getElem HXL.out).symm
            have old := PX.out k' v' hk' hv'
            rw [htk]
            by_cases e : k' = k
            · subst e
              have hvv : v' = (at_, tu) := by have h1 := HSK.out; rw [hv'] at h1; injection h1
              subst hvv
              exact ⟨fun _ => by simp [upP], fun h => absurd (List.mem_append_right _ (by simp)) h⟩
            · have hup : upP plx k (slotN tg at_) k' = plx k' := by simp [upP, e]
              rw [hup]
              exact ⟨fun h => old.1 (by rcases List.mem_append.1 h with h | h; exact h; simp at h; exact absurd h e), fun h => old.2 (fun h2 => h (List.mem_append_left _ h2))⟩
          case measure => have := HXL.out; simp [Go.RowKit.intOf]; omega
        · obtain rfl : x = F.length := by omega
          clear hxl
          go_wp2
          refine ⟨rfl, .tuple #[], results_none rfl _ _ _, ⟨_, rfl⟩, OX.out, Ax, Lx, Cx, plx, MX.out, IX.out, fun k v hk hv => ?_⟩
          have old := PX.out k v hk hv
          rw [List.take_length] at old
          by_cases hF : k ∈ F
          · exact old.1 hF
          · rw [old.2 hF, HPL.out k v hk hv]
            obtain ⟨hA, hp, hkl⟩ := HI.out.on k v hk hv
            have hb := HH.out.bd.2 k hk
            rw [hA] at hb
            rw [HPL.out k v hk hv] at hkl hp
            rw [← HF2.out, List.mem_append, rows_mem, flat_mem] at hF
            have h1 : ¬ slotN now v.1 < j * 64 := fun h => hF (Or.inl ⟨_, h, hkl⟩)
            have hdl2 := digN_lt (rowN now v.1) v.1
            have hsd : slotN now v.1 = rowN now v.1 * 64 + digN (rowN now v.1) v.1 := rfl
            have h2 : ¬ (rowN now v.1 = j ∧ digN (rowN now v.1) v.1 < dg + 1) := fun h => hF (Or.inr ⟨digN (rowN now v.1) v.1, h.2, by rw [← h.1, ← hsd]; exact hkl⟩)
            have hj0 : j ≠ 0 := fun e => by have := (row_zero htg hnow).1 (HTOP.out.trans e); have := HLT.out; omega
            have hlt2 : now < v.1 := by
              rcases Nat.lt_or_ge now v.1 with h | h
              · exact h
              · have := (row_zero hb.1 hnow).2 h; omega
            exact (slotN_stays hb.1 htg HLT.out hlt2 (by rw [HTOP.out, HDG.out]; omega)).symm
end
end Go.Proofs.YtkkodhjolgcokaaDoor
