/-
  BoxOrders: what goes in comes out, first come first gone, whatever is taken between; as many go in as there is room for.
-/
import Derived.Test.YtijgdlanjhcabaaBoxRow
import Derived.Test.YtijgdlanjhcabaaPlain
import Derived.Deep.Cut
namespace Go.Proofs.Ytijgdlanjhcabaa
open Go.RowKit Go.Lib Go.Conc
set_option maxRecDepth 100000
set_option linter.unusedVariables false

theorem and31 (r : Int) : bits .and .i64 r 31 = r % 32 := by
  have := i64_mask 5 (by decide) r
  simpa using this

set_option maxRecDepth 100000 in
set_option maxHeartbeats 16000000 in
theorem orders_walk (x : Int) (sa0 : Option Addr) (len0 cap0 sb0 off0 : Nat) (zs0 : Nat → Int) (sa1 : Option Addr) (len1 cap1 sb1 off1 : Nat) (zs1 : Nat → Bool) (w : World)
    (_hm0 : len0 ≤ maxLen) (hs0 : 0 < len0 → sa0 = some ⟨sb0, off0, none⟩ ∧ sb0 < w.heap.size) (hz0 : ∀ j, j < len0 → w.cell? ⟨sb0, off0 + j, none⟩ = some (.int .i64 (zs0 j)))
    (_hm1 : len1 ≤ maxLen) (hs1 : 0 < len1 → sa1 = some ⟨sb1, off1, none⟩ ∧ sb1 < w.heap.size) (hz1 : ∀ j, j < len1 → w.cell? ⟨sb1, off1 + j, none⟩ = some (.bool (zs1 j))) :
    Calls Try.prog 4 #[.int .i64 x, .slice sa0 len0 cap0, .slice sa1 len1 cap1] w fun e w' => e = .returned (.bool true) ∧ w.grownBy w' none := by
  have C0 := Lib.hid (alive10 w)
  have R0 : Hid (∀ (v : World) (j : Nat), w.grownBy v none → j < len0 → sa0 = some ⟨sb0, off0, none⟩ ∧ v.cell? ⟨sb0, off0 + j, none⟩ = some (.int .i64 (zs0 j))) := Lib.hid fun v j k hj => by
    obtain ⟨h1, h2⟩ := hs0 (by omega)
    exact ⟨h1, (k.cell_far ⟨sb0, off0 + j, none⟩ h2 (by simp)).trans (hz0 j hj)⟩
  have R1 : Hid (∀ (v : World) (j : Nat), w.grownBy v none → j < len1 → sa1 = some ⟨sb1, off1, none⟩ ∧ v.cell? ⟨sb1, off1 + j, none⟩ = some (.bool (zs1 j))) := Lib.hid fun v j k hj => by
    obtain ⟨h1, h2⟩ := hs1 (by omega)
    exact ⟨h1, (k.cell_far ⟨sb1, off1 + j, none⟩ h2 (by simp)).trans (hz1 j hj)⟩
  clear hs0 hz0 hs1 hz1
  by_cases hl0 : 60 < len0
  · have q : (60 : Int) < (len0 : Int) := by omega
    go_enter Try.func4, Try.ntmps4
    go_wp2_with fail
    refine C0.out.mono ?_
    rintro e w1 ⟨rfl, k1⟩
    go_wp2
    go_ret
    exact ⟨rfl, k1⟩
  have q0 : ¬ (60 : Int) < (len0 : Int) := by omega
  by_cases hl1 : len1 < len0
  · have q : (len1 : Int) < (len0 : Int) := by omega
    go_enter Try.func4, Try.ntmps4
    go_wp2_with fail
    refine C0.out.mono ?_
    rintro e w1 ⟨rfl, k1⟩
    go_wp2
    go_ret
    exact ⟨rfl, k1⟩
  have q1 : ¬ (len1 : Int) < (len0 : Int) := by omega
  obtain ⟨n, hn, hn2⟩ : ∃ n : Nat, bits .and .i64 x 31 = (n : Int) ∧ n < 32 := ⟨(x % 32).toNat, by rw [and31]; omega, by omega⟩
  obtain ⟨i0, hi0, hi1, hi2, hi3⟩ := BI.int_info
  have I0 := Lib.hid hi0
  have I1 := Lib.hid hi1
  have I2 := Lib.hid hi2
  have I3 := Lib.hid hi3
  clear hi0 hi1 hi2 hi3
  go_enter Try.func4, Try.ntmps4
  go_wp2_with fail
  refine C0.out.mono ?_
  rintro e u1 ⟨rfl, k1⟩
  have G1 := Lib.hid k1
  have CN := Lib.hid (BI.new_any (n : Int) n (by omega) u1)
  clear k1 C0
  go_wp2_with fail
  refine CN.out.mono ?_
  rintro e u2 ⟨rfl, h2, k2⟩
  have ka := World.grownBy_alloc u2 (.cells #[] 3) none
  have kb := World.grownBy_alloc (u2.alloc (.cells #[] 3)) (.cells #[] 3) none
  have hs2 : (u2.alloc (.cells #[] 3)).heap.size = u2.heap.size + 1 := by show (u2.heap.push _).size = _; rw [Array.size_push]
  have hz2 : w.heap.size ≤ u2.heap.size := Nat.le_trans G1.out.size k2.size
  have H0 : Hid (OS w ((u2.alloc (.cells #[] 3)).alloc (.cells #[] 3)) (u1.heap.size + 1) u1.heap.size n [] (.slice (some ⟨u2.heap.size, 0, none⟩) 0 0) [] (.slice (some ⟨u2.heap.size + 1, 0, none⟩) 0 0) []) := by
    refine Lib.hid ⟨(h2.kept ka).kept kb, own_keep (litZ u2 w.heap.size hz2) kb, ?_, ?_, ((G1.out.trans k2).trans ka).trans kb, G1.out.size⟩
    · have := litZ (u2.alloc (.cells #[] 3)) w.heap.size (by omega)
      rw [hs2] at this
      exact this
    · intro g h1 h2
      have e1 : u2.heap.size = g := Option.some.inj h1
      have e2 : u2.heap.size + 1 = g := Option.some.inj h2
      omega
  clear h2 k2 ka kb hs2 hz2 CN G1
  go_wp2_with fail
  generalize (u2.alloc (.cells #[] 3)).alloc (.cells #[] 3) = u3 at *
  generalize u1.heap.size + 1 = bb at *
  generalize u1.heap.size = c at *
  go_loopw [8, 9, 35] (fun vi vo it wr => ∃ (j : Nat) (L : List (Nat × Int)) (I O : List Int), j ≤ len0 ∧ it = .int .i64 j ∧ Hid (OS w wr bb c n L vi I vo O) ∧ Hid (I = O ++ L.map Prod.snd) ∧ Hid (I.length ≤ j)) (fun _ _ it _ => len0 - (Go.RowKit.intOf it).toNat)
  case atStart => exact ⟨0, [], [], [], Nat.zero_le _, rfl, H0, Lib.hid rfl, Lib.hid (Nat.le_refl _)⟩
  case round =>
    obtain ⟨j, L, I, O, hj, rfl, H1, HE, HJ⟩ := hrel
    clear H0
    have hIO : I.length = O.length + L.length := by have := congrArg List.length HE.out; simpa using this
    have hIj := HJ.out
    have hOI : O.length ≤ I.length := by omega
    have HIO := Lib.hid hIO
    clear hIO
    obtain ⟨si, ci, rfl, _, _⟩ := BI.own_at H1.out.ri
    obtain ⟨so, co, rfl, _, _⟩ := BI.own_at H1.out.ro
    by_cases hlt : j < len0
    · obtain ⟨rfl, hc⟩ := R0.out wr j H1.out.gw hlt
      have qj : (j : Int) < (len0 : Int) := by omega
      have qj1 : (j : Int) < (len1 : Int) := by omega
      obtain ⟨z, hcc⟩ : ∃ c, zs0 j = c := ⟨_, rfl⟩
      rw [hcc] at hc
      clear hcc
      have qd : IntKind.i64.wrap ((I.length : Int) - (O.length : Int)) = (L.length : Int) := by have := HIO.out; rw [IntKind.wrap_i64]; omega
      by_cases hr : L.length < n
      · have qr : (L.length : Int) < (n : Int) := by omega
        have CP := Lib.hid (BI.post_ok z H1.out.bx hr)
        unfold BI.valOf at CP
        go_wp2_with fail
        refine CP.out.mono ?_
        rintro e w3 ⟨rfl, h3, k3⟩
        have H3 := Lib.hid (H1.out.on h3 k3)
        obtain ⟨L1, hL1⟩ : ∃ L1, L ++ [(wr.heap.size, z)] = L1 := ⟨_, rfl⟩
        rw [hL1] at H3
        have HL1 := Lib.hid hL1
        clear h3 k3 CP hL1 hc H1
        have ka := World.grownBy_alloc w3 (.cells #[.int .i64 z] 3) none
        have SR := Lib.hid (BI.src_one w3 (.int .i64 z) 3 rfl)
        have H4 := Lib.hid (H3.out.kept ka)
        have hb4 : Hid (w.heap.size ≤ (w3.alloc (.cells #[.int .i64 z] 3)).heap.size) := Lib.hid (Nat.le_trans H3.out.gw.size ka.size)
        clear ka H3
        obtain ⟨hsb, tk⟩ : (∀ v : World, w.grownBy v none → sa1 = some ⟨sb1, off1, none⟩ ∧ v.cell? ⟨sb1, off1 + j, none⟩ = some (.bool (zs1 j))) ∧ True := ⟨fun v k => R1.out v j k (by omega), trivial⟩
        have HSB := Lib.hid hsb
        clear hsb tk
        go_upto_region 15 with fail
        go_wp2_with (
          at_builtin
          refine wpList_append_src _ rfl _ _ 28 rfl w.heap.size 3 i0 (.int .i64 0) 1 8 Try.underlying28 I0.out I1.out I2.out I3.out rfl (by decide) _ _ _ rfl H4.out.ri _ 1 _ rfl SR.out (by unfold maxLen; omega) (by omega) hb4.out ?_
          intro vi' w5 hown' hgrow hnil hat
          have H5 := Lib.hid (H4.out.app_i [z] hown' hgrow hat)
          clear hown' hgrow hnil hat H4 SR hb4
          obtain ⟨hsa1, ht⟩ := HSB.out w5 H5.out.gw
          subst hsa1
          cases hk : zs1 j
          all_goals rw [hk] at ht; clear hk)
        · go_wp2
          go_roundw
          case rel => exact ⟨j + 1, L1, I ++ [z], O, hlt, by go_num, H5, Lib.hid (by rw [HE.out, ← HL1.out]; simp), Lib.hid (by simp; omega)⟩
          case measure => simp [Go.RowKit.intOf]; omega
        · obtain ⟨p, y, L2, rfl⟩ : ∃ p y L2, L1 = (p, y) :: L2 := by
            cases L1 with
            | nil => have := HL1.out; simp at this
            | cons a l => exact ⟨a.1, a.2, l, rfl⟩
          have CF := Lib.hid (BI.fetch_some H5.out.bx)
          unfold BI.valOf at CF
          go_wp2_with fail
          refine CF.out.mono ?_
          rintro e w6 ⟨rfl, h6, k6⟩
          have H6 := Lib.hid (H5.out.on h6 k6)
          clear h6 k6 CF H5
          have ka := World.grownBy_alloc w6 (.cells #[.int .i64 y] 3) none
          have SR := Lib.hid (BI.src_one w6 (.int .i64 y) 3 rfl)
          have H7 := Lib.hid (H6.out.kept ka)
          have hb7 : Hid (w.heap.size ≤ (w6.alloc (.cells #[.int .i64 y] 3)).heap.size) := Lib.hid (Nat.le_trans H6.out.gw.size ka.size)
          clear ka H6
          go_wp2_with (
            at_builtin
            refine wpList_append_src _ rfl _ _ 28 rfl w.heap.size 3 i0 (.int .i64 0) 1 8 Try.underlying28 I0.out I1.out I2.out I3.out rfl (by decide) _ _ _ rfl H7.out.ro _ 1 _ rfl SR.out (by unfold maxLen; omega) (by omega) hb7.out ?_
            intro vo' w8 hown' hgrow hnil hat
            have H8 := Lib.hid (H7.out.app_o [y] hown' hgrow hat)
            clear hown' hgrow hnil hat H7 SR hb7)
          go_wp2
          go_roundw
          case rel => exact ⟨j + 1, L2, I ++ [z], O ++ [y], hlt, by go_num, H8, Lib.hid (by have e := HL1.out; have := congrArg (List.map Prod.snd) e; rw [HE.out]; simp at this ⊢; exact this), Lib.hid (by simp; omega)⟩
          case measure => simp [Go.RowKit.intOf]; omega
      · have qr : ¬ (L.length : Int) < (n : Int) := by omega
        have CP := Lib.hid (BI.post_no z H1.out.bx (by omega))
        unfold BI.valOf at CP
        go_wp2_with fail
        refine CP.out.mono ?_
        rintro e w5 ⟨rfl, h3, k3⟩
        have H5 := Lib.hid (H1.out.kept k3)
        clear h3 k3 CP hc H1
        obtain ⟨rfl, ht⟩ := R1.out w5 j H5.out.gw (by omega)
        cases hk : zs1 j
        all_goals rw [hk] at ht; clear hk
        · go_wp2
          go_roundw
          case rel => exact ⟨j + 1, L, I, O, hlt, by go_num, H5, HE, Lib.hid (by omega)⟩
          case measure => simp [Go.RowKit.intOf]; omega
        · go_wp2_with fail
          clear qd qr hr HIO
          cases L with
          | nil =>
            have CF := Lib.hid (BI.fetch_none H5.out.bx)
            unfold BI.valOf BI.zeroV at CF
            refine CF.out.mono ?_
            rintro e w6 ⟨rfl, h6, k6⟩
            have H6 := Lib.hid (H5.out.kept k6)
            clear h6 k6 CF H5
            go_wp2
            go_roundw
            case rel => exact ⟨j + 1, [], I, O, hlt, by go_num, H6, HE, Lib.hid (by omega)⟩
            case measure => simp [Go.RowKit.intOf]; omega
          | cons a L2 =>
            obtain ⟨p, y⟩ := a
            have CF := Lib.hid (BI.fetch_some H5.out.bx)
            unfold BI.valOf at CF
            refine CF.out.mono ?_
            rintro e w6 ⟨rfl, h6, k6⟩
            have H6 := Lib.hid (H5.out.on h6 k6)
            clear h6 k6 CF H5
            have ka := World.grownBy_alloc w6 (.cells #[.int .i64 y] 3) none
            have SR := Lib.hid (BI.src_one w6 (.int .i64 y) 3 rfl)
            have H7 := Lib.hid (H6.out.kept ka)
            have hb7 : Hid (w.heap.size ≤ (w6.alloc (.cells #[.int .i64 y] 3)).heap.size) := Lib.hid (Nat.le_trans H6.out.gw.size ka.size)
            clear ka H6
            go_wp2_with (
              at_builtin
              refine wpList_append_src _ rfl _ _ 28 rfl w.heap.size 3 i0 (.int .i64 0) 1 8 Try.underlying28 I0.out I1.out I2.out I3.out rfl (by decide) _ _ _ rfl H7.out.ro _ 1 _ rfl SR.out (by unfold maxLen; omega) (by omega) hb7.out ?_
              intro vo' w8 hown' hgrow hnil hat
              have H8 := Lib.hid (H7.out.app_o [y] hown' hgrow hat)
              clear hown' hgrow hnil hat H7 SR hb7)
            go_wp2
            go_roundw
            case rel => exact ⟨j + 1, L2, I, O ++ [y], hlt, by go_num, H8, Lib.hid (by rw [HE.out]; simp), Lib.hid (by omega)⟩
            case measure => simp [Go.RowKit.intOf]; omega
    · obtain rfl : j = len0 := by omega
      have CA := Lib.hid (BI.all_any H1.out.bx)
      go_wp2_with fail
      refine CA.out.mono ?_
      rintro e w3 ⟨⟨va, rfl, ha⟩, h3, k3⟩
      obtain ⟨F, hF⟩ : ∃ F, L.map Prod.snd = F := ⟨_, rfl⟩
      have hFl : L.length = F.length := by rw [← hF]; simp
      have HFL := Lib.hid hFl
      have hE := HE.out
      rw [hF] at hE
      have hI : Hid (O ++ F = I) := Lib.hid hE.symm
      rw [vals_z, hF, hFl] at ha
      have H3 := Lib.hid (H1.out.on h3 k3)
      have SR := Lib.hid (src_own ha)
      have hbz : Hid (w.heap.size ≤ w3.heap.size) := Lib.hid H3.out.gw.size
      have hFb : F.length ≤ 60 := by have := congrArg List.length hE; simp at this; omega
      obtain ⟨sx, cx, hsx, _, _⟩ := BI.own_at ha
      subst hsx
      clear ha h3 k3 CA H1 hF hFl hE
      go_wp2_with (
        at_builtin
        refine wpList_append_src _ rfl _ _ 28 rfl w.heap.size 3 i0 (.int .i64 0) 1 8 Try.underlying28 I0.out I1.out I2.out I3.out rfl (by decide) _ _ _ rfl H3.out.ro _ _ _ rfl SR.out (by unfold maxLen; omega) (by omega) hbz.out ?_
        intro vo' w5 hown' hgrow hnil hat
        have H5 := Lib.hid (H3.out.app_o F hown' hgrow hat)
        rw [hI.out] at H5
        clear hown' hgrow hnil hat H3 SR hbz
        obtain ⟨so', co', rfl, _, _⟩ := BI.own_at H5.out.ro)
      have CS := Lib.hid (sameZ_yes (reads_own H5.out.ri) (reads_own H5.out.ro) (by omega))
      go_wp2_with fail
      refine CS.out.mono ?_
      rintro e w6 ⟨rfl, k6⟩
      have H6 := Lib.hid (H5.out.kept k6)
      have CL := Lib.hid (BI.len_any H6.out.bx)
      have qn : (L.length : Int) ≤ (n : Int) := by have := H6.out.bx.le; omega
      clear k6 CS H5
      go_wp2_with fail
      refine CL.out.mono ?_
      rintro e w7 ⟨rfl, rfl⟩
      go_wp2
      go_ret
      exact ⟨by simp [qn], H6.out.gw⟩
end Go.Proofs.Ytijgdlanjhcabaa
