/-
  BoxKinds: things of another type wait as numbers do: what is put in comes out, whole, first come first gone, of two boxes those of the first one ahead.
-/
import Derived.Test.YtijgdlanjhcabaaKRow
import Derived.Test.YtijgdlanjhcabaaPlain
import Derived.Deep.Cut
namespace Go.Proofs.Ytijgdlanjhcabaa
open Go.RowKit Go.Lib Go.Conc
set_option maxRecDepth 100000
set_option linter.unusedVariables false

theorem and63 (r : Int) : bits .and .i64 r 63 = r % 64 := by
  have := i64_mask 6 (by decide) r
  simpa using this
theorem lenT_zero {w : World} {ba ca na : Nat} {M : Nat → Bool} (H : BT.BxM w ba ca na [] M) : Calls Try.prog 20 #[.pointer (some ⟨ba, 0, none⟩)] w fun e w' => e = .returned (.int .i64 0) ∧ w = w' := BT.len_any H

set_option maxRecDepth 100000 in
set_option maxHeartbeats 32000000 in
theorem bkinds_walk (x : Int) (sa1 : Option Addr) (len1 cap1 sb1 off1 : Nat) (zs1 : Nat → ByteArray) (sa2 : Option Addr) (len2 cap2 sb2 off2 : Nat) (zs2 : Nat → Int) (sa3 : Option Addr) (len3 cap3 sb3 off3 : Nat) (zs3 : Nat → Bool) (w : World)
    (_hm1 : len1 ≤ maxLen) (hs1 : 0 < len1 → sa1 = some ⟨sb1, off1, none⟩ ∧ sb1 < w.heap.size) (hz1 : ∀ j, j < len1 → w.cell? ⟨sb1, off1 + j, none⟩ = some (.string (zs1 j)))
    (_hm2 : len2 ≤ maxLen) (hs2 : 0 < len2 → sa2 = some ⟨sb2, off2, none⟩ ∧ sb2 < w.heap.size) (hz2 : ∀ j, j < len2 → w.cell? ⟨sb2, off2 + j, none⟩ = some (.int .u64 (zs2 j)))
    (_hm3 : len3 ≤ maxLen) (hs3 : 0 < len3 → sa3 = some ⟨sb3, off3, none⟩ ∧ sb3 < w.heap.size) (hz3 : ∀ j, j < len3 → w.cell? ⟨sb3, off3 + j, none⟩ = some (.bool (zs3 j))) :
    Calls Try.prog 5 #[.int .i64 x, .slice sa1 len1 cap1, .slice sa2 len2 cap2, .slice sa3 len3 cap3] w fun e w' => e = .returned (.bool true) ∧ w.grownBy w' none := by
  have C0 := Lib.hid (alive10 w)
  have R1 : Hid (∀ (v : World) (j : Nat), w.grownBy v none → j < len1 → sa1 = some ⟨sb1, off1, none⟩ ∧ v.cell? ⟨sb1, off1 + j, none⟩ = some (.string (zs1 j))) := Lib.hid fun v j k hj => by
    obtain ⟨h1, h2⟩ := hs1 (by omega)
    exact ⟨h1, (k.cell_far ⟨sb1, off1 + j, none⟩ h2 (by simp)).trans (hz1 j hj)⟩
  have R2 : Hid (∀ (v : World) (j : Nat), w.grownBy v none → j < len2 → sa2 = some ⟨sb2, off2, none⟩ ∧ v.cell? ⟨sb2, off2 + j, none⟩ = some (.int .u64 (zs2 j))) := Lib.hid fun v j k hj => by
    obtain ⟨h1, h2⟩ := hs2 (by omega)
    exact ⟨h1, (k.cell_far ⟨sb2, off2 + j, none⟩ h2 (by simp)).trans (hz2 j hj)⟩
  have R3 : Hid (∀ (v : World) (j : Nat), w.grownBy v none → j < len3 → sa3 = some ⟨sb3, off3, none⟩ ∧ v.cell? ⟨sb3, off3 + j, none⟩ = some (.bool (zs3 j))) := Lib.hid fun v j k hj => by
    obtain ⟨h1, h2⟩ := hs3 (by omega)
    exact ⟨h1, (k.cell_far ⟨sb3, off3 + j, none⟩ h2 (by simp)).trans (hz3 j hj)⟩
  clear hs1 hz1 hs2 hz2 hs3 hz3
  by_cases hl1 : 40 < len1
  · have q : (40 : Int) < (len1 : Int) := by omega
    go_enter Try.func5, Try.ntmps5
    go_wp2_with fail
    refine C0.out.mono ?_
    rintro e w1 ⟨rfl, k1⟩
    go_wp2
    go_ret
    exact ⟨rfl, k1⟩
  have q1 : ¬ (40 : Int) < (len1 : Int) := by omega
  by_cases hl2 : len2 < len1
  · have q : (len2 : Int) < (len1 : Int) := by omega
    go_enter Try.func5, Try.ntmps5
    go_wp2_with fail
    refine C0.out.mono ?_
    rintro e w1 ⟨rfl, k1⟩
    go_wp2
    go_ret
    exact ⟨rfl, k1⟩
  have q2 : ¬ (len2 : Int) < (len1 : Int) := by omega
  by_cases hl3 : len3 < len1
  · have q : (len3 : Int) < (len1 : Int) := by omega
    go_enter Try.func5, Try.ntmps5
    go_wp2_with fail
    refine C0.out.mono ?_
    rintro e w1 ⟨rfl, k1⟩
    go_wp2
    go_ret
    exact ⟨rfl, k1⟩
  have q3 : ¬ (len3 : Int) < (len1 : Int) := by omega
  obtain ⟨n, hn, hn2⟩ : ∃ n : Nat, bits .and .i64 x 63 = (n : Int) ∧ n < 64 := ⟨(x % 64).toNat, by rw [and63]; omega, by omega⟩
  obtain ⟨i0, hi0, hi1, hi2, hi3⟩ := thing_info
  have I0 := Lib.hid hi0
  have I1 := Lib.hid hi1
  have I2 := Lib.hid hi2
  have I3 := Lib.hid hi3
  clear hi0 hi1 hi2 hi3
  go_enter Try.func5, Try.ntmps5
  go_wp2_with fail
  refine C0.out.mono ?_
  rintro e u1 ⟨rfl, k1⟩
  have G1 := Lib.hid k1
  have CN := Lib.hid (BT.new_any (n : Int) n (by omega) u1)
  clear k1 C0
  go_wp2_with fail
  refine CN.out.mono ?_
  rintro e u2 ⟨rfl, h2, k2⟩
  have H2 := Lib.hid h2
  have K2 := Lib.hid k2
  have CN2 := Lib.hid (BT.new_any (n : Int) n (by omega) u2)
  clear h2 k2 CN
  go_wp2_with fail
  refine CN2.out.mono ?_
  rintro e u3 ⟨rfl, h3, k3⟩
  have ka := World.grownBy_alloc u3 (.cells #[] 49) none
  have kb := World.grownBy_alloc (u3.alloc (.cells #[] 49)) (.cells #[] 49) none
  have hs3 : (u3.alloc (.cells #[] 49)).heap.size = u3.heap.size + 1 := BT.size_alloc ..
  have hw3 : w.grownBy u3 none := (G1.out.trans K2.out).trans k3
  have hz3 : w.heap.size ≤ u3.heap.size := hw3.size
  have H0 : Hid (KS w ((u3.alloc (.cells #[] 49)).alloc (.cells #[] 49)) (u1.heap.size + 1) u1.heap.size (u2.heap.size + 1) u2.heap.size n [] [] (.slice (some ⟨u3.heap.size, 0, none⟩) 0 0) (.slice (some ⟨u3.heap.size + 1, 0, none⟩) 0 0)) := by
    refine Lib.hid ⟨⟨((H2.out.kept k3).kept ka).kept kb, (h3.kept ka).kept kb, (hw3.trans ka).trans kb, fun e => by have := H2.out.lt.2.1; omega, G1.out.size, Nat.le_trans G1.out.size K2.out.size⟩, own_keep2 (lit2 u3 w.heap.size hz3) kb, ?_, ?_⟩
    · have := lit2 (u3.alloc (.cells #[] 49)) w.heap.size (by omega)
      rw [hs3] at this
      exact this
    · intro g h1 h2
      have e1 : u3.heap.size = g := Option.some.inj h1
      have e2 : u3.heap.size + 1 = g := Option.some.inj h2
      omega
  clear h3 k3 ka kb hs3 hz3 hw3 CN2 G1 H2 K2
  go_wp2_with fail
  generalize (u3.alloc (.cells #[] 49)).alloc (.cells #[] 49) = u4 at *
  generalize u1.heap.size + 1 = ba at *
  generalize u1.heap.size = ca at *
  generalize u2.heap.size + 1 = bb at *
  generalize u2.heap.size = cb at *
  go_loopw [11, 12, 51] (fun vx vy it wr => ∃ (j : Nat) (LA LB : List (Nat × BT.Vt)), j ≤ len1 ∧ it = .int .i64 j ∧ Hid (KS w wr ba ca bb cb n LA LB vx vy) ∧ Hid (LA.length + LB.length ≤ j)) (fun _ _ it _ => len1 - (Go.RowKit.intOf it).toNat)
  case atStart => exact ⟨0, [], [], Nat.zero_le _, rfl, H0, Lib.hid (Nat.le_refl _)⟩
  case round =>
    obtain ⟨j, LA, LB, hj, rfl, H1, HJ⟩ := hrel
    clear H0
    have hab := HJ.out
    obtain ⟨sx, cx, rfl, _, _⟩ := BI.own_at H1.out.rx
    obtain ⟨sy, cy, rfl, _, _⟩ := BI.own_at H1.out.ry
    by_cases hlt : j < len1
    · obtain ⟨rfl, c1⟩ := R1.out wr j H1.out.k.gw hlt
      obtain ⟨rfl, c2⟩ := R2.out wr j H1.out.k.gw (by omega)
      obtain ⟨rfl, c3⟩ := R3.out wr j H1.out.k.gw (by omega)
      have qj1 : (j : Int) < (len1 : Int) := by omega
      have qj2 : (j : Int) < (len2 : Int) := by omega
      have qj3 : (j : Int) < (len3 : Int) := by omega
      obtain ⟨s, hss⟩ : ∃ c, zs1 j = c := ⟨_, rfl⟩
      obtain ⟨u, huu⟩ : ∃ c, zs2 j = c := ⟨_, rfl⟩
      rw [hss] at c1
      rw [huu] at c2
      clear hss huu
      have kv := World.grownBy_alloc wr (.cells #[.string s, .int .u64 u] 49) none
      have H2 := Lib.hid (H1.out.kept kv)
      have c3' : (wr.alloc (.cells #[.string s, .int .u64 u] 49)).cell? ⟨sb3, off3 + j, none⟩ = some (.bool (zs3 j)) := (R3.out _ j H2.out.k.gw (by omega)).2
      have HV : Hid ((wr.alloc (.cells #[.string s, .int .u64 u] 49)).heap[wr.heap.size]? = some (.cells #[.string s, .int .u64 u] 49 (0, 0))) := Lib.hid (heap_alloc_new _ _)
      clear kv H1 c3
      cases hk : zs3 j
      all_goals rw [hk] at c3'; clear hk
      · by_cases hr : LB.length < n
        · have CP := Lib.hid (BT.post_ok s u H2.out.k.b hr)
          go_wp2_with fail
          generalize wr.alloc (.cells #[.string s, .int .u64 u] 49) = w2 at *
          generalize wr.heap.size = vb at *
          refine CP.out.mono ?_
          rintro e w3 ⟨rfl, h3, k3⟩
          have hv3 : w3.heap[vb]? = some (.cells #[.string s, .int .u64 u] 49 (0, 0)) := (k3.block vb (BI.blk_lt HV.out) (by
            have : vb ≠ cb := fun e => ch_notT H2.out.k.b _ _ _ (by rw [← e]; exact HV.out)
            omega)).trans HV.out
          have v0 := BI.cell_blk hv3 0
          have v1 := BI.cell_blk hv3 1
          simp only [List.getElem?_toArray, List.getElem?_cons_zero, List.getElem?_cons_succ] at v0 v1
          have ka := World.grownBy_alloc w3 (.cells #[.string s, .int .u64 u] 49) none
          have SR := Lib.hid (src_two w3 s u 49)
          have HP := Lib.hid (And.intro h3 k3)
          have KA := Lib.hid ka
          have RX := Lib.hid (own_keep2 (own_chT H2.out.ry H2.out.k.b k3) ka)
          have hb4 : Hid (w.heap.size ≤ (w3.alloc (.cells #[.string s, .int .u64 u] 49)).heap.size) := Lib.hid (Nat.le_trans H2.out.k.gw.size (Nat.le_trans k3.size ka.size))
          clear h3 k3 ka hv3 CP
          go_wp2_with (
            at_builtin
            refine wpList_append_src _ rfl _ _ 50 rfl w.heap.size 49 i0 (.agg #[.string ⟨#[]⟩, .int .u64 0]) 2 24 Try.underlying50 I0.out I1.out I2.out I3.out rfl (by decide) _ _ _ rfl RX.out _ 1 _ rfl SR.out (by unfold maxLen; omega) (by omega) hb4.out ?_
            intro v' w5 hown' hgrow hnil hat
            have H5 := Lib.hid (H2.out.app_y HP.out.1 HP.out.2 KA.out hown' hgrow hat)
            clear hown' hgrow hnil hat SR hb4 RX HP KA)
          go_wp2
          go_roundw
          case rel => exact ⟨j + 1, LA, _, hlt, by go_num, H5, Lib.hid (by simp; omega)⟩
          case measure => simp [Go.RowKit.intOf]; omega
        · have CP := Lib.hid (BT.post_no s u H2.out.k.b (by omega))
          go_wp2_with fail
          generalize wr.alloc (.cells #[.string s, .int .u64 u] 49) = w2 at *
          refine CP.out.mono ?_
          rintro e w3 ⟨rfl, h3, k3⟩
          have H3 := Lib.hid (H2.out.kept k3)
          clear h3 k3 CP
          go_wp2
          go_roundw
          case rel => exact ⟨j + 1, LA, LB, hlt, by go_num, H3, Lib.hid (by omega)⟩
          case measure => simp [Go.RowKit.intOf]; omega
      · by_cases hr : LA.length < n
        · have CP := Lib.hid (BT.post_ok s u H2.out.k.a hr)
          go_wp2_with fail
          generalize wr.alloc (.cells #[.string s, .int .u64 u] 49) = w2 at *
          generalize wr.heap.size = vb at *
          refine CP.out.mono ?_
          rintro e w3 ⟨rfl, h3, k3⟩
          have hv3 : w3.heap[vb]? = some (.cells #[.string s, .int .u64 u] 49 (0, 0)) := (k3.block vb (BI.blk_lt HV.out) (by
            have : vb ≠ ca := fun e => ch_notT H2.out.k.a _ _ _ (by rw [← e]; exact HV.out)
            omega)).trans HV.out
          have v0 := BI.cell_blk hv3 0
          have v1 := BI.cell_blk hv3 1
          simp only [List.getElem?_toArray, List.getElem?_cons_zero, List.getElem?_cons_succ] at v0 v1
          have ka := World.grownBy_alloc w3 (.cells #[.string s, .int .u64 u] 49) none
          have SR := Lib.hid (src_two w3 s u 49)
          have HP := Lib.hid (And.intro h3 k3)
          have KA := Lib.hid ka
          have RX := Lib.hid (own_keep2 (own_chT H2.out.rx H2.out.k.a k3) ka)
          have hb4 : Hid (w.heap.size ≤ (w3.alloc (.cells #[.string s, .int .u64 u] 49)).heap.size) := Lib.hid (Nat.le_trans H2.out.k.gw.size (Nat.le_trans k3.size ka.size))
          clear h3 k3 ka hv3 CP
          go_wp2_with (
            at_builtin
            refine wpList_append_src _ rfl _ _ 50 rfl w.heap.size 49 i0 (.agg #[.string ⟨#[]⟩, .int .u64 0]) 2 24 Try.underlying50 I0.out I1.out I2.out I3.out rfl (by decide) _ _ _ rfl RX.out _ 1 _ rfl SR.out (by unfold maxLen; omega) (by omega) hb4.out ?_
            intro v' w5 hown' hgrow hnil hat
            have H5 := Lib.hid (H2.out.app_x HP.out.1 HP.out.2 KA.out hown' hgrow hat)
            clear hown' hgrow hnil hat SR hb4 RX HP KA)
          go_wp2
          go_roundw
          case rel => exact ⟨j + 1, _, LB, hlt, by go_num, H5, Lib.hid (by simp; omega)⟩
          case measure => simp [Go.RowKit.intOf]; omega
        · have CP := Lib.hid (BT.post_no s u H2.out.k.a (by omega))
          go_wp2_with fail
          generalize wr.alloc (.cells #[.string s, .int .u64 u] 49) = w2 at *
          refine CP.out.mono ?_
          rintro e w3 ⟨rfl, h3, k3⟩
          have H3 := Lib.hid (H2.out.kept k3)
          clear h3 k3 CP
          go_wp2
          go_roundw
          case rel => exact ⟨j + 1, LA, LB, hlt, by go_num, H3, Lib.hid (by omega)⟩
          case measure => simp [Go.RowKit.intOf]; omega
    · obtain rfl : j = len1 := by omega
      obtain ⟨X, hX⟩ : ∃ X, LA.map Prod.snd = X := ⟨_, rfl⟩
      obtain ⟨Y, hY⟩ : ∃ Y, LB.map Prod.snd = Y := ⟨_, rfl⟩
      have hXl : LA.length = X.length := by rw [← hX]; simp
      have hYl : LB.length = Y.length := by rw [← hY]; simp
      have RX0 := H1.out.rx
      have RY0 := H1.out.ry
      rw [hX] at RX0
      rw [hY] at RY0
      rw [hXl] at RX0 hab ⊢
      rw [hYl] at RY0 hab ⊢
      have RX := Lib.hid RX0
      have HKB := Lib.hid H1.out.k
      have SR := Lib.hid (src_own2 RY0)
      have hbz : Hid (w.heap.size ≤ wr.heap.size) := Lib.hid H1.out.k.gw.size
      have HX := Lib.hid (And.intro hX hY)
      have HXL := Lib.hid (And.intro hXl hYl)
      clear RX0 RY0 hX hY hXl hYl H1 HJ
      go_wp2_with (
        at_builtin
        refine wpList_append_src _ rfl _ _ 50 rfl w.heap.size 49 i0 (.agg #[.string ⟨#[]⟩, .int .u64 0]) 2 24 Try.underlying50 I0.out I1.out I2.out I3.out rfl (by decide) _ _ _ rfl RX.out _ _ _ rfl SR.out (by unfold maxLen; omega) (by omega) hbz.out ?_
        intro vr w5 hown' hgrow hnil hat
        have HK5 := Lib.hid (HKB.out.byRow RX.out hgrow)
        rw [cells2_add] at hown'
        have RR := Lib.hid hown'
        obtain ⟨sr, cr, rfl, _, hrg⟩ := BI.own_at hown'
        have HRG := Lib.hid hrg
        clear hown' hgrow hnil hat HKB RX SR hbz hrg)
      go_loopw [85] (fun it wr => ∃ (k : Nat) (LA' LB' : List (Nat × BT.Vt)), k ≤ X.length + Y.length ∧ it = .int .i64 k ∧ Hid (KB w wr ba ca bb cb n LA' LB') ∧ Hid (LA'.map Prod.snd ++ LB'.map Prod.snd = (X ++ Y).drop k) ∧ Hid (LA'.length = X.length - k) ∧ Hid (wr.ownsRow w.heap.size 49 2 (.slice sr (X.length + Y.length) cr) (X.length + Y.length) (cells2 (X ++ Y)))) (fun it _ => X.length + Y.length - (Go.RowKit.intOf it).toNat)
      case atStart => exact ⟨0, LA, LB, Nat.zero_le _, rfl, HK5, Lib.hid (by rw [HX.out.1, HX.out.2]; rfl), Lib.hid HXL.out.1, RR⟩
      case round =>
        obtain ⟨k, LA', LB', hk, rfl, HK, HD, HL, RR⟩ := hrel
        clear HK5
        by_cases hkl : k < X.length + Y.length
        · have qk : (k : Int) < ((X.length + Y.length : Nat) : Int) := by omega
          obtain ⟨g, hsr, hgb⟩ := HRG.out (by omega)
          subst hsr
          obtain ⟨v, hv⟩ : ∃ v, (X ++ Y)[k]? = some v := ⟨_, List.getElem?_eq_getElem (by simp; omega)⟩
          obtain ⟨s, u⟩ := v
          obtain ⟨d0, d1⟩ := cells2_at _ _ _ hv
          have c0 := own_cell2 RR.out d0 hgb
          have c1 := own_cell2 RR.out d1 hgb
          simp only at c0 c1
          have hdr : (X ++ Y).drop k = (s, u) :: (X ++ Y).drop (k + 1) := by
            obtain ⟨h1, h2⟩ := List.getElem?_eq_some_iff.1 hv
            rw [List.drop_eq_getElem_cons h1, h2]
          have HDR := Lib.hid hdr
          have kv := World.grownBy_alloc wr (.cells #[.string s, .int .u64 u] 49) none
          have H2 := Lib.hid (HK.out.kept kv)
          have R2 := Lib.hid (own_keep2 RR.out kv)
          have HV : Hid ((wr.alloc (.cells #[.string s, .int .u64 u] 49)).heap[wr.heap.size]? = some (.cells #[.string s, .int .u64 u] 49 (0, 0))) := Lib.hid (heap_alloc_new _ _)
          clear d0 d1 hv hdr kv HK RR hgb
          cases LA' with
          | cons a0 LA2 =>
            obtain ⟨p, s', u'⟩ := a0
            have hd := HD.out
            rw [HDR.out] at hd
            simp only [List.map_cons, List.cons_append, List.cons.injEq, Prod.mk.injEq] at hd
            obtain ⟨⟨e1, e2⟩, hd2⟩ := hd
            have e1 := e1.symm
            have e2 := e2.symm
            subst e1
            subst e2
            have HD2 := Lib.hid hd2
            have hl0 := HL.out
            simp only [List.length_cons] at hl0
            have qx : (k : Int) < (X.length : Int) := by omega
            have HL2 : Hid (LA2.length = X.length - (k + 1)) := Lib.hid (by omega)
            have CE := Lib.hid (BT.either_first (some ⟨bb, 0, none⟩) H2.out.a)
            clear hd2 hl0 HD HL
            go_wp2_with fail
            generalize wr.alloc (.cells #[.string s, .int .u64 u] 49) = w2 at *
            generalize wr.heap.size = vb at *
            refine CE.out.mono ?_
            rintro e w3 ⟨rfl, h3, k3⟩
            have kc := World.grownBy_alloc w3 (.cells #[.string s, .int .u64 u] 49) none
            have hv3 : w3.heap[vb]? = some (.cells #[.string s, .int .u64 u] 49 (0, 0)) := (k3.block vb (BI.blk_lt HV.out) (by
              have : vb ≠ ca := fun e => ch_notT H2.out.a _ _ _ (by rw [← e]; exact HV.out)
              omega)).trans HV.out
            have hv4 := (kc.block vb (BI.blk_lt hv3) (by simp)).trans hv3
            have v0 := BI.cell_blk hv4 0
            have v1 := BI.cell_blk hv4 1
            simp only [List.getElem?_toArray, List.getElem?_cons_zero, List.getElem?_cons_succ] at v0 v1
            have H3 := Lib.hid ((H2.out.on_a h3 k3).kept kc)
            have R3' := Lib.hid (own_keep2 (own_chT R2.out H2.out.a k3) kc)
            clear h3 k3 kc hv3 hv4 CE H2 R2 HV c0 c1
            go_wp2
            go_roundw
            case rel => exact ⟨k + 1, LA2, LB', hkl, by go_num, H3, HD2, HL2, R3'⟩
            case measure => simp [Go.RowKit.intOf]; omega
          | nil =>
            cases LB' with
            | nil =>
              have hd := HD.out
              rw [HDR.out] at hd
              simp at hd
            | cons a0 LB2 =>
              obtain ⟨p, s', u'⟩ := a0
              have hd := HD.out
              rw [HDR.out] at hd
              simp only [List.map_nil, List.nil_append, List.map_cons, List.cons.injEq, Prod.mk.injEq] at hd
              obtain ⟨⟨e1, e2⟩, hd2⟩ := hd
              have e1 := e1.symm
              have e2 := e2.symm
              subst e1
              subst e2
              have HD2 : Hid (([] : List (Nat × BT.Vt)).map Prod.snd ++ LB2.map Prod.snd = (X ++ Y).drop (k + 1)) := Lib.hid hd2
              have hl0 := HL.out
              simp only [List.length_nil] at hl0
              have qx : ¬ (k : Int) < (X.length : Int) := by omega
              have HL2 : Hid (([] : List (Nat × BT.Vt)).length = X.length - (k + 1)) := Lib.hid (by simp; omega)
              have CE := Lib.hid (BT.either_second H2.out.a H2.out.b)
              clear hd2 hl0 HD HL
              go_wp2_with fail
              generalize wr.alloc (.cells #[.string s, .int .u64 u] 49) = w2 at *
              generalize wr.heap.size = vb at *
              refine CE.out.mono ?_
              rintro e w3 ⟨rfl, h3, k3⟩
              have kc := World.grownBy_alloc w3 (.cells #[.string s, .int .u64 u] 49) none
              have hv3 : w3.heap[vb]? = some (.cells #[.string s, .int .u64 u] 49 (0, 0)) := (k3.block vb (BI.blk_lt HV.out) (by
                have : vb ≠ cb := fun e => ch_notT H2.out.b _ _ _ (by rw [← e]; exact HV.out)
                omega)).trans HV.out
              have hv4 := (kc.block vb (BI.blk_lt hv3) (by simp)).trans hv3
              have v0 := BI.cell_blk hv4 0
              have v1 := BI.cell_blk hv4 1
              simp only [List.getElem?_toArray, List.getElem?_cons_zero, List.getElem?_cons_succ] at v0 v1
              have H3 := Lib.hid ((H2.out.on_b h3 k3).kept kc)
              have R3' := Lib.hid (own_keep2 (own_chT R2.out H2.out.b k3) kc)
              clear h3 k3 kc hv3 hv4 CE H2 R2 HV c0 c1
              go_wp2
              go_roundw
              case rel => exact ⟨k + 1, [], LB2, hkl, by go_num, H3, HD2, HL2, R3'⟩
              case measure => simp [Go.RowKit.intOf]; omega
        · obtain rfl : k = X.length + Y.length := by omega
          have hd := HD.out
          rw [List.drop_eq_nil_of_le (by simp)] at hd
          have hd := List.append_eq_nil_iff.1 hd
          obtain rfl : LA' = [] := List.map_eq_nil_iff.1 hd.1
          obtain rfl : LB' = [] := List.map_eq_nil_iff.1 hd.2
          have CE := Lib.hid (BT.either_none HK.out.a HK.out.b)
          clear hd HD HL RR
          go_wp2_with fail
          refine CE.out.mono ?_
          rintro e w6 ⟨rfl, k6⟩
          have H6 := Lib.hid ((HK.out.kept k6).kept (World.grownBy_alloc w6 (.cells #[.string ⟨#[]⟩, .int .u64 0] 49) none))
          clear k6 CE HK
          have CL1 := Lib.hid (lenT_zero H6.out.a)
          have CL2 := Lib.hid (lenT_zero H6.out.b)
          go_wp2_with fail
          refine CL1.out.mono ?_
          rintro e w7 ⟨rfl, rfl⟩
          go_wp2_with fail
          refine CL2.out.mono ?_
          rintro e w8 ⟨rfl, rfl⟩
          go_wp2
          go_ret
          exact ⟨by simp, H6.out.gw⟩
end Go.Proofs.Ytijgdlanjhcabaa
