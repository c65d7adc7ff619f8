/-
  PollApart: what is done with one device makes no difference for what is ready on another one.
-/
import Derived.Test.YtpnipmjjhiaieaaPApart0
namespace Go.Proofs.Ytpnipmjjhiaieaa
open Go.RowKit Go.Lib BN
set_option maxRecDepth 100000
set_option linter.unusedVariables false
/-- Two polls, a step's box, and the row of both. -/
structure A2 (W w : World) (z sl pa qa pb qb : Nat) (s t : Ps) (a : Array Value) : Prop where
  p : PP W w (fun j => j = z ∨ j = sl) pa qa pb qb 2 64 2 2 s t
  z : w.heap[z]? = some (.cells a 32 (0, 0))
  l : w.heap[sl]? = some (.cells #[.pointer (some ⟨pa, 0, none⟩), .pointer (some ⟨pb, 0, none⟩)] 26 (0, 0))
theorem PP.q2a {W w : World} {B : Nat → Prop} {pa qa pb qb n cap : Nat} {Mx : Int} {s t : Ps} (H : PP W w B pa qa pb qb n cap 2 Mx s t) : Q2 s.Q ∧ Q2 t.Q := by
  obtain ⟨F, hF⟩ := H.fa
  obtain ⟨E, hE⟩ := H.fb
  exact ⟨hF.qnd, hE.qnd⟩
theorem PP.nts {W w : World} {B : Nat → Prop} {pa qa pb qb n cap D : Nat} {Mx : Int} {s t : Ps} (H : PP W w B pa qa pb qb n cap D Mx s t) : (∀ v ∈ s.N, 0 ≤ v.1) ∧ ∀ v ∈ t.N, 0 ≤ v.1 := by
  obtain ⟨F, hF⟩ := H.fa
  obtain ⟨E, hE⟩ := H.fb
  exact ⟨fun v hv => (hF.nt v hv).1, fun v hv => (hE.nt v hv).1⟩
set_option maxRecDepth 100000 in
set_option maxHeartbeats 64000000 in
theorem papart_walk (sa1 : Option Addr) (len1 cap1 sb1 off1 : Nat) (zs1 : Nat → Nat → Int) (hh1 : Nat → Nat) (w : World)
    (_hm1 : len1 ≤ maxLen) (hs1 : 0 < len1 → sa1 = some ⟨sb1, off1, none⟩ ∧ sb1 < w.heap.size) (hz1 : ∀ j, j < len1 → (∀ i, i < 5 → i ≠ 3 → w.cell? ⟨sb1, off1 + j * 5 + i, none⟩ = some (.int .i64 (zs1 j i))) ∧ w.cell? ⟨sb1, off1 + j * 5 + 3, none⟩ = some (.int .u64 (hh1 j : Nat)) ∧ hh1 j < 18446744073709551616) :
    Calls Try.prog 6 #[.slice sa1 len1 cap1] w fun e w' => e = .returned (.bool true) ∧ w.grownBy w' none := by
  have C0 := Lib.hid (alive13 w)
  have R0 : Hid (∀ (v : World) (j : Nat), w.grownBy v none → j < len1 → sa1 = some ⟨sb1, off1, none⟩ ∧ v.cell? ⟨sb1, off1 + j * 5, none⟩ = some (.int .i64 (zs1 j 0)) ∧ v.cell? ⟨sb1, off1 + j * 5 + 1, none⟩ = some (.int .i64 (zs1 j 1)) ∧ v.cell? ⟨sb1, off1 + j * 5 + 2, none⟩ = some (.int .i64 (zs1 j 2)) ∧ v.cell? ⟨sb1, off1 + j * 5 + 3, none⟩ = some (.int .u64 (hh1 j : Nat)) ∧ v.cell? ⟨sb1, off1 + j * 5 + 4, none⟩ = some (.int .i64 (zs1 j 4))) := Lib.hid fun v j k hj => by
    obtain ⟨h1, h2⟩ := hs1 (by omega)
    obtain ⟨a1, a2, _⟩ := hz1 j hj
    have far := fun o => k.cell_far ⟨sb1, o, none⟩ h2 (by simp)
    exact ⟨h1, (far _).trans (a1 0 (by omega) (by omega)), (far _).trans (a1 1 (by omega) (by omega)), (far _).trans (a1 2 (by omega) (by omega)), (far _).trans a2, (far _).trans (a1 4 (by omega) (by omega))⟩
  clear hs1 hz1
  by_cases hl0 : 40 < len1
  · have q : (40 : Int) < (len1 : Int) := by omega
    go_enter Try.func6, Try.ntmps6
    go_wp2_with fail
    refine C0.out.mono ?_
    rintro e w1 ⟨rfl, k1⟩
    go_wp2
    go_ret
    exact ⟨rfl, k1⟩
  have q0 : ¬ (40 : Int) < (len1 : Int) := by omega
  go_enter Try.func6, Try.ntmps6
  go_wp2_with fail
  refine C0.out.mono ?_
  rintro e u0 ⟨rfl, k0⟩
  have K0 := Lib.hid k0
  have CQ := Lib.hid (qu_new 0 2 2 0 2 (by decide) (by decide) u0)
  clear k0 C0
  go_wp2_with fail
  refine CQ.out.mono ?_
  rintro e u1 ⟨qa, rfl, k1, hq1⟩
  have K1 := Lib.hid k1
  have HQ1 := Lib.hid hq1
  have CQ2 := Lib.hid (qu_new 0 2 2 0 2 (by decide) (by decide) u1)
  clear k1 hq1 CQ
  go_wp2_with fail
  refine CQ2.out.mono ?_
  rintro e u2 ⟨qb, rfl, k2, hq2⟩
  have K2 := Lib.hid k2
  have HQ2 := Lib.hid hq2
  have CN := Lib.hid (po_new (HQ1.out.kept k2) 2 64 2 64 (by decide) (by decide))
  clear k2 hq2 CQ2
  go_wp2_with fail
  refine CN.out.mono ?_
  rintro e u3 ⟨pa, rfl, k3, h1⟩
  have K3 := Lib.hid k3
  have H1 := Lib.hid h1
  have CN2 := Lib.hid (po_new (HQ2.out.kept k3) 2 64 2 64 (by decide) (by decide))
  clear k3 h1 CN
  go_wp2_with fail
  refine CN2.out.mono ?_
  rintro e u4 ⟨pb, rfl, k4, h2⟩
  have H0 : Hid (PP w u4 (fun _ => False) pa qa pb qb 2 64 2 2 ⟨fun _ => gz, [], 0, []⟩ ⟨fun _ => gz, [], 0, []⟩) := Lib.hid (PP.new K0.out K1.out K2.out K3.out k4 H1.out h2)
  have A0 := Lib.hid AR.start
  clear k4 h2 CN2 K0 K1 K2 K3 H1 HQ1 HQ2
  go_wp2_with fail
  go_loopw [28] (fun it wr => ∃ (i : Nat) (s t : Ps), i ≤ len1 ∧ it = .int .i64 i ∧ Hid (PP w wr (fun _ => False) pa qa pb qb 2 64 2 2 s t) ∧ Hid (AR i s t)) (fun it _ => len1 - (intOf it).toNat)
  case atStart => exact ⟨0, _, _, Nat.zero_le _, rfl, H0, A0⟩
  case round =>
    clear H0 A0
    obtain ⟨i, s, t, hi, rfl, H, HA⟩ := hrel
    by_cases hlt : i < len1
    · have qi : (i : Int) < (len1 : Int) := by omega
      have hib : i < 64 := by omega
      obtain ⟨rfl, c0, c1, c2, c3, c4⟩ := R0.out wr i H.out.gw hlt
      obtain ⟨kd, hkd⟩ : ∃ x, zs1 i 0 = x := ⟨_, rfl⟩
      obtain ⟨dv, hdv⟩ : ∃ x, zs1 i 1 = x := ⟨_, rfl⟩
      obtain ⟨mk, hmk⟩ : ∃ x, zs1 i 2 = x := ⟨_, rfl⟩
      obtain ⟨md, hmd⟩ : ∃ x, zs1 i 4 = x := ⟨_, rfl⟩
      obtain ⟨hd, hhd⟩ : ∃ x : Int, ((hh1 i : Nat) : Int) = x := ⟨_, rfl⟩
      rw [hkd] at c0
      rw [hdv] at c1
      rw [hmk] at c2
      rw [hhd] at c3
      rw [hmd] at c4
      have xd := and1 dv
      obtain ⟨d, hdd⟩ : ∃ n : Nat, dv % 2 = (n : Int) := ⟨(dv % 2).toNat, by omega⟩
      rw [hdd] at xd
      have hd2 : d < 2 := by omega
      clear hkd hdv hmk hmd hhd hdd
      obtain ⟨z, hz⟩ : ∃ b, wr.heap.size = b := ⟨_, rfl⟩
      obtain ⟨ar, har⟩ : ∃ a : Array Value, a = #[.int .i64 kd, .int .i64 (d : Int), .int .i64 mk, .int .u64 hd, .int .i64 md] := ⟨_, rfl⟩
      have H1 := H.out.add (.cells ar 32)
      have Z1 : (wr.alloc (.cells ar 32)).heap[z]? = some (.cells ar 32 (0, 0)) := by rw [← hz]; exact heap_alloc_new _ _
      have hs1 : (wr.alloc (.cells ar 32)).heap.size = z + 1 := by rw [World.size_alloc, hz]
      have ka := World.grownBy_alloc (wr.alloc (.cells ar 32)) (.cells #[.pointer (some ⟨pa, 0, none⟩), .pointer (some ⟨pb, 0, none⟩)] 26) none
      have HS : Hid (A2 w ((wr.alloc (.cells ar 32)).alloc (.cells #[.pointer (some ⟨pa, 0, none⟩), .pointer (some ⟨pb, 0, none⟩)] 26)) z (z + 1) pa qa pb qb s t ar) := Lib.hid
        ⟨(H1.add _).alt fun j hj => (by rw [hs1, hz]; omega), (H1.blk ka (Or.inr hz.symm)).trans Z1, by rw [← hs1]; exact heap_alloc_new _ _⟩
      have HN2 := Lib.hid H.out.nts
      have HQ2 := Lib.hid H.out.q2a
      rw [har] at HS
      clear H1 Z1 hs1 ka H har
      go_wp2_with fail
      try rw [hz]
      generalize ((wr.alloc (.cells #[.int .i64 kd, .int .i64 (d : Int), .int .i64 mk, .int .u64 hd, .int .i64 md] 32)).alloc (.cells #[.pointer (some ⟨pa, 0, none⟩), .pointer (some ⟨pb, 0, none⟩)] 26)) = wa at *
      clear hz c0 c1 c2 c3 c4 xd
      obtain ⟨sl, hsl⟩ : ∃ b, z + 1 = b := ⟨_, rfl⟩
      try rw [hsl]
      rw [hsl] at HS
      clear hsl
      go_loopw [40] (fun it wr => ∃ k : Nat, k ≤ 2 ∧ it = .int .i64 k ∧ Hid (A2 w wr z sl pa qa pb qb (if 0 < k then sDo kd d mk hd md s else s) (if 1 < k then (if d = 1 ∧ kd ≠ 6 then t else sDo kd d mk hd md t) else t) #[.int .i64 kd, .int .i64 (d : Int), .int .i64 mk, .int .u64 hd, .int .i64 md])) (fun it _ => 2 - (intOf it).toNat)
      case atStart => exact ⟨0, Nat.zero_le _, rfl, Lib.hid (by simpa using HS.out)⟩
      case round =>
        clear HS
        obtain ⟨k, hk, rfl, H⟩ := hrel
        have y0 := cell_blk H.out.z 0
        have y1 := cell_blk H.out.z 1
        have y2 := cell_blk H.out.z 2
        have y3 := cell_blk H.out.z 3
        have y4 := cell_blk H.out.z 4
        have l0 := cell_blk H.out.l 0
        have l1 := cell_blk H.out.l 1
        simp only [List.getElem?_toArray, List.getElem?_cons_zero, List.getElem?_cons_succ] at y0 y1 y2 y3 y4 l0 l1
        rcases (show k = 0 ∨ k = 1 ∨ k = 2 by omega) with rfl | rfl | rfl
        · rw [show ((0 : Nat) : Int) = 0 from rfl]
          replace H : Hid (A2 w wr z sl pa qa pb qb s t _) := Lib.hid (by simpa using H.out)
          rcases (show kd = 0 ∨ kd = 1 ∨ kd = 2 ∨ kd = 3 ∨ kd = 4 ∨ kd = 5 ∨ kd = 6 ∨ (kd ≠ 0 ∧ kd ≠ 1 ∧ kd ≠ 2 ∧ kd ≠ 3 ∧ kd ≠ 4 ∧ kd ≠ 5 ∧ kd ≠ 6) by omega) with rfl | rfl | rfl | rfl | rfl | rfl | rfl | ⟨n0, n1, n2, n3, n4, n5, n6⟩
          · have C := H.out.p.one (fun F hF => pf_open hF d hd2)
            have CC := Lib.hid C
            clear C
            go_wp2_with fail
            refine CC.out.mono ?_
            rintro e v1 ⟨rfl, hp, hk⟩
            have H1 : Hid (A2 w v1 z sl pa qa pb qb (sDo 0 d mk hd md s) t _) := Lib.hid ⟨hp, (hk z (Or.inl rfl)).trans H.out.z, (hk sl (Or.inr rfl)).trans H.out.l⟩
            clear hp hk CC H y0 y1 y2 y3 y4 l0 l1
            go_wp2
            go_roundw
            case rel => exact ⟨1, by omega, by go_num, Lib.hid (by simpa using H1.out)⟩
            case measure => simp [intOf]
          · have C := H.out.p.one (fun F hF => pf_close hF d hd2)
            have CC := Lib.hid C
            clear C
            go_wp2_with fail
            refine CC.out.mono ?_
            rintro e v1 ⟨rfl, hp, hk⟩
            have H1 : Hid (A2 w v1 z sl pa qa pb qb (sDo 1 d mk hd md s) t _) := Lib.hid ⟨hp, (hk z (Or.inl rfl)).trans H.out.z, (hk sl (Or.inr rfl)).trans H.out.l⟩
            clear hp hk CC H y0 y1 y2 y3 y4 l0 l1
            go_wp2
            go_roundw
            case rel => exact ⟨1, by omega, by go_num, Lib.hid (by simpa using H1.out)⟩
            case measure => simp [intOf]
          · have C := H.out.p.one (fun F hF => pf_post hF d mk hd2)
            have CC := Lib.hid C
            clear C
            go_wp2_with fail
            refine CC.out.mono ?_
            rintro e v1 ⟨rfl, hp, hk⟩
            have H1 : Hid (A2 w v1 z sl pa qa pb qb (sDo 2 d mk hd md s) t _) := Lib.hid ⟨hp, (hk z (Or.inl rfl)).trans H.out.z, (hk sl (Or.inr rfl)).trans H.out.l⟩
            clear hp hk CC H y0 y1 y2 y3 y4 l0 l1
            go_wp2
            go_roundw
            case rel => exact ⟨1, by omega, by go_num, Lib.hid (by simpa using H1.out)⟩
            case measure => simp [intOf]
          · have C := H.out.p.one (fun F hF => pf_watch hF d hd mk md hd2)
            have CC := Lib.hid C
            clear C
            go_wp2_with fail
            refine CC.out.mono ?_
            rintro e v1 ⟨rfl, hp, hk⟩
            have H1 : Hid (A2 w v1 z sl pa qa pb qb (sDo 3 d mk hd md s) t _) := Lib.hid ⟨hp, (hk z (Or.inl rfl)).trans H.out.z, (hk sl (Or.inr rfl)).trans H.out.l⟩
            clear hp hk CC H y0 y1 y2 y3 y4 l0 l1
            go_wp2
            go_roundw
            case rel => exact ⟨1, by omega, by go_num, Lib.hid (by simpa using H1.out)⟩
            case measure => simp [intOf]
          · have C := H.out.p.one (fun F hF => pf_unwatch hF d hd2)
            have CC := Lib.hid C
            clear C
            go_wp2_with fail
            refine CC.out.mono ?_
            rintro e v1 ⟨rfl, hp, hk⟩
            have H1 : Hid (A2 w v1 z sl pa qa pb qb (sDo 4 d mk hd md s) t _) := Lib.hid ⟨hp, (hk z (Or.inl rfl)).trans H.out.z, (hk sl (Or.inr rfl)).trans H.out.l⟩
            clear hp hk CC H y0 y1 y2 y3 y4 l0 l1
            go_wp2
            go_roundw
            case rel => exact ⟨1, by omega, by go_num, Lib.hid (by simpa using H1.out)⟩
            case measure => simp [intOf]
          · have C := H.out.p.one (fun F hF => pf_ack hF d mk hd2)
            have CC := Lib.hid C
            clear C
            go_wp2_with fail
            refine CC.out.mono ?_
            rintro e v1 ⟨rfl, hp, hk⟩
            have H1 : Hid (A2 w v1 z sl pa qa pb qb (sDo 5 d mk hd md s) t _) := Lib.hid ⟨hp, (hk z (Or.inl rfl)).trans H.out.z, (hk sl (Or.inr rfl)).trans H.out.l⟩
            clear hp hk CC H y0 y1 y2 y3 y4 l0 l1
            go_wp2
            go_roundw
            case rel => exact ⟨1, by omega, by go_num, Lib.hid (by simpa using H1.out)⟩
            case measure => simp [intOf]
          · have C := H.out.p.one (fun F hF => pf_settle hF)
            have CC := Lib.hid C
            clear C
            go_wp2_with fail
            refine CC.out.mono ?_
            rintro e v1 ⟨rfl, hp, hk⟩
            have H1 : Hid (A2 w v1 z sl pa qa pb qb (sDo 6 d mk hd md s) t _) := Lib.hid ⟨hp, (hk z (Or.inl rfl)).trans H.out.z, (hk sl (Or.inr rfl)).trans H.out.l⟩
            clear hp hk CC H y0 y1 y2 y3 y4 l0 l1
            go_wp2
            go_roundw
            case rel => exact ⟨1, by omega, by go_num, Lib.hid (by simpa using H1.out)⟩
            case measure => simp [intOf]
          · have HD : Hid (∀ x : Ps, sDo kd d mk hd md x = x) := Lib.hid fun x => by unfold sDo; rw [if_neg n0, if_neg n1, if_neg n2, if_neg n3, if_neg n4, if_neg n5, if_neg n6]
            have e0a : (kd == 0) = false := by simpa using n0
            have e0b : decide (kd = 0) = false := by simpa using n0
            have e1a : (kd == 1) = false := by simpa using n1
            have e1b : decide (kd = 1) = false := by simpa using n1
            have e2a : (kd == 2) = false := by simpa using n2
            have e2b : decide (kd = 2) = false := by simpa using n2
            have e3a : (kd == 3) = false := by simpa using n3
            have e3b : decide (kd = 3) = false := by simpa using n3
            have e4a : (kd == 4) = false := by simpa using n4
            have e4b : decide (kd = 4) = false := by simpa using n4
            have e5a : (kd == 5) = false := by simpa using n5
            have e5b : decide (kd = 5) = false := by simpa using n5
            have e6a : (kd == 6) = false := by simpa using n6
            have e6b : decide (kd = 6) = false := by simpa using n6
            clear n0 n1 n2 n3 n4 n5 n6
            go_wp2
            go_roundw
            case rel => exact ⟨1, by omega, by go_num, Lib.hid (by rw [HD.out]; simpa using H.out)⟩
            case measure => simp [intOf]
        · rw [show ((1 : Nat) : Int) = 1 from rfl]
          replace H : Hid (A2 w wr z sl pa qa pb qb (sDo kd d mk hd md s) t _) := Lib.hid (by simpa using H.out)
          rcases (show d = 0 ∨ d = 1 by omega) with hd0 | hd1
          · have HD0 := Lib.hid hd0
            have hd0a : ((d : Int) == 1) = false := by subst hd0; rfl
            have hd0b : decide ((d : Int) = 1) = false := by subst hd0; rfl
            clear hd0
            rcases (show kd = 0 ∨ kd = 1 ∨ kd = 2 ∨ kd = 3 ∨ kd = 4 ∨ kd = 5 ∨ kd = 6 ∨ (kd ≠ 0 ∧ kd ≠ 1 ∧ kd ≠ 2 ∧ kd ≠ 3 ∧ kd ≠ 4 ∧ kd ≠ 5 ∧ kd ≠ 6) by omega) with rfl | rfl | rfl | rfl | rfl | rfl | rfl | ⟨n0, n1, n2, n3, n4, n5, n6⟩
            · have C := H.out.p.two (fun F hF => pf_open hF d hd2)
              have CC := Lib.hid C
              clear C
              go_wp2_with fail
              refine CC.out.mono ?_
              rintro e v1 ⟨rfl, hp, hk⟩
              have H1 : Hid (A2 w v1 z sl pa qa pb qb (sDo 0 d mk hd md s) (sDo 0 d mk hd md t) _) := Lib.hid ⟨hp, (hk z (Or.inl rfl)).trans H.out.z, (hk sl (Or.inr rfl)).trans H.out.l⟩
              clear hp hk CC H y0 y1 y2 y3 y4 l0 l1
              go_wp2
              go_roundw
              case rel => exact ⟨2, by omega, by go_num, Lib.hid (by rw [if_pos (show 0 < 2 by omega), if_pos (show 1 < 2 by omega), if_neg (fun h => by have := HD0.out; omega)]; exact H1.out)⟩
              case measure => simp [intOf]
            · have C := H.out.p.two (fun F hF => pf_close hF d hd2)
              have CC := Lib.hid C
              clear C
              go_wp2_with fail
              refine CC.out.mono ?_
              rintro e v1 ⟨rfl, hp, hk⟩
              have H1 : Hid (A2 w v1 z sl pa qa pb qb (sDo 1 d mk hd md s) (sDo 1 d mk hd md t) _) := Lib.hid ⟨hp, (hk z (Or.inl rfl)).trans H.out.z, (hk sl (Or.inr rfl)).trans H.out.l⟩
              clear hp hk CC H y0 y1 y2 y3 y4 l0 l1
              go_wp2
              go_roundw
              case rel => exact ⟨2, by omega, by go_num, Lib.hid (by rw [if_pos (show 0 < 2 by omega), if_pos (show 1 < 2 by omega), if_neg (fun h => by have := HD0.out; omega)]; exact H1.out)⟩
              case measure => simp [intOf]
            · have C := H.out.p.two (fun F hF => pf_post hF d mk hd2)
              have CC := Lib.hid C
              clear C
              go_wp2_with fail
              refine CC.out.mono ?_
              rintro e v1 ⟨rfl, hp, hk⟩
              have H1 : Hid (A2 w v1 z sl pa qa pb qb (sDo 2 d mk hd md s) (sDo 2 d mk hd md t) _) := Lib.hid ⟨hp, (hk z (Or.inl rfl)).trans H.out.z, (hk sl (Or.inr rfl)).trans H.out.l⟩
              clear hp hk CC H y0 y1 y2 y3 y4 l0 l1
              go_wp2
              go_roundw
              case rel => exact ⟨2, by omega, by go_num, Lib.hid (by rw [if_pos (show 0 < 2 by omega), if_pos (show 1 < 2 by omega), if_neg (fun h => by have := HD0.out; omega)]; exact H1.out)⟩
              case measure => simp [intOf]
            · have C := H.out.p.two (fun F hF => pf_watch hF d hd mk md hd2)
              have CC := Lib.hid C
              clear C
              go_wp2_with fail
              refine CC.out.mono ?_
              rintro e v1 ⟨rfl, hp, hk⟩
              have H1 : Hid (A2 w v1 z sl pa qa pb qb (sDo 3 d mk hd md s) (sDo 3 d mk hd md t) _) := Lib.hid ⟨hp, (hk z (Or.inl rfl)).trans H.out.z, (hk sl (Or.inr rfl)).trans H.out.l⟩
              clear hp hk CC H y0 y1 y2 y3 y4 l0 l1
              go_wp2
              go_roundw
              case rel => exact ⟨2, by omega, by go_num, Lib.hid (by rw [if_pos (show 0 < 2 by omega), if_pos (show 1 < 2 by omega), if_neg (fun h => by have := HD0.out; omega)]; exact H1.out)⟩
              case measure => simp [intOf]
            · have C := H.out.p.two (fun F hF => pf_unwatch hF d hd2)
              have CC := Lib.hid C
              clear C
              go_wp2_with fail
              refine CC.out.mono ?_
              rintro e v1 ⟨rfl, hp, hk⟩
              have H1 : Hid (A2 w v1 z sl pa qa pb qb (sDo 4 d mk hd md s) (sDo 4 d mk hd md t) _) := Lib.hid ⟨hp, (hk z (Or.inl rfl)).trans H.out.z, (hk sl (Or.inr rfl)).trans H.out.l⟩
              clear hp hk CC H y0 y1 y2 y3 y4 l0 l1
              go_wp2
              go_roundw
              case rel => exact ⟨2, by omega, by go_num, Lib.hid (by rw [if_pos (show 0 < 2 by omega), if_pos (show 1 < 2 by omega), if_neg (fun h => by have := HD0.out; omega)]; exact H1.out)⟩
              case measure => simp [intOf]
            · have C := H.out.p.two (fun F hF => pf_ack hF d mk hd2)
              have CC := Lib.hid C
              clear C
              go_wp2_with fail
              refine CC.out.mono ?_
              rintro e v1 ⟨rfl, hp, hk⟩
              have H1 : Hid (A2 w v1 z sl pa qa pb qb (sDo 5 d mk hd md s) (sDo 5 d mk hd md t) _) := Lib.hid ⟨hp, (hk z (Or.inl rfl)).trans H.out.z, (hk sl (Or.inr rfl)).trans H.out.l⟩
              clear hp hk CC H y0 y1 y2 y3 y4 l0 l1
              go_wp2
              go_roundw
              case rel => exact ⟨2, by omega, by go_num, Lib.hid (by rw [if_pos (show 0 < 2 by omega), if_pos (show 1 < 2 by omega), if_neg (fun h => by have := HD0.out; omega)]; exact H1.out)⟩
              case measure => simp [intOf]
            · have C := H.out.p.two (fun F hF => pf_settle hF)
              have CC := Lib.hid C
              clear C
              go_wp2_with fail
              refine CC.out.mono ?_
              rintro e v1 ⟨rfl, hp, hk⟩
              have H1 : Hid (A2 w v1 z sl pa qa pb qb (sDo 6 d mk hd md s) (sDo 6 d mk hd md t) _) := Lib.hid ⟨hp, (hk z (Or.inl rfl)).trans H.out.z, (hk sl (Or.inr rfl)).trans H.out.l⟩
              clear hp hk CC H y0 y1 y2 y3 y4 l0 l1
              go_wp2
              go_roundw
              case rel => exact ⟨2, by omega, by go_num, Lib.hid (by rw [if_pos (show 0 < 2 by omega), if_pos (show 1 < 2 by omega), if_neg (fun h => by have := HD0.out; omega)]; exact H1.out)⟩
              case measure => simp [intOf]
            · have HD : Hid (∀ x : Ps, sDo kd d mk hd md x = x) := Lib.hid fun x => by unfold sDo; rw [if_neg n0, if_neg n1, if_neg n2, if_neg n3, if_neg n4, if_neg n5, if_neg n6]
              have e0a : (kd == 0) = false := by simpa using n0
              have e0b : decide (kd = 0) = false := by simpa using n0
              have e1a : (kd == 1) = false := by simpa using n1
              have e1b : decide (kd = 1) = false := by simpa using n1
              have e2a : (kd == 2) = false := by simpa using n2
              have e2b : decide (kd = 2) = false := by simpa using n2
              have e3a : (kd == 3) = false := by simpa using n3
              have e3b : decide (kd = 3) = false := by simpa using n3
              have e4a : (kd == 4) = false := by simpa using n4
              have e4b : decide (kd = 4) = false := by simpa using n4
              have e5a : (kd == 5) = false := by simpa using n5
              have e5b : decide (kd = 5) = false := by simpa using n5
              have e6a : (kd == 6) = false := by simpa using n6
              have e6b : decide (kd = 6) = false := by simpa using n6
              clear n0 n1 n2 n3 n4 n5 n6
              go_wp2
              go_roundw
              case rel => exact ⟨2, by omega, by go_num, Lib.hid (by rw [if_pos (show 0 < 2 by omega), if_pos (show 1 < 2 by omega), if_neg (fun h => by have := HD0.out; omega), HD.out t]; exact H.out)⟩
              case measure => simp [intOf]
          · have HD1 := Lib.hid hd1
            have hd1a : ((d : Int) == 1) = true := by subst hd1; rfl
            have hd1b : decide ((d : Int) = 1) = true := by subst hd1; rfl
            clear hd1
            by_cases h6 : kd = 6
            · subst h6
              have C := H.out.p.two (fun F hF => pf_settle hF)
              have CC := Lib.hid C
              clear C
              go_wp2_with fail
              refine CC.out.mono ?_
              rintro e v1 ⟨rfl, hp, hk⟩
              have H1 : Hid (A2 w v1 z sl pa qa pb qb (sDo 6 d mk hd md s) (sDo 6 d mk hd md t) _) := Lib.hid ⟨hp, (hk z (Or.inl rfl)).trans H.out.z, (hk sl (Or.inr rfl)).trans H.out.l⟩
              clear hp hk CC H y0 y1 y2 y3 y4 l0 l1
              go_wp2
              go_roundw
              case rel => exact ⟨2, by omega, by go_num, Lib.hid (by rw [if_pos (show 0 < 2 by omega), if_pos (show 1 < 2 by omega), if_neg (fun h => h.2 rfl)]; exact H1.out)⟩
              case measure => simp [intOf]
            · have e6 : (kd != 6) = true := by simpa using h6
              have e7 : decide (kd = 6) = false := by simpa using h6
              have E6 := Lib.hid h6
              clear h6
              go_wp2
              go_roundw
              case rel => exact ⟨2, by omega, by go_num, Lib.hid (by rw [if_pos (show 0 < 2 by omega), if_pos (show 1 < 2 by omega), if_pos ⟨HD1.out, E6.out⟩]; exact H.out)⟩
              case measure => simp [intOf]
        · replace H : Hid (A2 w wr z sl pa qa pb qb (sDo kd d mk hd md s) (if d = 1 ∧ kd ≠ 6 then t else sDo kd d mk hd md t) _) := Lib.hid (by simpa using H.out)
          have HA2 : Hid (AR (i + 1) (sDo kd d mk hd md s) (if d = 1 ∧ kd ≠ 6 then t else sDo kd d mk hd md t)) := Lib.hid (by
            by_cases hc : d = 1 ∧ kd ≠ 6
            · rw [if_pos hc]
              obtain ⟨rfl, h6⟩ := hc
              exact HA.out.left h6 hib HN2.out.1
            · rw [if_neg hc]
              by_cases hd0 : d = 0
              · subst hd0
                exact HA.out.both hib HN2.out.1 HN2.out.2 HQ2.out.1 HQ2.out.2
              · obtain rfl : d = 1 := by omega
                obtain rfl : kd = 6 := Classical.byContradiction fun h => hc ⟨rfl, h⟩
                exact HA.out.settle HQ2.out.1 HQ2.out.2)
          generalize sDo kd d mk hd md s = s2 at *
          generalize (if d = 1 ∧ kd ≠ 6 then t else sDo kd d mk hd md t) = t2 at *
          clear HA y0 y1 y2 y3 y4 l0 l1 HN2 HQ2
          have H0 : Hid (PP w wr (fun _ => False) pa qa pb qb 2 64 2 2 s2 t2) := Lib.hid (H.out.p.alt fun j hj => hj.elim)
          obtain ⟨F, hF⟩ := H0.out.fa
          have CA := Lib.hid (pf_look hF 0 (by omega))
          clear hF H
          rw [show ((2 : Nat) : Int) = 2 from rfl]
          unfold gval at CA
          have hg := HA2.out.g
          have HGG := Lib.hid hg
          clear hg
          obtain ⟨⟨o0, g1, g2, g3, g4, g5, g6⟩, hgg⟩ : ∃ g, s2.G 0 = g := ⟨_, rfl⟩
          have HG := Lib.hid hgg
          rw [hgg] at CA
          clear hgg
          go_wp2_with fail
          refine CA.out.mono ?_
          rintro e v1 ⟨rfl, k1⟩
          have H1 := Lib.hid (H0.out.kept k1)
          clear k1 CA H0
          have ka := World.grownBy_alloc v1 (.cells #[.bool o0, .int .i64 g1, .int .i64 g2, .int .u64 g3, .int .i64 g4, .int .i64 g5, .int .i64 g6] 38) none
          have H2 := Lib.hid (H1.out.kept ka)
          have L2 : Hid ((v1.alloc (.cells #[.bool o0, .int .i64 g1, .int .i64 g2, .int .u64 g3, .int .i64 g4, .int .i64 g5, .int .i64 g6] 38)).heap[v1.heap.size]? = some (.cells #[.bool o0, .int .i64 g1, .int .i64 g2, .int .u64 g3, .int .i64 g4, .int .i64 g5, .int .i64 g6] 38 (0, 0))) := Lib.hid (heap_alloc_new _ _)
          obtain ⟨E, hE⟩ := H2.out.fb
          have CB := Lib.hid (pf_look hE 0 (by omega))
          unfold gval at CB
          rw [← HGG.out, HG.out] at CB
          clear hE ka H1
          go_wp2_with fail
          generalize v1.heap.size = z1 at *
          generalize (v1.alloc (.cells #[.bool o0, .int .i64 g1, .int .i64 g2, .int .u64 g3, .int .i64 g4, .int .i64 g5, .int .i64 g6] 38)) = v2 at *
          refine CB.out.mono ?_
          rintro e v3 ⟨rfl, k3⟩
          have H3 := Lib.hid (H2.out.kept k3)
          have L3 := Lib.hid ((k3.block z1 (blk_lt L2.out) (by simp)).trans L2.out)
          clear k3 CB H2 L2
          have ka := World.grownBy_alloc v3 (.cells #[.bool o0, .int .i64 g1, .int .i64 g2, .int .u64 g3, .int .i64 g4, .int .i64 g5, .int .i64 g6] 38) none
          have H4 := Lib.hid (H3.out.kept ka)
          have L4 := Lib.hid ((ka.block z1 (blk_lt L3.out) (by simp)).trans L3.out)
          have M4 : Hid ((v3.alloc (.cells #[.bool o0, .int .i64 g1, .int .i64 g2, .int .u64 g3, .int .i64 g4, .int .i64 g5, .int .i64 g6] 38)).heap[v3.heap.size]? = some (.cells #[.bool o0, .int .i64 g1, .int .i64 g2, .int .u64 g3, .int .i64 g4, .int .i64 g5, .int .i64 g6] 38 (0, 0))) := Lib.hid (heap_alloc_new _ _)
          have a0 := cell_blk L4.out 0; have a1 := cell_blk L4.out 1; have a2 := cell_blk L4.out 2; have a3 := cell_blk L4.out 3; have a4 := cell_blk L4.out 4; have a5 := cell_blk L4.out 5; have a6 := cell_blk L4.out 6
          have b0 := cell_blk M4.out 0; have b1 := cell_blk M4.out 1; have b2 := cell_blk M4.out 2; have b3 := cell_blk M4.out 3; have b4 := cell_blk M4.out 4; have b5 := cell_blk M4.out 5; have b6 := cell_blk M4.out 6
          simp only [List.getElem?_toArray, List.getElem?_cons_zero, List.getElem?_cons_succ] at a0 a1 a2 a3 a4 a5 a6 b0 b1 b2 b3 b4 b5 b6
          obtain ⟨F, hF⟩ := H4.out.fa
          have CH := pf_has hF 2 0
          rw [has2] at CH
          have hqq : decide (0 ∈ t2.Q) = decide (0 ∈ s2.Q) := decide_eq_decide.2 HA2.out.q.symm
          have HQQ := Lib.hid hqq
          generalize hbb : decide (0 ∈ s2.Q) = hb at *
          have CH1 := Lib.hid CH
          clear hF CH ka H3 L3 hbb hqq
          go_wp2_with fail
          generalize v3.heap.size = z2 at *
          generalize (v3.alloc (.cells #[.bool o0, .int .i64 g1, .int .i64 g2, .int .u64 g3, .int .i64 g4, .int .i64 g5, .int .i64 g6] 38)) = v4 at *
          refine CH1.out.mono ?_
          rintro e v5 ⟨rfl, k5⟩
          have H5 := Lib.hid (H4.out.kept k5)
          obtain ⟨E, hE⟩ := H5.out.fb
          have CH := pf_has hE 2 0
          rw [has2, HQQ.out] at CH
          have CH2 := Lib.hid CH
          clear hE CH k5 CH1 H4 L4 M4 a0 a1 a2 a3 a4 a5 a6 b0 b1 b2 b3 b4 b5 b6
          go_wp2_with fail
          refine CH2.out.mono ?_
          rintro e v6 ⟨rfl, k6⟩
          have H6 := Lib.hid (H5.out.kept k6)
          clear k6 CH2 H5
          go_wp2
          go_roundw
          case rel => exact ⟨i + 1, _, _, hlt, by go_num, H6, HA2⟩
          case measure => simp [intOf]; omega
    · obtain rfl : i = len1 := by omega
      go_wp2
      go_ret
      exact ⟨rfl, H.out.gw⟩
end Go.Proofs.Ytpnipmjjhiaieaa
