/-
  BoxSifts: what is sifted leaves all that is wanted, in order, and room for as many more as were taken out.
-/
import Derived.Test.YtijgdlanjhcabaaBoxRow
import Derived.Test.YtijgdlanjhcabaaBox6I
import Derived.Deep.Cut
namespace Go.Proofs.Ytijgdlanjhcabaa
open Go.RowKit Go.Lib Go.Conc
set_option maxRecDepth 100000
set_option linter.unusedVariables false

def unset (mask z : Int) : Bool := decide (bits .and .i64 z mask = 0)
theorem wants_one (w : World) (z mask : Int) (mb : Nat) (h : w.heap[mb]? = some (.cells #[.int .i64 mask] 3 (0, 0))) : Calls Try.prog 22 #[.int .i64 z, .pointer (some ⟨mb, 0, none⟩)] w fun e w' => e = .returned (.bool (unset mask z)) ∧ w = w' := by
  have c0 := BI.cell_blk h 0
  simp only [List.getElem?_toArray, List.getElem?_cons_zero] at c0
  clear h
  unfold unset
  go_enter Try.func22, Try.ntmps22
  go_wp2
  go_ret
  exact ⟨rfl, rfl⟩
section
variable {W w w' : World} {bb c cap : Nat} {L L' : List (Nat × Int)} {vi vo v' : Value} {I O : List Int}
/-- Things were sifted. -/
theorem OS.sifted (H : OS W w bb c cap L vi I vo O) (lx : ∀ x ∈ L, W.heap.size ≤ x.1) (h : BI.Bx w' bb c cap L') (k : BI.OnlyB (fun j => j = c ∨ ∃ x ∈ L, j = x.1) w w') : OS W w' bb c cap L' vi I vo O := by
  refine ⟨h, BI.own_blk H.ri fun g hg => k.block g (H.ri.lt g hg).2 ?_, BI.own_blk H.ro fun g hg => k.block g (H.ro.lt g hg).2 ?_, H.ne, ⟨k.os.trans H.gw.os, k.tape.trans H.gw.tape, k.output.trans H.gw.output, Nat.le_trans H.gw.size k.size, fun j hj _ => (k.block j (Nat.lt_of_lt_of_le hj H.gw.size) ?_).trans (H.gw.block j hj (by simp))⟩, H.lc⟩
  · have := H.bx.row H.ri (by decide) (by decide) g hg
    rintro (e | ⟨x, hx, e⟩)
    · exact this.2.1 e
    · exact this.2.2 x hx e
  · have := H.bx.row H.ro (by decide) (by decide) g hg
    rintro (e | ⟨x, hx, e⟩)
    · exact this.2.1 e
    · exact this.2.2 x hx e
  · rintro (e | ⟨x, hx, e⟩)
    · have := H.lc; omega
    · have := lx x hx; omega
end

set_option maxRecDepth 100000 in
set_option maxHeartbeats 16000000 in
theorem sifts_walk (sa0 : Option Addr) (len0 cap0 sb0 off0 : Nat) (zs0 : Nat → Int) (mask : Int) (w : World)
    (_hm0 : len0 ≤ maxLen) (hs0 : 0 < len0 → sa0 = some ⟨sb0, off0, none⟩ ∧ sb0 < w.heap.size) (hz0 : ∀ j, j < len0 → w.cell? ⟨sb0, off0 + j, none⟩ = some (.int .i64 (zs0 j))) :
    Calls Try.prog 6 #[.slice sa0 len0 cap0, .int .i64 mask] w fun e w' => e = .returned (.bool true) ∧ w.grownBy w' none := by
  have k0 := World.grownBy_alloc w (.cells #[.int .i64 mask] 3) none
  have hmb : (w.alloc (.cells #[.int .i64 mask] 3)).heap[w.heap.size]? = some (.cells #[.int .i64 mask] 3 (0, 0)) := heap_alloc_new _ _
  have C0 := Lib.hid (alive10 (w.alloc (.cells #[.int .i64 mask] 3)))
  have R0 : Hid (∀ (v : World) (j : Nat), (w.alloc (.cells #[.int .i64 mask] 3)).grownBy v none → j < len0 → sa0 = some ⟨sb0, off0, none⟩ ∧ v.cell? ⟨sb0, off0 + j, none⟩ = some (.int .i64 (zs0 j))) := Lib.hid fun v j k hj => by
    obtain ⟨h1, h2⟩ := hs0 (by omega)
    exact ⟨h1, ((k0.trans k).cell_far ⟨sb0, off0 + j, none⟩ h2 (by simp)).trans (hz0 j hj)⟩
  have KK : Hid (∀ v : World, (w.alloc (.cells #[.int .i64 mask] 3)).grownBy v none → w.grownBy v none) := Lib.hid fun v k => k0.trans k
  have HM : Hid (∀ v : World, (w.alloc (.cells #[.int .i64 mask] 3)).grownBy v none → v.heap[w.heap.size]? = some (.cells #[.int .i64 mask] 3 (0, 0))) := Lib.hid fun v k => (k.block _ (BI.blk_lt hmb) (by simp)).trans hmb
  have hmf : ∀ (fn : Fn) (first cap : Array Value) (w : World), (Instr.makeFunc fn first cap).run Try.prog w = .ok (.func fn first cap) w := fun _ _ _ _ => rfl
  clear hs0 hz0 k0 hmb
  by_cases hl0 : 60 < len0
  · have q : (60 : Int) < (len0 : Int) := by omega
    go_enter Try.func6, Try.ntmps6
    go_wp2_with fail
    refine C0.out.mono ?_
    rintro e w1 ⟨rfl, k1⟩
    go_wp2
    go_ret
    exact ⟨rfl, KK.out _ k1⟩
  have q0 : ¬ (60 : Int) < (len0 : Int) := by omega
  obtain ⟨i0, hi0, hi1, hi2, hi3⟩ := BI.int_info
  have I0 := Lib.hid hi0
  have I1 := Lib.hid hi1
  have I2 := Lib.hid hi2
  have I3 := Lib.hid hi3
  clear hi0 hi1 hi2 hi3
  go_enter Try.func6, Try.ntmps6
  go_wp2_with fail
  generalize hw0 : w.alloc (.cells #[.int .i64 mask] 3) = w0 at *
  refine C0.out.mono ?_
  rintro e u1 ⟨rfl, k1⟩
  have G1 := Lib.hid k1
  have CN := Lib.hid (BI.new_any (len0 : Int) len0 (by omega) u1)
  clear k1 C0 hw0
  generalize w.heap.size = mb at *
  go_wp2_with fail
  refine CN.out.mono ?_
  rintro e u2 ⟨rfl, h2, k2⟩
  have ka := World.grownBy_alloc u2 (.cells #[] 3) none
  have hz2 : w0.heap.size ≤ u2.heap.size := Nat.le_trans G1.out.size k2.size
  have H0 : Hid (OS w0 (u2.alloc (.cells #[] 3)) (u1.heap.size + 1) u1.heap.size len0 [] (.slice (some ⟨u2.heap.size, 0, none⟩) 0 0) [] (.slice none 0 0) []) :=
    Lib.hid ⟨h2.kept ka, litZ u2 w0.heap.size hz2, World.ownsRow_nil .., (fun g h1 h2 => by cases h2), ((G1.out.trans k2).trans ka), G1.out.size⟩
  clear h2 k2 ka hz2 CN G1
  go_wp2_with fail
  generalize u2.alloc (.cells #[] 3) = u3 at *
  generalize u1.heap.size + 1 = bb at *
  generalize u1.heap.size = c at *
  go_loopw [6, 21] (fun vi it wr => ∃ (j : Nat) (L : List (Nat × Int)) (I : List Int), j ≤ len0 ∧ it = .int .i64 j ∧ Hid (OS w0 wr bb c len0 L vi I (.slice none 0 0) []) ∧ Hid (I = (L.map Prod.snd).filter (unset mask)) ∧ Hid (L.length = j) ∧ Hid (∀ x ∈ L, w0.heap.size ≤ x.1)) (fun _ it _ => len0 - (Go.RowKit.intOf it).toNat)
  case atStart => exact ⟨0, [], [], Nat.zero_le _, rfl, H0, Lib.hid rfl, Lib.hid rfl, Lib.hid (fun x hx => by cases hx)⟩
  case round =>
    obtain ⟨j, L, I, hj, rfl, H1, HE, HJ, HX⟩ := hrel
    clear H0
    have hIl : I.length ≤ 60 := by
      have h1 := HE.out
      have h2 := List.length_filter_le (unset mask) (L.map Prod.snd)
      have h3 := HJ.out
      rw [← h1] at h2
      simp at h2
      omega
    obtain ⟨si, ci, rfl, _, _⟩ := BI.own_at H1.out.ri
    by_cases hlt : j < len0
    · obtain ⟨rfl, hc⟩ := R0.out wr j H1.out.gw hlt
      have qj : (j : Int) < (len0 : Int) := by omega
      obtain ⟨z, hcc⟩ : ∃ c, zs0 j = c := ⟨_, rfl⟩
      rw [hcc] at hc
      clear hcc
      have CP := Lib.hid (BI.post_ok z H1.out.bx (by have := HJ.out; omega))
      unfold BI.valOf at CP
      go_wp2_with fail
      refine CP.out.mono ?_
      rintro e w3 ⟨rfl, h3, k3⟩
      have H3 := Lib.hid (H1.out.on h3 k3)
      have hq : Hid (w0.heap.size ≤ wr.heap.size) := Lib.hid H1.out.gw.size
      generalize wr.heap.size = q at *
      have HX' : Hid (∀ x ∈ L ++ [(q, z)], w0.heap.size ≤ x.1) := Lib.hid (fun x hx => by
        rcases List.mem_append.1 hx with h | h
        · exact HX.out x h
        · simp at h; subst h; exact hq.out)
      have HJ' : Hid ((L ++ [(q, z)]).length = j + 1) := Lib.hid (by have := HJ.out; simp; omega)
      have m0 := BI.cell_blk (HM.out w3 H3.out.gw) 0
      simp only [List.getElem?_toArray, List.getElem?_cons_zero] at m0
      clear h3 k3 CP hc H1
      obtain ⟨y, hy⟩ : ∃ y, bits .and .i64 z mask = y := ⟨_, rfl⟩
      by_cases hy0 : y = 0
      · subst hy0
        have HE' : Hid (I ++ [z] = ((L ++ [(q, z)]).map Prod.snd).filter (unset mask)) := Lib.hid (by rw [HE.out]; simp [unset, hy])
        have ka := World.grownBy_alloc w3 (.cells #[.int .i64 z] 3) none
        have SR := Lib.hid (BI.src_one w3 (.int .i64 z) 3 rfl)
        have H4 := Lib.hid (H3.out.kept ka)
        have hb4 : Hid (w0.heap.size ≤ (w3.alloc (.cells #[.int .i64 z] 3)).heap.size) := Lib.hid (Nat.le_trans H3.out.gw.size ka.size)
        clear ka H3
        go_wp2_with (
          at_builtin
          refine wpList_append_src _ rfl _ _ 28 rfl w0.heap.size 3 i0 (.int .i64 0) 1 8 Try.underlying28 I0.out I1.out I2.out I3.out rfl (by decide) _ _ _ rfl H4.out.ri _ 1 _ rfl SR.out (by unfold maxLen; omega) (by omega) hb4.out ?_
          intro vi' w5 hown' hgrow hnil hat
          have H5 := Lib.hid (H4.out.app_i [z] hown' hgrow hat)
          clear hown' hgrow hnil hat H4 SR hb4)
        go_wp2
        go_roundw
        case rel => exact ⟨j + 1, L ++ [(q, z)], I ++ [z], hlt, by go_num, H5, HE', HJ', HX'⟩
        case measure => simp [Go.RowKit.intOf]; omega
      · have HE' : Hid (I = ((L ++ [(q, z)]).map Prod.snd).filter (unset mask)) := Lib.hid (by rw [HE.out]; simp [unset, hy, hy0])
        have e4 : decide (y = 0) = !decide True := by simp [hy0]
        go_wp2
        go_roundw
        case rel => exact ⟨j + 1, L ++ [(q, z)], I, hlt, by go_num, H3, HE', HJ', HX'⟩
        case measure => simp [Go.RowKit.intOf]; omega
    · obtain rfl : j = len0 := by omega
      have CP := Lib.hid (BI.post_no 1 H1.out.bx (by have := HJ.out; omega))
      unfold BI.valOf at CP
      go_wp2_with fail
      refine CP.out.mono ?_
      rintro e w3 ⟨rfl, h3, k3⟩
      have H3 := Lib.hid (H1.out.kept k3)
      have CS := Lib.hid (BI.sift_law (unset mask) mb #[.int .i64 mask] 3 (by decide) (fun w z h => wants_one w z mask mb h) H3.out.bx (HM.out w3 H3.out.gw))
      clear h3 k3 CP H1
      go_wp2_with fail
      refine CS.out.mono ?_
      rintro e w4 ⟨rfl, h4, k4⟩
      have H4 := Lib.hid (H3.out.sifted HX.out h4 k4)
      clear h4 k4 CS H3
      obtain ⟨K, hK⟩ : ∃ K, (L.filter fun x => unset mask x.2) = K := ⟨_, rfl⟩
      have hKI : K.map Prod.snd = I := by
        rw [HE.out, ← hK, List.filter_map]
        rfl
      have hKl : K.length = I.length := by rw [← hKI]; simp
      have hKj : I.length ≤ j := by rw [← hKl, ← hK]; have := List.length_filter_le (fun x : Nat × Int => unset mask x.2) L; have := HJ.out; omega
      rw [hK] at H4
      have hjj : L.length = j := HJ.out
      obtain ⟨d, hd⟩ : ∃ d : Nat, d = j - I.length := ⟨_, rfl⟩
      have HDD : Hid (I.length + d = j) := Lib.hid (by omega)
      have hd6 : d ≤ 60 := by omega
      have hv : (L.length - (L.filter fun x => unset mask x.2).length : Nat) = d := by rw [hK, hKl, hjj, hd]
      have hret : (Value.int .i64 ((L.length - (L.filter fun x => unset mask x.2).length : Nat) : Int)) = .int .i64 (d : Int) := by rw [hv]
      rw [hret]
      have CA := Lib.hid (BI.all_any H4.out.bx)
      have HKI := Lib.hid hKI
      have HKL := Lib.hid hKl
      have q3 : IntKind.i64.wrap ((j : Int) - (I.length : Int)) = (d : Int) := by rw [IntKind.wrap_i64]; omega
      clear hret hv hd hjj hKl hKI hK HX
      go_wp2_with fail
      refine CA.out.mono ?_
      rintro e w5 ⟨⟨va, rfl, ha⟩, h5, k5⟩
      rw [vals_z, HKI.out, HKL.out] at ha
      have H5 := Lib.hid (H4.out.on h5 k5)
      obtain ⟨sx, cx, hsx, _, _⟩ := BI.own_at ha
      subst hsx
      have CE := Lib.hid (sameZ_yes (reads_own ha) (reads_own H5.out.ri) (by omega))
      clear ha h5 k5 CA H4
      go_wp2_with fail
      refine CE.out.mono ?_
      rintro e w6 ⟨rfl, k6⟩
      have H6 := Lib.hid (H5.out.kept k6)
      have CL0 := BI.len_any H6.out.bx
      rw [HKL.out] at CL0
      have CL := Lib.hid CL0
      clear k6 CE H5 CL0
      go_wp2_with fail
      refine CL.out.mono ?_
      rintro e w7 ⟨rfl, rfl⟩
      clear CL
      go_wp2_with fail
      go_loopw [65] (fun it wr => ∃ (i : Nat) (K' : List (Nat × Int)), i ≤ d ∧ it = .int .i64 i ∧ Hid (OS w0 wr bb c j K' (.slice si I.length ci) I (.slice none 0 0) []) ∧ Hid (K'.length = I.length + i)) (fun it _ => d - (Go.RowKit.intOf it).toNat)
      case atStart => exact ⟨0, K, Nat.zero_le _, rfl, H6, HKL⟩
      case round =>
        obtain ⟨i, K', hi, rfl, H7, HK7⟩ := hrel
        clear H6
        by_cases hid : i < d
        · have qi : (i : Int) < (d : Int) := by omega
          have CP := Lib.hid (BI.post_ok 0 H7.out.bx (by have := HK7.out; have := HDD.out; omega))
          unfold BI.valOf at CP
          go_wp2_with fail
          refine CP.out.mono ?_
          rintro e w8 ⟨rfl, h8, k8⟩
          have H8 := Lib.hid (H7.out.on h8 k8)
          generalize wr.heap.size = q at *
          clear h8 k8 CP H7
          go_wp2
          go_roundw
          case rel => exact ⟨i + 1, K' ++ [(q, 0)], hid, by go_num, H8, Lib.hid (by have := HK7.out; simp; omega)⟩
          case measure => simp [Go.RowKit.intOf]; omega
        · obtain rfl : i = d := by omega
          have CP := Lib.hid (BI.post_no 0 H7.out.bx (by have := HK7.out; have := HDD.out; omega))
          unfold BI.valOf at CP
          go_wp2_with fail
          refine CP.out.mono ?_
          rintro e w8 ⟨rfl, h8, k8⟩
          have H8 := Lib.hid (H7.out.kept k8)
          have hkl : K'.length = j := by have := HK7.out; have := HDD.out; omega
          have CL0 := BI.len_any H8.out.bx
          rw [hkl] at CL0
          have CL := Lib.hid CL0
          clear h8 k8 CP H7 hkl CL0
          go_wp2_with fail
          refine CL.out.mono ?_
          rintro e w9 ⟨rfl, rfl⟩
          go_wp2
          go_ret
          exact ⟨by simp, KK.out _ H8.out.gw⟩
end Go.Proofs.Ytijgdlanjhcabaa
