/-
  nightjarref15.Read, over this seat's translation.
-/
import Derived.Test.YtcnojgkolpdomaaDoorRefE3
import Derived.Test.YtcnojgkolpdomaaDoorWire7
namespace Go.Proofs.YtcnojgkolpdomaaDoor
open Go.RowKit Go.Lib
set_option maxRecDepth 100000
set_option linter.unusedVariables false

theorem lit_erow (w : World) (B : Nat) (hB : B ≤ w.heap.size) : ERow (w.alloc (.cells #[] 55)) B (.slice (some ⟨w.heap.size, 0, none⟩) 0 0) [] :=
  World.ownsRow_made w #[] 0 hB (by decide) rfl

set_option maxHeartbeats 4000000 in
theorem rread15 {w : World} {v : Value} {F : List Nat} (H : ReadsB w v F) (hF : F.length ≤ 65536) :
    Calls Tryd.prog 30 #[v] w fun r w' => w.grownBy w' none ∧ ∃ v', r = .returned v' ∧ ERow w' w.heap.size v' ((rd F).take 2048) := by
  have HF0 := Lib.hid H
  obtain ⟨a0, cap0, rfl, h1, h2, hB, h4⟩ := H
  obtain ⟨i0, hi0, hz0, hz1, hz2⟩ := entry_info
  have I0 := Lib.hid hi0
  have I1 := Lib.hid hz0
  have I2 := Lib.hid hz1
  have I3 := Lib.hid hz2
  have hcap := h1
  have HBF := Lib.hid hB
  clear hi0 hz0 hz1 hz2 h1 h2 h4 hB
  have k0 := World.grownBy_alloc w (.cells #[] 55) none
  have hb0 := lit_erow w w.heap.size (Nat.le_refl _)
  obtain ⟨B, hBB⟩ : ∃ B, B = w.heap.size := ⟨_, rfl⟩
  have HBB := Lib.hid hBB
  rw [← hBB] at hb0 ⊢
  go_enter Tryd.func30, Tryd.ntmps30
  go_wp2
  rw [← hBB]
  clear hBB
  generalize w.alloc (.cells #[] 55) = w0 at *
  go_loopw [3, 4] (fun ov iv wr => ∃ (k : Nat) (acc : List En) (la : Option Addr) (lc : Nat), k ≤ F.length ∧ iv = .int .i64 (k : Int) ∧ ov = .slice la acc.length lc ∧ acc.length ≤ 2048 ∧ Hid (ERow wr B (.slice la acc.length lc) acc) ∧ Hid ((acc ++ rd (F.drop k)).take 2048 = (rd F).take 2048) ∧ Hid (w.grownBy wr none))
    (fun _ iv _ => F.length - (RowKit.intOf iv).toNat)
  case atStart => exact ⟨0, [], _, _, Nat.zero_le _, rfl, rfl, by decide, Lib.hid hb0, Lib.hid (by simp), Lib.hid k0⟩
  case round =>
    obtain ⟨k, acc, la, lc, hk, rfl, rfl, hacc, HE, HD, HG⟩ := hrel
    clear hb0 k0
    by_cases hlt : k < F.length
    · have q1 : ((k : Nat) : Int) < ((F.length : Nat) : Int) := by omega
      have q5 : (0 : Int) ≤ ((k : Nat) : Int) := by omega
      obtain ⟨b, o, rfl, hcc, htc, hcm, hbw, hcell⟩ := (HF0.out.grown HG.out).at (by omega)
      have c0 := hcell k hlt
      obtain ⟨g, T, hT⟩ : ∃ g T, F.drop k = g :: T := by
        cases hd : F.drop k with
        | nil => have := congrArg List.length hd; simp at this; omega
        | cons g T => exact ⟨g, T, rfl⟩
      have hg0 : F[k] = g := by
        have := List.drop_eq_getElem_cons hlt
        rw [hT] at this
        injection this with h _
        exact h.symm
      have hTT : T = F.drop (k + 1) := by
        have := List.drop_eq_getElem_cons hlt
        rw [hT] at this
        injection this
      rw [hg0] at c0
      have hg : g < 256 := by rw [← hg0]; exact HBF.out _ (List.getElem_mem hlt)
      have hw : IntKind.i64.wrap ((g : Nat) : Int) = ((g : Nat) : Int) := by rw [IntKind.wrap_i64]; omega
      have hTl : T.length = F.length - (k + 1) := by rw [hTT, List.length_drop]
      have hws : IntKind.i64.wrap (((F.length : Nat) : Int) - ((k : Nat) : Int)) = ((F.length : Nat) : Int) - ((k : Nat) : Int) := by rw [IntKind.wrap_i64]; omega
      have HTT := Lib.hid hTT
      have HT0 := Lib.hid hT
      clear hcell hcm hg0 hTT hT hcc htc
      by_cases hlg : T.length < g
      · have q7 : ¬ (((F.length : Nat) : Int) - ((k : Nat) : Int) > ((g : Nat) : Int)) := by omega
        have hfin : (rd F).take 2048 = acc := by
          rw [← HD.out, HT0.out, rd_few hlg, List.append_nil, List.take_of_length_le hacc]
        have HFIN := Lib.hid hfin
        clear hfin
        go_wp2
        go_ret
        exact ⟨HG.out, _, rfl, by rw [HFIN.out]; exact HE.out⟩
      · have q7 : ((F.length : Nat) : Int) - ((k : Nat) : Int) > ((g : Nat) : Int) := by omega
        have hw1 : IntKind.i64.wrap (((k : Nat) : Int) + 1) = ((k : Nat) : Int) + 1 := by rw [IntKind.wrap_i64]; omega
        have hw2 : IntKind.i64.wrap (((k : Nat) : Int) + 1 + ((g : Nat) : Int)) = ((k : Nat) : Int) + 1 + ((g : Nat) : Int) := by rw [IntKind.wrap_i64]; omega
        have q8 : ((k : Nat) : Int) + 1 ≤ ((k : Nat) : Int) + 1 + ((g : Nat) : Int) := by omega
        have q9 : ((k : Nat) : Int) + 1 + ((g : Nat) : Int) ≤ ((cap0 : Nat) : Int) := by omega
        have q10 : (0 : Int) ≤ ((k : Nat) : Int) + 1 := by omega
        have HST : Hid (rd (g :: T) = (er (T.take g)).toList ++ rd (T.drop g)) := Lib.hid (rd_step (by omega))
        have HTB : Hid (isB T) := Lib.hid (by rw [HTT.out]; exact isB_drop HBF.out _)
        have HNX : Hid (rd (F.drop k) = (er (T.take g)).toList ++ rd (F.drop (k + 1 + g))) := Lib.hid (by rw [HT0.out, HST.out]; rw [show T.drop g = F.drop (k + 1 + g) by rw [HTT.out, List.drop_drop]])
        by_cases hck : cap0 = k + 1
        · obtain rfl : cap0 = k + 1 := hck
          have hrt : ReadsB wr (.slice (some ⟨b, o, none⟩) g 0) (T.take g) := by
            have hg00 : g = 0 := by omega
            have hT0 : T = [] := List.eq_nil_of_length_eq_zero (by omega)
            rw [hT0, hg00]
            exact ⟨_, 0, rfl, Nat.le_refl _, by decide, fun x hx => absurd hx (by simp), fun h => absurd h (by simp)⟩
          have CO := rone hrt
          have hsmr : Hid (∀ e, er (T.take g) = some e → smC e.call) := Lib.hid (fun e he => (eb_er (isB_take HTB.out g) he).2.2)
          clear hrt
          cases her : er (T.take g) with
          | none =>
            have hev : erV (T.take g) = .tuple #[.agg #[.int .i64 0, .int .i64 0, .int .i64 0, .int .i64 0, .int .u64 0, .int .u64 0, .int .u64 0, .int .i64 0, .int .i64 0], .bool false] := by rw [erV, her]; rfl
            rw [hev] at CO
            rw [her] at HNX
            have CO := Lib.hid CO
            clear hsmr hev her
            go_wp2_with fail
            refine CO.out.mono ?_
            rintro r w1 ⟨rfl, g1⟩
            have kb := World.grownBy_alloc w1 (.cells #[.int .i64 0, .int .i64 0, .int .i64 0, .int .i64 0, .int .u64 0, .int .u64 0, .int .u64 0, .int .i64 0, .int .i64 0] 55) none
            have kk := Lib.hid (g1.trans kb)
            have HGb := Lib.hid (HG.out.trans kk.out)
            have HEb := Lib.hid (HE.out.grown kk.out)
            clear g1 kb CO
            go_wp2
            go_roundw
            case rel => exact ⟨k + 1 + g, acc, la, lc, by omega, by rw [show ((k + 1 + g : Nat) : Int) = (k : Int) + 1 + (g : Int) by omega], rfl, hacc, HEb, Lib.hid (by rw [← HD.out, HNX.out]; rfl), HGb⟩
            case measure => simp [RowKit.intOf]; omega
          | some e =>
            obtain ⟨ek, ewho, en, ⟨eop, ea, ebb, ec⟩, ed, em⟩ := e
            have hev : erV (T.take g) = .tuple #[.agg #[.int .i64 ek, .int .i64 ewho, .int .i64 en, .int .i64 eop, .int .u64 (ea : Nat), .int .u64 (ebb : Nat), .int .u64 (ec : Nat), .int .i64 ed, .int .i64 em], .bool true] := by rw [erV, her]; rfl
            rw [hev] at CO
            rw [her] at HNX
            have CO := Lib.hid CO
            have HSM1 := Lib.hid (hsmr.out _ her)
            clear hev her hsmr
            go_wp2_with fail
            refine CO.out.mono ?_
            rintro r w1 ⟨rfl, g1⟩
            have kb := World.grownBy_alloc w1 (.cells #[.int .i64 ek, .int .i64 ewho, .int .i64 en, .int .i64 eop, .int .u64 (ea : Nat), .int .u64 (ebb : Nat), .int .u64 (ec : Nat), .int .i64 ed, .int .i64 em] 55) none
            have kk := Lib.hid (g1.trans kb)
            have HGb := Lib.hid (HG.out.trans kk.out)
            have HEb := Lib.hid (HE.out.grown kk.out)
            have HBw : Hid (B ≤ w1.heap.size) := Lib.hid (by rw [HBB.out]; have := HG.out.size; have := g1.size; omega)
            clear g1 kb CO
            by_cases hfull : acc.length < 2048
            · have qf : ((acc.length : Nat) : Int) < 2048 := by omega
              have hE' : (w1.alloc (.cells #[.int .i64 ek, .int .i64 ewho, .int .i64 en, .int .i64 eop, .int .u64 (ea : Nat), .int .u64 (ebb : Nat), .int .u64 (ec : Nat), .int .i64 ed, .int .i64 em] 55)).ownsRow B 55 9 (.slice la acc.length lc) acc.length (ens acc) := HEb.out
              go_wp2_with (
              at_builtin
              refine wpList_append_own_at _ rfl _ _ 48 rfl B 55 i0 zE.val 9 72 Tryd.underlying48 I0.out I1.out I2.out I3.out rfl (by decide) (.slice la acc.length lc) _ _ rfl (World.ownsRow.alloc hE' _) ⟨_, 0, none⟩ 1 1 (En.cells ⟨ek, ewho, en, ⟨eop, ea, ebb, ec⟩, ed, em⟩) rfl rfl (cell_nine_at _ ⟨ek, ewho, en, ⟨eop, ea, ebb, ec⟩, ed, em⟩ _ _ (by first | rfl | simp)) (fun x hx => ens_one ([⟨ek, ewho, en, ⟨eop, ea, ebb, ec⟩, ed, em⟩] : List En) x (by simpa [ens] using hx)) (by unfold maxLen; omega) (by omega) (by have := HBw.out; simp; omega) ?_
              intro v' w5 hown' hgrow3 hnil3 hat0
              obtain ⟨h5, g5, hat5⟩ := entry_put (w := w1.alloc (.cells #[.int .i64 ek, .int .i64 ewho, .int .i64 en, .int .i64 eop, .int .u64 (ea : Nat), .int .u64 (ebb : Nat), .int .u64 (ec : Nat), .int .i64 ed, .int .i64 em] 55)) (e := ⟨ek, ewho, en, ⟨eop, ea, ebb, ec⟩, ed, em⟩) hown' hgrow3 hat0
              have HE5 := Lib.hid h5
              have hgw : w.grownBy w5 none := grow_ownE HGb.out HEb.out (by rw [HBB.out]; exact Nat.le_refl _) g5
              have HG5 := Lib.hid hgw
              have hfrm := h5.form
              obtain ⟨la5, lc5, hv5⟩ : ∃ la5 lc5, v' = .slice la5 (acc ++ ([⟨ek, ewho, en, ⟨eop, ea, ebb, ec⟩, ed, em⟩] : List En)).length lc5 := by
                rcases hfrm with ⟨_, h⟩ | ⟨r', c', h, _⟩
                · exact absurd h (by simp)
                · exact ⟨_, c', h⟩
              subst hv5
              rw [List.length_append] at HE5 ⊢
              clear hown' hgrow3 hnil3 hat0 h5 g5 hat5 hgw hfrm hE'
              )
              go_roundw
              case rel => exact ⟨k + 1 + g, acc ++ [⟨ek, ewho, en, ⟨eop, ea, ebb, ec⟩, ed, em⟩], la5, lc5, by omega, by rw [show ((k + 1 + g : Nat) : Int) = (k : Int) + 1 + (g : Int) by omega], by rw [List.length_append]; rfl, by rw [List.length_append]; simp; omega, Lib.hid (by rw [List.length_append]; exact HE5.out), Lib.hid (by rw [← HD.out, HNX.out]; simp), HG5⟩
              case measure => simp [RowKit.intOf]; omega
            · have qf : ¬ (((acc.length : Nat) : Int) < 2048) := by omega
              have h48 : acc.length = 2048 := by omega
              have HNN : Hid ((acc ++ rd (F.drop (k + 1 + g))).take 2048 = (rd F).take 2048) := Lib.hid (by rw [← HD.out, ← h48, List.take_left, List.take_left])
              clear h48
              go_wp2
              go_roundw
              case rel => exact ⟨k + 1 + g, acc, la, lc, by omega, by rw [show ((k + 1 + g : Nat) : Int) = (k : Int) + 1 + (g : Int) by omega], rfl, hacc, HEb, HNN, HGb⟩
              case measure => simp [RowKit.intOf]; omega
        · skip
          have hrt : ReadsB wr (.slice (some ⟨b, o + (k + 1), none⟩) g (cap0 - (k + 1))) (T.take g) := by
            have h := (HF0.out.grown HG.out).drop (k + 1) T.length (cap0 - (k + 1)) (by omega) hTl rfl
            rw [← HTT.out] at h
            exact reads_take h (by omega) (fun _ => rfl)
          have CO := rone hrt
          have hsmr : Hid (∀ e, er (T.take g) = some e → smC e.call) := Lib.hid (fun e he => (eb_er (isB_take HTB.out g) he).2.2)
          clear hrt
          cases her : er (T.take g) with
          | none =>
            have hev : erV (T.take g) = .tuple #[.agg #[.int .i64 0, .int .i64 0, .int .i64 0, .int .i64 0, .int .u64 0, .int .u64 0, .int .u64 0, .int .i64 0, .int .i64 0], .bool false] := by rw [erV, her]; rfl
            rw [hev] at CO
            rw [her] at HNX
            have CO := Lib.hid CO
            clear hsmr hev her
            go_wp2_with fail
            refine CO.out.mono ?_
            rintro r w1 ⟨rfl, g1⟩
            have kb := World.grownBy_alloc w1 (.cells #[.int .i64 0, .int .i64 0, .int .i64 0, .int .i64 0, .int .u64 0, .int .u64 0, .int .u64 0, .int .i64 0, .int .i64 0] 55) none
            have kk := Lib.hid (g1.trans kb)
            have HGb := Lib.hid (HG.out.trans kk.out)
            have HEb := Lib.hid (HE.out.grown kk.out)
            clear g1 kb CO
            go_wp2
            go_roundw
            case rel => exact ⟨k + 1 + g, acc, la, lc, by omega, by rw [show ((k + 1 + g : Nat) : Int) = (k : Int) + 1 + (g : Int) by omega], rfl, hacc, HEb, Lib.hid (by rw [← HD.out, HNX.out]; rfl), HGb⟩
            case measure => simp [RowKit.intOf]; omega
          | some e =>
            obtain ⟨ek, ewho, en, ⟨eop, ea, ebb, ec⟩, ed, em⟩ := e
            have hev : erV (T.take g) = .tuple #[.agg #[.int .i64 ek, .int .i64 ewho, .int .i64 en, .int .i64 eop, .int .u64 (ea : Nat), .int .u64 (ebb : Nat), .int .u64 (ec : Nat), .int .i64 ed, .int .i64 em], .bool true] := by rw [erV, her]; rfl
            rw [hev] at CO
            rw [her] at HNX
            have CO := Lib.hid CO
            have HSM1 := Lib.hid (hsmr.out _ her)
            clear hev her hsmr
            go_wp2_with fail
            refine CO.out.mono ?_
            rintro r w1 ⟨rfl, g1⟩
            have kb := World.grownBy_alloc w1 (.cells #[.int .i64 ek, .int .i64 ewho, .int .i64 en, .int .i64 eop, .int .u64 (ea : Nat), .int .u64 (ebb : Nat), .int .u64 (ec : Nat), .int .i64 ed, .int .i64 em] 55) none
            have kk := Lib.hid (g1.trans kb)
            have HGb := Lib.hid (HG.out.trans kk.out)
            have HEb := Lib.hid (HE.out.grown kk.out)
            have HBw : Hid (B ≤ w1.heap.size) := Lib.hid (by rw [HBB.out]; have := HG.out.size; have := g1.size; omega)
            clear g1 kb CO
            by_cases hfull : acc.length < 2048
            · have qf : ((acc.length : Nat) : Int) < 2048 := by omega
              have hE' : (w1.alloc (.cells #[.int .i64 ek, .int .i64 ewho, .int .i64 en, .int .i64 eop, .int .u64 (ea : Nat), .int .u64 (ebb : Nat), .int .u64 (ec : Nat), .int .i64 ed, .int .i64 em] 55)).ownsRow B 55 9 (.slice la acc.length lc) acc.length (ens acc) := HEb.out
              go_wp2_with (
              at_builtin
              refine wpList_append_own_at _ rfl _ _ 48 rfl B 55 i0 zE.val 9 72 Tryd.underlying48 I0.out I1.out I2.out I3.out rfl (by decide) (.slice la acc.length lc) _ _ rfl (World.ownsRow.alloc hE' _) ⟨_, 0, none⟩ 1 1 (En.cells ⟨ek, ewho, en, ⟨eop, ea, ebb, ec⟩, ed, em⟩) rfl rfl (cell_nine_at _ ⟨ek, ewho, en, ⟨eop, ea, ebb, ec⟩, ed, em⟩ _ _ (by first | rfl | simp)) (fun x hx => ens_one ([⟨ek, ewho, en, ⟨eop, ea, ebb, ec⟩, ed, em⟩] : List En) x (by simpa [ens] using hx)) (by unfold maxLen; omega) (by omega) (by have := HBw.out; simp; omega) ?_
              intro v' w5 hown' hgrow3 hnil3 hat0
              obtain ⟨h5, g5, hat5⟩ := entry_put (w := w1.alloc (.cells #[.int .i64 ek, .int .i64 ewho, .int .i64 en, .int .i64 eop, .int .u64 (ea : Nat), .int .u64 (ebb : Nat), .int .u64 (ec : Nat), .int .i64 ed, .int .i64 em] 55)) (e := ⟨ek, ewho, en, ⟨eop, ea, ebb, ec⟩, ed, em⟩) hown' hgrow3 hat0
              have HE5 := Lib.hid h5
              have hgw : w.grownBy w5 none := grow_ownE HGb.out HEb.out (by rw [HBB.out]; exact Nat.le_refl _) g5
              have HG5 := Lib.hid hgw
              have hfrm := h5.form
              obtain ⟨la5, lc5, hv5⟩ : ∃ la5 lc5, v' = .slice la5 (acc ++ ([⟨ek, ewho, en, ⟨eop, ea, ebb, ec⟩, ed, em⟩] : List En)).length lc5 := by
                rcases hfrm with ⟨_, h⟩ | ⟨r', c', h, _⟩
                · exact absurd h (by simp)
                · exact ⟨_, c', h⟩
              subst hv5
              rw [List.length_append] at HE5 ⊢
              clear hown' hgrow3 hnil3 hat0 h5 g5 hat5 hgw hfrm hE'
              )
              go_roundw
              case rel => exact ⟨k + 1 + g, acc ++ [⟨ek, ewho, en, ⟨eop, ea, ebb, ec⟩, ed, em⟩], la5, lc5, by omega, by rw [show ((k + 1 + g : Nat) : Int) = (k : Int) + 1 + (g : Int) by omega], by rw [List.length_append]; rfl, by rw [List.length_append]; simp; omega, Lib.hid (by rw [List.length_append]; exact HE5.out), Lib.hid (by rw [← HD.out, HNX.out]; simp), HG5⟩
              case measure => simp [RowKit.intOf]; omega
            · have qf : ¬ (((acc.length : Nat) : Int) < 2048) := by omega
              have h48 : acc.length = 2048 := by omega
              have HNN : Hid ((acc ++ rd (F.drop (k + 1 + g))).take 2048 = (rd F).take 2048) := Lib.hid (by rw [← HD.out, ← h48, List.take_left, List.take_left])
              clear h48
              go_wp2
              go_roundw
              case rel => exact ⟨k + 1 + g, acc, la, lc, by omega, by rw [show ((k + 1 + g : Nat) : Int) = (k : Int) + 1 + (g : Int) by omega], rfl, hacc, HEb, HNN, HGb⟩
              case measure => simp [RowKit.intOf]; omega
    · have hfin : (rd F).take 2048 = acc := by
        rw [← HD.out, List.drop_of_length_le (by omega), rd_nil, List.append_nil, List.take_of_length_le hacc]
      have HFIN := Lib.hid hfin
      have q1 : ¬ (((k : Nat) : Int) < ((F.length : Nat) : Int)) := by omega
      clear hfin
      go_wp2
      go_ret
      exact ⟨HG.out, _, rfl, by rw [HFIN.out]; exact HE.out⟩
end Go.Proofs.YtcnojgkolpdomaaDoor
