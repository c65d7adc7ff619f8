/-
  wire.Read, over this seat's translation: the entries of bytes.
-/
import Derived.Test.YtcnojgkolpdomaaDoorWire6a
import Derived.Test.YtcnojgkolpdomaaDoorWire5
namespace Go.Proofs.YtcnojgkolpdomaaDoor
open Go.RowKit Go.Lib
set_option maxRecDepth 100000
set_option linter.unusedVariables false

set_option maxHeartbeats 1000000 in
theorem wread_long {w : World} {v : Value} {F : List Nat} (H : ReadsB w v F) (hl : 65536 < F.length) :
    Calls Tryd.prog 28 #[v] w fun r w' => r = .returned (.tuple #[.slice none 0 0, .int .i64 12]) ∧ w = w' := by
  obtain ⟨a, cap, rfl, hx1, hx2, hx3, hx4⟩ := H
  have q : ((F.length : Nat) : Int) > 65536 := by omega
  clear hx1 hx2 hx3 hx4
  go_enter Tryd.func28, Tryd.ntmps28
  go_wp2
  go_ret2
  exact ⟨rfl, rfl⟩

/-- The first n bytes of a slice, and what is behind them, wherever its head is said to lie. -/
theorem reads_take {w : World} {b o cap n : Nat} {p : Option Addr} {T : List Nat} (h : ReadsB w (.slice (some ⟨b, o, none⟩) T.length cap) T) (hn : n ≤ T.length) (hp : 0 < n → p = some ⟨b, o, none⟩) : ReadsB w (.slice p n cap) (T.take n) := by
  obtain ⟨a', cap', e, h1, h2, h3, h4⟩ := h
  injection e with e1 e2 e3
  subst e1 e3
  have hl : (T.take n).length = n := by rw [List.length_take]; omega
  refine ⟨p, cap, by rw [hl], by rw [hl]; omega, h2, isB_take h3 n, fun h0 => ?_⟩
  rw [hl] at h0
  obtain ⟨b', o', e, hb, hc⟩ := h4 (by omega)
  injection e with e
  injection e with e5 e6
  subst e5 e6
  refine ⟨b, o, hp h0, hb, fun j hj => ?_⟩
  rw [hl] at hj
  rw [hc j (by omega), List.getElem_take]
theorem reads_drop {w : World} {b o cap k m c' : Nat} {p : Option Addr} {T : List Nat} (h : ReadsB w (.slice (some ⟨b, o, none⟩) T.length cap) T) (hk : k ≤ T.length) (hm : m = T.length - k) (hc' : c' = cap - k) (hp : 0 < m → p = some ⟨b, o + k, none⟩) : ReadsB w (.slice p m c') (T.drop k) := by
  by_cases h0 : 0 < m
  · rw [hp h0]; exact h.drop k m c' hk hm hc'
  · obtain ⟨a', cap', e, h1, h2, h3, h4⟩ := h
    injection e with e1 e2 e3
    subst e1 e3
    have hl : (T.drop k).length = m := by rw [List.length_drop]; omega
    exact ⟨p, c', by rw [hl], by rw [hl]; omega, by omega, isB_drop h3 k, fun h => absurd h (by rw [hl]; exact h0)⟩

/-- What is read stays so while a row of the call's own turns, if what is read lies ahead of it. -/
theorem reads_over {w w' : World} {b o n cap : Nat} {F : List Nat} {row : Option Nat} (k : w.grownBy w' row) (hne : some b ≠ row) (h : ReadsB w (.slice (some ⟨b, o, none⟩) n cap) F) : ReadsB w' (.slice (some ⟨b, o, none⟩) n cap) F :=
  h.kept k (fun r hr => by simp [Value.ownBlock] at hr; subst hr; exact hne)

/-- How many a slice has. -/
def lenOf : Value → Nat
  | .slice _ n _ => n
  | _ => 0
theorem lenOf_slice (p : Option Addr) (n c : Nat) : lenOf (.slice p n c) = n := rfl

set_option maxHeartbeats 8000000 in
theorem wread {w : World} {v : Value} {F : List Nat} (H : ReadsB w v F) (HT : FormsAt w) (hF : F.length ≤ 65536) :
    Calls Tryd.prog 28 #[v] w fun r w' => w.grownBy w' none ∧ ∃ v', r = .returned (.tuple #[v', .int .i64 0]) ∧ ERow w' w.heap.size v' ((rd F).take 2048) := by
  have HT0 := Lib.hid HT
  have HF0 := Lib.hid H
  obtain ⟨a0, cap0, rfl, h1, h2, hB, h4⟩ := H
  have q1 : ¬ (((F.length : Nat) : Int) > 65536) := by omega
  obtain ⟨i0, hi0, hz0, hz1, hz2⟩ := entry_info
  have I0 := Lib.hid hi0
  have I1 := Lib.hid hz0
  have I2 := Lib.hid hz1
  have I3 := Lib.hid hz2
  clear hi0 hz0 hz1 hz2 h1 h2 h4 HT
  obtain ⟨B, hBB⟩ : ∃ B, B = w.heap.size := ⟨_, rfl⟩
  have HBB := Lib.hid hBB
  rw [← hBB]
  clear hBB
  go_enter Tryd.func28, Tryd.ntmps28
  go_wp2
  go_loopw [0, 4] (fun tv lv wr => ∃ (G : List Nat) (acc : List En) (ta la : Option Addr) (tc lc : Nat), tv = .slice ta G.length tc ∧ lv = .slice la acc.length lc ∧ acc.length ≤ 2048 ∧ Hid (ReadsB w (.slice ta G.length tc) G) ∧ Hid (ERow wr B (.slice la acc.length lc) acc) ∧ Hid (acc ++ rd G = rd F) ∧ Hid (G.length ≤ 65536) ∧ Hid (w.grownBy wr none))
    (fun tv _ _ => lenOf tv)
  case atStart => exact ⟨F, [], a0, none, cap0, 0, rfl, rfl, by decide, HF0, Lib.hid (erow_nil w B), Lib.hid rfl, Lib.hid hF, Lib.hid (World.grownBy.refl w none)⟩
  case round =>
    obtain ⟨G, acc, ta, la, tc, lc, rfl, rfl, hacc, HR, HE, HD, HL, HG⟩ := hrel
    by_cases h0 : G.length = 0
    · have hG0 : G = [] := List.eq_nil_of_length_eq_zero h0
      subst hG0
      have hfin : (rd F).take 2048 = acc := by
        rw [← HD.out]
        rw [rd_nil, List.append_nil, List.take_of_length_le hacc]
      have HFIN := Lib.hid hfin
      clear hfin
      go_wp2
      go_ret2
      exact ⟨HG.out, _, rfl, by rw [HFIN.out]; exact HE.out⟩
    · by_cases hfull : 2048 ≤ acc.length
      · have q2 : ((G.length : Nat) : Int) > 0 := by omega
        have q3 : ¬ ((acc.length : Nat) : Int) < 2048 := by omega
        have hfin : (rd F).take 2048 = acc := by
          rw [← HD.out]
          have h8 : acc.length = 2048 := by omega
          rw [← h8, List.take_left]
        have HFIN := Lib.hid hfin
        clear hfin
        go_wp2
        go_ret2
        exact ⟨HG.out, _, rfl, by rw [HFIN.out]; exact HE.out⟩
      · have q2 : ((G.length : Nat) : Int) > 0 := by omega
        have q3 : ((acc.length : Nat) : Int) < 2048 := by omega
        have q4 : (1 : Int) ≤ ((G.length : Nat) : Int) := by omega
        have q5 : (0 : Int) < ((G.length : Nat) : Int) := by omega
        obtain ⟨b, o, rfl, hcc, htc, hcm, hbw, hcell⟩ := (HR.out.grown HG.out).at (by omega)
        have c0 := hcell 0 (by omega)
        rw [Nat.add_zero] at c0
        obtain ⟨g, T, rfl⟩ : ∃ g T, G = g :: T := by
          cases G with
          | nil => simp at h0
          | cons g T => exact ⟨g, T, rfl⟩
        simp only [List.getElem_cons_zero] at c0
        have hg : g < 256 := by
          obtain ⟨_, _, _, _, _, h, _⟩ := HR.out
          exact h g (by simp)
        have hw : IntKind.i64.wrap ((g : Nat) : Int) = ((g : Nat) : Int) := by rw [IntKind.wrap_i64]; omega
        have hln : (g :: T).length - 1 = T.length := by simp
        have HT1 : Hid (∀ (wz : World), w.grownBy wz none → tc ≠ 1 → ReadsB wz (.slice (some ⟨b, o + 1, none⟩) T.length (tc - 1)) T) := Lib.hid (fun wz hz _ => by
          have := ((HR.out.grown hz).drop 1 T.length (tc - 1) (by simp) (by simp) rfl)
          simpa using this)
        clear hcell hcm
        have HTB : Hid (isB T) := Lib.hid (by
          obtain ⟨_, _, _, _, _, h, _⟩ := HR.out
          exact fun x hx => h x (by simp [hx]))
        simp only [List.length_cons] at *
        by_cases hc1 : tc = 1
        · have hTn : T = [] := List.eq_nil_of_length_eq_zero (by omega)
          subst hTn
          subst hc1
          simp only [List.length_nil] at *
          by_cases hg0 : 0 < g
          · have q7 : (0 : Int) < ((g : Nat) : Int) := by omega
            have hrd : rd (g :: []) = [] := rd_few hg0
            have HFE : Hid ((rd F).take 2048 = acc) := Lib.hid (by rw [← HD.out, hrd, List.append_nil, List.take_of_length_le hacc])
            clear hrd
            go_wp2_with fail
            go_quiet (fail)
            have kq : wr.grownBy (wr.drewN nq) none := ⟨rfl, rfl, rfl, Nat.le_refl _, fun _ _ _ => rfl⟩
            go_wp2
            go_ret2
            exact ⟨HG.out.trans kq, _, rfl, by rw [HFE.out]; exact HE.out.grown kq⟩
          · obtain rfl : g = 0 := by omega
            go_wp2_with fail
            go_quiet (fail)
            have kq : wr.grownBy (wr.drewN nq) none := ⟨rfl, rfl, rfl, Nat.le_refl _, fun _ _ _ => rfl⟩
            have HGq := Lib.hid (HG.out.trans kq)
            have HEq := Lib.hid (HE.out.grown kq)
            have hrt : ReadsB (wr.drewN nq) (.slice (some ⟨b, o, none⟩) 0 0) (([] : List Nat).take 0) := by rw [List.take_zero]; exact ⟨_, 0, rfl, Nat.le_refl _, by decide, fun x hx => absurd hx (by simp), fun h => absurd h (by simp)⟩
            have HD1 : Hid (ReadsB w (.slice (some ⟨b, o, none⟩) 0 0) (([] : List Nat).drop 0)) := Lib.hid ((show ReadsB w _ [] from ⟨_, 0, rfl, Nat.le_refl _, by decide, fun x hx => absurd hx (by simp), fun h => absurd h (by simp)⟩))
            have CO := wone hrt (HT0.out.kept HGq.out)
            have HST : Hid (rd (0 :: ([] : List Nat)) = (er (([] : List Nat).take 0)).toList ++ rd (([] : List Nat).drop 0)) := Lib.hid (rd_step (Nat.zero_le _))
            have hsmr : Hid (∀ e, er (([] : List Nat).take 0) = some e → smC e.call) := Lib.hid (fun e he => (eb_er (isB_take HTB.out 0) he).2.2)
            clear hrt
            cases her : er (([] : List Nat).take 0) with
            | none =>
              have hev : erV (([] : List Nat).take 0) = .tuple #[.agg #[.int .i64 0, .int .i64 0, .int .i64 0, .int .i64 0, .int .u64 0, .int .u64 0, .int .u64 0, .int .i64 0, .int .i64 0], .bool false] := by rw [erV, her]; rfl
              rw [hev] at CO
              rw [her] at HST
              have CO := Lib.hid CO
              have HKQ := Lib.hid kq
              clear hsmr
              clear hev her kq
              go_wp2_with fail
              refine CO.out.mono ?_
              rintro r w1 ⟨rfl, g1⟩
              have kb := World.grownBy_alloc w1 (.cells #[.int .i64 0, .int .i64 0, .int .i64 0, .int .i64 0, .int .u64 0, .int .u64 0, .int .u64 0, .int .i64 0, .int .i64 0] 55) none
              have kq := HKQ.out
              have kk := Lib.hid (kq.trans (g1.trans kb))
              have HGb := Lib.hid (HG.out.trans kk.out)
              have HEb := Lib.hid (HE.out.grown kk.out)
              clear g1 kb kq CO
              go_wp2
              go_roundw
              case rel => exact ⟨[], acc, _, la, _, lc, rfl, rfl, hacc, Lib.hid HD1.out, HEb, Lib.hid (by rw [← HD.out, HST.out]; rfl), Lib.hid (by simp), HGb⟩
              case measure => simp only [lenOf_slice]; omega
            | some e =>
              obtain ⟨ek, ewho, en, ⟨eop, ea, ebb, ec⟩, ed, em⟩ := e
              have hev : erV (([] : List Nat).take 0) = .tuple #[.agg #[.int .i64 ek, .int .i64 ewho, .int .i64 en, .int .i64 eop, .int .u64 (ea : Nat), .int .u64 (ebb : Nat), .int .u64 (ec : Nat), .int .i64 ed, .int .i64 em], .bool true] := by rw [erV, her]; rfl
              rw [hev] at CO
              rw [her] at HST
              have CO := Lib.hid CO
              have HKQ := Lib.hid kq
              have HSM1 := Lib.hid (hsmr.out _ her)
              clear hev her kq hsmr
              go_wp2_with fail
              refine CO.out.mono ?_
              rintro r w1 ⟨rfl, g1⟩
              have kb := World.grownBy_alloc w1 (.cells #[.int .i64 ek, .int .i64 ewho, .int .i64 en, .int .i64 eop, .int .u64 (ea : Nat), .int .u64 (ebb : Nat), .int .u64 (ec : Nat), .int .i64 ed, .int .i64 em] 55) none
              have kq := HKQ.out
              have kk := Lib.hid (kq.trans (g1.trans kb))
              have HGb := Lib.hid (HG.out.trans kk.out)
              have HEb := Lib.hid (HE.out.grown kk.out)
              have HBw : Hid (B ≤ w1.heap.size) := Lib.hid (by rw [HBB.out]; have := HG.out.size; have := kq.size; have := g1.size; omega)
              have kk1 := Lib.hid (kq.trans g1)
              clear g1 kb kq CO
              have hE' : (w1.alloc (.cells #[.int .i64 ek, .int .i64 ewho, .int .i64 en, .int .i64 eop, .int .u64 (ea : Nat), .int .u64 (ebb : Nat), .int .u64 (ec : Nat), .int .i64 ed, .int .i64 em] 55)).ownsRow B 55 9 (.slice la acc.length lc) acc.length (ens acc) := HEb.out
              go_wp2_with (
              at_builtin
              refine wpList_append_own_at _ rfl _ _ 48 rfl B 55 i0 zE.val 9 72 Tryd.underlying48 I0.out I1.out I2.out I3.out rfl (by decide) (.slice la acc.length lc) _ _ rfl (World.ownsRow.alloc hE' _) ⟨_, 0, none⟩ 1 1 (En.cells ⟨ek, ewho, en, ⟨eop, ea, ebb, ec⟩, ed, em⟩) rfl rfl (cell_nine_at _ ⟨ek, ewho, en, ⟨eop, ea, ebb, ec⟩, ed, em⟩ _ _ (by first | rfl | simp)) (fun x hx => ens_one ([⟨ek, ewho, en, ⟨eop, ea, ebb, ec⟩, ed, em⟩] : List En) x (by simpa [ens] using hx)) (by unfold maxLen; omega) (by omega) (by have := HBw.out; simp; omega) ?_
              intro v' w5 hown' hgrow3 hnil3 hat0
              obtain ⟨h5, g5, hat5⟩ := entry_put (w := w1.alloc (.cells #[.int .i64 ek, .int .i64 ewho, .int .i64 en, .int .i64 eop, .int .u64 (ea : Nat), .int .u64 (ebb : Nat), .int .u64 (ec : Nat), .int .i64 ed, .int .i64 em] 55)) (e := ⟨ek, ewho, en, ⟨eop, ea, ebb, ec⟩, ed, em⟩) hown' hgrow3 hat0
              have HE5 := Lib.hid h5
              have hgw : w.grownBy w5 none := grow_ownE HGb.out HEb.out (by rw [HBB.out]; exact Nat.le_refl _) g5
              have HG5 := Lib.hid hgw
              have hfrm := h5.form
              obtain ⟨la5, lc5, hv5⟩ : ∃ la5 lc5, v' = .slice la5 (acc ++ ([⟨ek, ewho, en, ⟨eop, ea, ebb, ec⟩, ed, em⟩] : List En)).length lc5 := by
                rcases hfrm with ⟨_, h⟩ | ⟨r', c', h, _⟩
                · exact absurd h (by simp)
                · exact ⟨_, c', h⟩
              subst hv5
              rw [List.length_append] at HE5 ⊢
              clear hown' hgrow3 hnil3 hat0 h5 g5 hat5 hgw hfrm hE'
              )
              go_roundw
              case rel => exact ⟨[], acc ++ [⟨ek, ewho, en, ⟨eop, ea, ebb, ec⟩, ed, em⟩], _, la5, _, lc5, rfl, by rw [List.length_append]; rfl, by rw [List.length_append]; simp; omega, Lib.hid HD1.out, Lib.hid (by rw [List.length_append]; exact HE5.out), Lib.hid (by rw [← HD.out, HST.out]; simp), Lib.hid (by simp), HG5⟩
              case measure => simp only [lenOf_slice]; omega
        · have q6 : (1 : Int) ≤ ((T.length + 1 : Nat) : Int) := by omega
          by_cases hlt : T.length < g
          · have q7 : ((T.length : Nat) : Int) < ((g : Nat) : Int) := by omega
            have hrd := rd_few hlt
            have HFE : Hid ((rd F).take 2048 = acc) := Lib.hid (by rw [← HD.out, hrd, List.append_nil, List.take_of_length_le hacc])
            clear hrd hlt
            go_wp2_with fail
            go_quiet (fail)
            have kq : wr.grownBy (wr.drewN nq) none := ⟨rfl, rfl, rfl, Nat.le_refl _, fun _ _ _ => rfl⟩
            go_wp2
            go_ret2
            exact ⟨HG.out.trans kq, _, rfl, by rw [HFE.out]; exact HE.out.grown kq⟩
          · have hgn : g ≤ T.length := by omega
            have q7 : ¬ ((T.length : Nat) : Int) < ((g : Nat) : Int) := by omega
            have q8 : ((g : Nat) : Int) ≤ ((T.length : Nat) : Int) := by omega
            have q9 : ((g : Nat) : Int) ≤ ((tc - 1 : Nat) : Int) := by omega
            have q10 : ¬ ((g : Nat) : Int) < 0 := by omega
            by_cases hcg : tc - 1 = g
            · obtain rfl : tc = g + 1 := by omega
              clear hcg
              go_wp2_with fail
              go_quiet (fail)
              have kq : wr.grownBy (wr.drewN nq) none := ⟨rfl, rfl, rfl, Nat.le_refl _, fun _ _ _ => rfl⟩
              have HGq := Lib.hid (HG.out.trans kq)
              have HEq := Lib.hid (HE.out.grown kq)
              have hrt : ReadsB (wr.drewN nq) (.slice (some ⟨b, o + 1, none⟩) g g) (T.take g) := reads_take (HT1.out _ HGq.out hc1) hgn (fun _ => rfl)
              have HD1 : Hid (ReadsB w (.slice (some ⟨b, o + 1, none⟩) (T.length - g) 0) (T.drop g)) := Lib.hid (reads_drop (HT1.out w (World.grownBy.refl w none) hc1) hgn rfl (by omega) (fun h => by omega))
              have CO := wone hrt (HT0.out.kept HGq.out)
              have HST : Hid (rd (g :: T) = (er (T.take g)).toList ++ rd (T.drop g)) := Lib.hid (rd_step hgn)
              have hsmr : Hid (∀ e, er (T.take g) = some e → smC e.call) := Lib.hid (fun e he => (eb_er (isB_take HTB.out g) he).2.2)
              clear hrt
              cases her : er (T.take g) with
              | none =>
                have hev : erV (T.take g) = .tuple #[.agg #[.int .i64 0, .int .i64 0, .int .i64 0, .int .i64 0, .int .u64 0, .int .u64 0, .int .u64 0, .int .i64 0, .int .i64 0], .bool false] := by rw [erV, her]; rfl
                rw [hev] at CO
                rw [her] at HST
                have CO := Lib.hid CO
                have HKQ := Lib.hid kq
                clear hsmr
                clear hev her kq hgn hlt
                go_wp2_with fail
                refine CO.out.mono ?_
                rintro r w1 ⟨rfl, g1⟩
                have kb := World.grownBy_alloc w1 (.cells #[.int .i64 0, .int .i64 0, .int .i64 0, .int .i64 0, .int .u64 0, .int .u64 0, .int .u64 0, .int .i64 0, .int .i64 0] 55) none
                have kq := HKQ.out
                have kk := Lib.hid (kq.trans (g1.trans kb))
                have HGb := Lib.hid (HG.out.trans kk.out)
                have HEb := Lib.hid (HE.out.grown kk.out)
                clear g1 kb kq CO
                go_wp2
                go_roundw
                case rel => exact ⟨T.drop g, acc, _, la, _, lc, by rw [List.length_drop], rfl, hacc, Lib.hid (by rw [List.length_drop]; exact HD1.out), HEb, Lib.hid (by rw [← HD.out, HST.out]; rfl), Lib.hid (by rw [List.length_drop]; have := HL.out; omega), HGb⟩
                case measure => simp only [lenOf_slice]; omega
              | some e =>
                obtain ⟨ek, ewho, en, ⟨eop, ea, ebb, ec⟩, ed, em⟩ := e
                have hev : erV (T.take g) = .tuple #[.agg #[.int .i64 ek, .int .i64 ewho, .int .i64 en, .int .i64 eop, .int .u64 (ea : Nat), .int .u64 (ebb : Nat), .int .u64 (ec : Nat), .int .i64 ed, .int .i64 em], .bool true] := by rw [erV, her]; rfl
                rw [hev] at CO
                rw [her] at HST
                have CO := Lib.hid CO
                have HKQ := Lib.hid kq
                have HSM1 := Lib.hid (hsmr.out _ her)
                clear hev her kq hgn hlt hsmr
                go_wp2_with fail
                refine CO.out.mono ?_
                rintro r w1 ⟨rfl, g1⟩
                have kb := World.grownBy_alloc w1 (.cells #[.int .i64 ek, .int .i64 ewho, .int .i64 en, .int .i64 eop, .int .u64 (ea : Nat), .int .u64 (ebb : Nat), .int .u64 (ec : Nat), .int .i64 ed, .int .i64 em] 55) none
                have kq := HKQ.out
                have kk := Lib.hid (kq.trans (g1.trans kb))
                have HGb := Lib.hid (HG.out.trans kk.out)
                have HEb := Lib.hid (HE.out.grown kk.out)
                have HBw : Hid (B ≤ w1.heap.size) := Lib.hid (by rw [HBB.out]; have := HG.out.size; have := kq.size; have := g1.size; omega)
                have kk1 := Lib.hid (kq.trans g1)
                clear g1 kb kq CO
                have hE' : (w1.alloc (.cells #[.int .i64 ek, .int .i64 ewho, .int .i64 en, .int .i64 eop, .int .u64 (ea : Nat), .int .u64 (ebb : Nat), .int .u64 (ec : Nat), .int .i64 ed, .int .i64 em] 55)).ownsRow B 55 9 (.slice la acc.length lc) acc.length (ens acc) := HEb.out
                go_wp2_with (
                at_builtin
                refine wpList_append_own_at _ rfl _ _ 48 rfl B 55 i0 zE.val 9 72 Tryd.underlying48 I0.out I1.out I2.out I3.out rfl (by decide) (.slice la acc.length lc) _ _ rfl (World.ownsRow.alloc hE' _) ⟨_, 0, none⟩ 1 1 (En.cells ⟨ek, ewho, en, ⟨eop, ea, ebb, ec⟩, ed, em⟩) rfl rfl (cell_nine_at _ ⟨ek, ewho, en, ⟨eop, ea, ebb, ec⟩, ed, em⟩ _ _ (by first | rfl | simp)) (fun x hx => ens_one ([⟨ek, ewho, en, ⟨eop, ea, ebb, ec⟩, ed, em⟩] : List En) x (by simpa [ens] using hx)) (by unfold maxLen; omega) (by omega) (by have := HBw.out; simp; omega) ?_
                intro v' w5 hown' hgrow3 hnil3 hat0
                obtain ⟨h5, g5, hat5⟩ := entry_put (w := w1.alloc (.cells #[.int .i64 ek, .int .i64 ewho, .int .i64 en, .int .i64 eop, .int .u64 (ea : Nat), .int .u64 (ebb : Nat), .int .u64 (ec : Nat), .int .i64 ed, .int .i64 em] 55)) (e := ⟨ek, ewho, en, ⟨eop, ea, ebb, ec⟩, ed, em⟩) hown' hgrow3 hat0
                have HE5 := Lib.hid h5
                have hgw : w.grownBy w5 none := grow_ownE HGb.out HEb.out (by rw [HBB.out]; exact Nat.le_refl _) g5
                have HG5 := Lib.hid hgw
                have hfrm := h5.form
                obtain ⟨la5, lc5, hv5⟩ : ∃ la5 lc5, v' = .slice la5 (acc ++ ([⟨ek, ewho, en, ⟨eop, ea, ebb, ec⟩, ed, em⟩] : List En)).length lc5 := by
                  rcases hfrm with ⟨_, h⟩ | ⟨r', c', h, _⟩
                  · exact absurd h (by simp)
                  · exact ⟨_, c', h⟩
                subst hv5
                rw [List.length_append] at HE5 ⊢
                clear hown' hgrow3 hnil3 hat0 h5 g5 hat5 hgw hfrm hE'
                )
                go_roundw
                case rel => exact ⟨T.drop g, acc ++ [⟨ek, ewho, en, ⟨eop, ea, ebb, ec⟩, ed, em⟩], _, la5, _, lc5, by rw [List.length_drop], by rw [List.length_append]; rfl, by rw [List.length_append]; simp; omega, Lib.hid (by rw [List.length_drop]; exact HD1.out), Lib.hid (by rw [List.length_append]; exact HE5.out), Lib.hid (by rw [← HD.out, HST.out]; simp), Lib.hid (by rw [List.length_drop]; have := HL.out; omega), HG5⟩
                case measure => simp only [lenOf_slice]; omega
            · skip
              go_wp2_with fail
              go_quiet (fail)
              have kq : wr.grownBy (wr.drewN nq) none := ⟨rfl, rfl, rfl, Nat.le_refl _, fun _ _ _ => rfl⟩
              have HGq := Lib.hid (HG.out.trans kq)
              have HEq := Lib.hid (HE.out.grown kq)
              have hrt : ReadsB (wr.drewN nq) (.slice (some ⟨b, o + 1, none⟩) g (tc - 1)) (T.take g) := reads_take (HT1.out _ HGq.out hc1) hgn (fun _ => rfl)
              have HD1 : Hid (ReadsB w (.slice (some ⟨b, o + 1 + g, none⟩) (T.length - g) (tc - 1 - g)) (T.drop g)) := Lib.hid (reads_drop (HT1.out w (World.grownBy.refl w none) hc1) hgn rfl rfl (fun h => rfl))
              have CO := wone hrt (HT0.out.kept HGq.out)
              have HST : Hid (rd (g :: T) = (er (T.take g)).toList ++ rd (T.drop g)) := Lib.hid (rd_step hgn)
              have hsmr : Hid (∀ e, er (T.take g) = some e → smC e.call) := Lib.hid (fun e he => (eb_er (isB_take HTB.out g) he).2.2)
              clear hrt
              cases her : er (T.take g) with
              | none =>
                have hev : erV (T.take g) = .tuple #[.agg #[.int .i64 0, .int .i64 0, .int .i64 0, .int .i64 0, .int .u64 0, .int .u64 0, .int .u64 0, .int .i64 0, .int .i64 0], .bool false] := by rw [erV, her]; rfl
                rw [hev] at CO
                rw [her] at HST
                have CO := Lib.hid CO
                have HKQ := Lib.hid kq
                clear hsmr
                clear hev her kq hgn hlt
                go_wp2_with fail
                refine CO.out.mono ?_
                rintro r w1 ⟨rfl, g1⟩
                have kb := World.grownBy_alloc w1 (.cells #[.int .i64 0, .int .i64 0, .int .i64 0, .int .i64 0, .int .u64 0, .int .u64 0, .int .u64 0, .int .i64 0, .int .i64 0] 55) none
                have kq := HKQ.out
                have kk := Lib.hid (kq.trans (g1.trans kb))
                have HGb := Lib.hid (HG.out.trans kk.out)
                have HEb := Lib.hid (HE.out.grown kk.out)
                clear g1 kb kq CO
                go_wp2
                go_roundw
                case rel => exact ⟨T.drop g, acc, _, la, _, lc, by rw [List.length_drop], rfl, hacc, Lib.hid (by rw [List.length_drop]; exact HD1.out), HEb, Lib.hid (by rw [← HD.out, HST.out]; rfl), Lib.hid (by rw [List.length_drop]; have := HL.out; omega), HGb⟩
                case measure => simp only [lenOf_slice]; omega
              | some e =>
                obtain ⟨ek, ewho, en, ⟨eop, ea, ebb, ec⟩, ed, em⟩ := e
                have hev : erV (T.take g) = .tuple #[.agg #[.int .i64 ek, .int .i64 ewho, .int .i64 en, .int .i64 eop, .int .u64 (ea : Nat), .int .u64 (ebb : Nat), .int .u64 (ec : Nat), .int .i64 ed, .int .i64 em], .bool true] := by rw [erV, her]; rfl
                rw [hev] at CO
                rw [her] at HST
                have CO := Lib.hid CO
                have HKQ := Lib.hid kq
                have HSM1 := Lib.hid (hsmr.out _ her)
                clear hev her kq hgn hlt hsmr
                go_wp2_with fail
                refine CO.out.mono ?_
                rintro r w1 ⟨rfl, g1⟩
                have kb := World.grownBy_alloc w1 (.cells #[.int .i64 ek, .int .i64 ewho, .int .i64 en, .int .i64 eop, .int .u64 (ea : Nat), .int .u64 (ebb : Nat), .int .u64 (ec : Nat), .int .i64 ed, .int .i64 em] 55) none
                have kq := HKQ.out
                have kk := Lib.hid (kq.trans (g1.trans kb))
                have HGb := Lib.hid (HG.out.trans kk.out)
                have HEb := Lib.hid (HE.out.grown kk.out)
                have HBw : Hid (B ≤ w1.heap.size) := Lib.hid (by rw [HBB.out]; have := HG.out.size; have := kq.size; have := g1.size; omega)
                have kk1 := Lib.hid (kq.trans g1)
                clear g1 kb kq CO
                have hE' : (w1.alloc (.cells #[.int .i64 ek, .int .i64 ewho, .int .i64 en, .int .i64 eop, .int .u64 (ea : Nat), .int .u64 (ebb : Nat), .int .u64 (ec : Nat), .int .i64 ed, .int .i64 em] 55)).ownsRow B 55 9 (.slice la acc.length lc) acc.length (ens acc) := HEb.out
                go_wp2_with (
                at_builtin
                refine wpList_append_own_at _ rfl _ _ 48 rfl B 55 i0 zE.val 9 72 Tryd.underlying48 I0.out I1.out I2.out I3.out rfl (by decide) (.slice la acc.length lc) _ _ rfl (World.ownsRow.alloc hE' _) ⟨_, 0, none⟩ 1 1 (En.cells ⟨ek, ewho, en, ⟨eop, ea, ebb, ec⟩, ed, em⟩) rfl rfl (cell_nine_at _ ⟨ek, ewho, en, ⟨eop, ea, ebb, ec⟩, ed, em⟩ _ _ (by first | rfl | simp)) (fun x hx => ens_one ([⟨ek, ewho, en, ⟨eop, ea, ebb, ec⟩, ed, em⟩] : List En) x (by simpa [ens] using hx)) (by unfold maxLen; omega) (by omega) (by have := HBw.out; simp; omega) ?_
                intro v' w5 hown' hgrow3 hnil3 hat0
                obtain ⟨h5, g5, hat5⟩ := entry_put (w := w1.alloc (.cells #[.int .i64 ek, .int .i64 ewho, .int .i64 en, .int .i64 eop, .int .u64 (ea : Nat), .int .u64 (ebb : Nat), .int .u64 (ec : Nat), .int .i64 ed, .int .i64 em] 55)) (e := ⟨ek, ewho, en, ⟨eop, ea, ebb, ec⟩, ed, em⟩) hown' hgrow3 hat0
                have HE5 := Lib.hid h5
                have hgw : w.grownBy w5 none := grow_ownE HGb.out HEb.out (by rw [HBB.out]; exact Nat.le_refl _) g5
                have HG5 := Lib.hid hgw
                have hfrm := h5.form
                obtain ⟨la5, lc5, hv5⟩ : ∃ la5 lc5, v' = .slice la5 (acc ++ ([⟨ek, ewho, en, ⟨eop, ea, ebb, ec⟩, ed, em⟩] : List En)).length lc5 := by
                  rcases hfrm with ⟨_, h⟩ | ⟨r', c', h, _⟩
                  · exact absurd h (by simp)
                  · exact ⟨_, c', h⟩
                subst hv5
                rw [List.length_append] at HE5 ⊢
                clear hown' hgrow3 hnil3 hat0 h5 g5 hat5 hgw hfrm hE'
                )
                go_roundw
                case rel => exact ⟨T.drop g, acc ++ [⟨ek, ewho, en, ⟨eop, ea, ebb, ec⟩, ed, em⟩], _, la5, _, lc5, by rw [List.length_drop], by rw [List.length_append]; rfl, by rw [List.length_append]; simp; omega, Lib.hid (by rw [List.length_drop]; exact HD1.out), Lib.hid (by rw [List.length_append]; exact HE5.out), Lib.hid (by rw [← HD.out, HST.out]; simp), Lib.hid (by rw [List.length_drop]; have := HL.out; omega), HG5⟩
                case measure => simp only [lenOf_slice]; omega
end Go.Proofs.YtcnojgkolpdomaaDoor
