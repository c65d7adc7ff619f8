/-
  Contracts of package box (things of type poll.Note), over this seat's translation: Sift.
-/
import Derived.Test.YtpnipmjjhiaieaaBox5N
namespace Go.Proofs.Ytpnipmjjhiaieaa.BN
open Go.RowKit Go.Lib Go.Conc
set_option maxRecDepth 100000
set_option linter.unusedVariables false

/-- Nothing has turned but blocks of P. -/
structure OnlyB (P : Nat → Prop) (w w' : World) : Prop where
  os : w'.os = w.os
  tape : w'.tape = w.tape
  output : w'.output = w.output
  size : w.heap.size ≤ w'.heap.size
  block : ∀ k, k < w.heap.size → ¬ P k → w'.heap[k]? = w.heap[k]?
theorem OnlyB.refl (P : Nat → Prop) (w : World) : OnlyB P w w := ⟨rfl, rfl, rfl, Nat.le_refl _, fun _ _ _ => rfl⟩
theorem OnlyB.trans {P : Nat → Prop} {a b c : World} (h : OnlyB P a b) (k : OnlyB P b c) : OnlyB P a c :=
  ⟨k.os.trans h.os, k.tape.trans h.tape, k.output.trans h.output, Nat.le_trans h.size k.size, fun i hi hr => (k.block i (Nat.lt_of_lt_of_le hi h.size) hr).trans (h.block i hi hr)⟩
theorem OnlyB.of_only {P : Nat → Prop} {c : Nat} {a b : World} (h : Only c (c + 1) a b) (hp : P c) : OnlyB P a b :=
  ⟨h.os, h.tape, h.output, h.size, fun i hi hr => h.block i hi (by have : i ≠ c := fun e => hr (e ▸ hp); omega)⟩
theorem OnlyB.of_none {P : Nat → Prop} {a b : World} (h : a.grownBy b none) : OnlyB P a b := ⟨h.os, h.tape, h.output, h.size, fun i hi _ => h.block i hi (by simp)⟩
theorem OnlyB.set {P : Nat → Prop} (w : World) (b o : Nat) (u : Value) (hp : P b) : OnlyB P w (w.setCell ⟨b, o, none⟩ u) :=
  ⟨rfl, rfl, rfl, by simp [World.setCell], fun i _ hr => Below.heap_setCell w ⟨b, o, none⟩ u i (fun e => hr (by have : i = b := e; exact this ▸ hp))⟩

section
variable {w w' : World} {bb c cap : Nat} {L : List (Nat × Vt)} {M : Nat → Bool}
theorem inj_fst {α : Type} : ∀ {L : List (Nat × α)} {x y : Nat × α}, (L.map Prod.fst).Nodup → x ∈ L → y ∈ L → x.1 = y.1 → x = y
  | [], _, _, _, hx, _, _ => by cases hx
  | a :: l, x, y, nd, hx, hy, e => by
    rw [List.map_cons, List.nodup_cons] at nd
    rcases List.mem_cons.1 hx with hx1 | hx1
    · rcases List.mem_cons.1 hy with hy1 | hy1
      · rw [hx1, hy1]
      · exact absurd (List.mem_map.2 ⟨y, hy1, by rw [← e, hx1]⟩) nd.1
    · rcases List.mem_cons.1 hy with hy1 | hy1
      · exact absurd (List.mem_map.2 ⟨x, hx1, by rw [e, hy1]⟩) nd.1
      · exact inj_fst nd.2 hx1 hy1 e
theorem BxM.marks {M' : Nat → Bool} (H : BxM w bb c cap L M) (h : ∀ x ∈ L, M x.1 = M' x.1) : BxM w bb c cap L M' :=
  ⟨H.b, H.ch, fun x hx => by rw [← h x hx]; exact H.th x hx, H.nd, H.le⟩
/-- A thing is marked. -/
theorem BxM.mark (H : BxM w bb c cap L M) {x : Nat × Vt} (hx : x ∈ L) : BxM (w.setCell ⟨x.1, 2, none⟩ (.bool true)) bb c cap L (fun k => decide (k = x.1) || M k) := by
  have hn := H.ne
  have hth := H.th x hx
  refine ⟨?_, ?_, fun y hy => ?_, H.nd, H.le⟩
  · exact (Below.heap_setCell w ⟨x.1, 2, none⟩ _ bb (by show bb ≠ x.1; exact fun e => (hn.2 x hx).2 e.symm)).trans H.b
  · obtain ⟨s, r, h⟩ := H.ch
    exact ⟨s, r, (Below.heap_setCell w ⟨x.1, 2, none⟩ _ c (by show c ≠ x.1; exact fun e => (hn.2 x hx).1 e.symm)).trans h⟩
  · by_cases e : y.1 = x.1
    · have hxy : y = x := by
        exact inj_fst H.nd hy hx e
      subst hxy
      have := blk_setCell w y.1 2 (.bool true) _ _ hth
      rw [this]
      simp [cellsOf]
    · refine (Below.heap_setCell w ⟨x.1, 2, none⟩ _ y.1 (by show y.1 ≠ x.1; exact e)).trans ?_
      rw [H.th y hy]
      simp [e]
theorem sift1 (p : Nat) (v : Vt) (m : Bool) (h : w.heap[p]? = some (.cells (cellsOf v m) 96 (0, 0))) : Calls Try.prog 57 #[ptr p] w fun e w' => e = .returned (.bool (!m)) ∧ w = w' := by
  have c1 := cell_blk h 2
  simp only [cellsOf, List.getElem?_toArray, List.getElem?_cons_succ, List.getElem?_cons_zero] at c1
  clear h
  unfold ptr
  go_enter Try.func57, Try.ntmps57
  go_wp2
  go_ret
  exact ⟨rfl, rfl⟩
theorem ptrs_filter_succ (f : Nat × Vt → Bool) {i : Nat} (hi : i < L.length) : ptrs ((L.take (i + 1)).filter f) = ptrs ((L.take i).filter f) ++ (if f L[i] then [ptr L[i].1] else []) := by
  rw [filter_take_succ f hi]
  unfold ptrs
  rw [List.map_append]
  split <;> rfl
theorem ptrs_length (K : List (Nat × Vt)) : (ptrs K).length = K.length := by simp [ptrs]

set_option maxRecDepth 100000 in
set_option maxHeartbeats 8000000 in
theorem sift_law (want : Vt → Bool) (ob : Nat) (a0 : Array Value) (t0 : TypeId) (ht0 : t0 ≠ 96)
    (hw : ∀ (w : World) (z : Vt), w.heap[ob]? = some (.cells a0 t0 (0, 0)) → Calls Try.prog 33 #[.agg #[.int .i64 z.1, .int .i64 z.2], .pointer (some ⟨ob, 0, none⟩)] w fun e w' => e = .returned (.bool (want z)) ∧ w.grownBy w' none)
    (H : Bx w bb c cap L) (hob : w.heap[ob]? = some (.cells a0 t0 (0, 0))) :
    Calls Try.prog 32 #[.pointer (some ⟨bb, 0, none⟩), .func (.func 33) #[] #[.pointer (some ⟨ob, 0, none⟩)]] w fun e w' => e = .returned (.int .i64 (L.length - (L.filter fun x => want x.2).length : Nat)) ∧ Bx w' bb c cap (L.filter fun x => want x.2) ∧ OnlyB (fun k => k = c ∨ ∃ x ∈ L, k = x.1) w w' := by
  have CT := Lib.hid (things_any H)
  have hle : L.length ≤ 4096 := by have := H.le; omega
  obtain ⟨i0, hi0, hi1, hi2, hi3⟩ := ptr_info
  have I0 := Lib.hid hi0
  have I1 := Lib.hid hi1
  have I2 := Lib.hid hi2
  have I3 := Lib.hid hi3
  have HW := Lib.hid hw
  have HO0 := Lib.hid hob
  have hobc : Hid (ob ≠ c) := Lib.hid (by
    rintro rfl
    obtain ⟨s, r, h⟩ := H.ch
    rw [h] at hob
    cases hob)
  have hobx : Hid (∀ x ∈ L, ob ≠ x.1) := Lib.hid (by
    rintro x hx rfl
    rw [H.th x hx] at hob
    injection hob with hob
    injection hob with _ hob
    exact ht0 hob.symm)
  clear H hi0 hi1 hi2 hi3 hw hob
  go_enter Try.func32, Try.ntmps32
  go_wp2_with fail
  refine CT.out.mono ?_
  rintro e w1 ⟨⟨v, rfl, h1⟩, h2, h3⟩
  obtain ⟨sa, cp, rfl, hf, hg⟩ := own_at h1
  have PR := Lib.hid h1
  have HB := Lib.hid h2
  have HO := Lib.hid (OnlyB.of_only (P := fun k => k = c ∨ ∃ x ∈ L, k = x.1) h3 (Or.inl rfl))
  have OB := Lib.hid ((h3.block ob (blk_lt HO0.out) (by have := hobc.out; omega)).trans HO0.out)
  have HG := Lib.hid hg
  have hw1 : Hid (w.heap.size ≤ w1.heap.size) := Lib.hid h3.size
  clear h1 h2 h3 CT hf hg HO0
  go_wp2_with fail
  go_loopw [5, 13] (fun s it wr => ∃ (i : Nat), i ≤ L.length ∧ it = .int .i64 i ∧ Hid (wr.ownsRow w1.heap.size 94 1 s ((L.take i).filter fun x => !want x.2).length (ptrs ((L.take i).filter fun x => !want x.2))) ∧ Hid (wr.ownsRow (w.heap.size + 1) 94 1 (.slice sa L.length cp) L.length (ptrs L)) ∧ Hid (Bx wr bb c cap L) ∧ Hid (OnlyB (fun k => k = c ∨ ∃ x ∈ L, k = x.1) w wr) ∧ Hid (wr.heap[ob]? = some (.cells a0 t0 (0, 0))) ∧ Hid (w1.heap.size ≤ wr.heap.size)) (fun s it _ => L.length - (Go.RowKit.intOf it).toNat)
  case atStart => exact ⟨0, Nat.zero_le _, rfl, Lib.hid (World.ownsRow_nil ..), PR, HB, HO, OB, Lib.hid (Nat.le_refl _)⟩
  case round =>
    have hpl : Hid (∀ g, (Value.slice sa L.length cp).ownBlock = some g → g < w1.heap.size) := Lib.hid fun g hg => (PR.out.lt g hg).2
    have hol : Hid (ob < w1.heap.size) := Lib.hid (blk_lt OB.out)
    clear PR HB HO OB
    obtain ⟨i, hi, rfl, UR, PR, HB, HO, OB, HZ⟩ := hrel
    by_cases hlt : i < L.length
    · have qi : (i : Int) < (L.length : Int) := by omega
      obtain ⟨g, hsa, hgb⟩ := HG.out (by omega)
      subst hsa
      have c1 : wr.cell? ⟨g, i, none⟩ = some (.pointer (some ⟨L[i].1, 0, none⟩)) := own_cell PR.out (u := ptr L[i].1) (by unfold ptrs; rw [List.getElem?_map, List.getElem?_eq_getElem hlt]; rfl) hgb
      have hth := HB.out.th L[i] (List.getElem_mem hlt)
      have c2 := cell_blk hth 0
      have c3 := cell_blk hth 1
      simp only [cellsOf, List.getElem?_toArray, List.getElem?_cons_zero, List.getElem?_cons_succ] at c2 c3
      have CW := Lib.hid (HW.out wr L[i].2 OB.out)
      have hps := ptrs_filter_succ (fun x => !want x.2) hlt
      have hfs := congrArg List.length hps
      rw [List.length_append, ptrs_length, ptrs_length] at hfs
      clear hth
      try simp only at hps
      try simp only at hfs
      generalize L[i].1 = q at *
      obtain ⟨z, hz⟩ : ∃ z, L[i].2 = z := ⟨_, rfl⟩
      rw [hz] at c2 c3 CW hps hfs
      clear hz
      generalize hm : ((L.take i).filter fun x => !want x.2).length = m at *
      generalize hm' : ((L.take (i + 1)).filter fun x => !want x.2).length = m' at *
      have hmb : m ≤ 4096 := by rw [← hm]; have := List.length_filter_le (fun x : Nat × Vt => !want x.2) (L.take i); simp at this; omega
      have HM := Lib.hid hm
      have HM' := Lib.hid hm'
      generalize hX : ptrs ((L.take i).filter fun x => !want x.2) = X at *
      clear hm hm' hX
      go_wp2_with fail
      refine CW.out.mono ?_
      rintro e w3 ⟨rfl, k3⟩
      have hgz := (PR.out.lt g hgb).2
      replace UR := Lib.hid (own_blk UR.out fun g hg => k3.block g (UR.out.lt g hg).2 (by simp))
      replace PR := Lib.hid (own_blk PR.out fun g hg => k3.block g (PR.out.lt g hg).2 (by simp))
      replace HB := Lib.hid (HB.out.kept k3)
      replace HO := Lib.hid (HO.out.trans (OnlyB.of_none k3))
      replace OB := Lib.hid ((k3.block ob (blk_lt OB.out) (by simp)).trans OB.out)
      replace HZ := Lib.hid (Nat.le_trans HZ.out k3.size)
      replace c1 : w3.cell? ⟨g, i, none⟩ = some (.pointer (some ⟨q, 0, none⟩)) := (k3.cell_far ⟨g, i, none⟩ hgz (by simp)).trans c1
      clear CW k3 c2 c3 hgz
      cases hwz : want z
      · simp only [hwz, Bool.not_false, if_true, List.length_singleton] at hps hfs
        subst hfs
        have HPS := Lib.hid hps
        clear hps hwz
        have ka := World.grownBy_alloc w3 (.cells #[ptr q] 94) none
        have SR := Lib.hid (src_one w3 (ptr q) 94 rfl)
        have U2 := Lib.hid (UR.out.alloc (.cells #[ptr q] 94))
        have P2 := Lib.hid (PR.out.alloc (.cells #[ptr q] 94))
        have B2 := Lib.hid (HB.out.kept ka)
        have O2 := Lib.hid (HO.out.trans (OnlyB.of_none ka))
        have OB2 := Lib.hid ((ka.block ob (blk_lt OB.out) (by simp)).trans OB.out)
        have hbase : Hid (w1.heap.size ≤ (w3.alloc (.cells #[ptr q] 94)).heap.size) := Lib.hid (Nat.le_trans HZ.out ka.size)
        obtain ⟨sv, cv, hsv, _, _⟩ := own_at UR.out
        subst hsv
        clear UR PR HB HO OB HZ ka hgb
        unfold ptr at *
        go_wp2_with (
          at_builtin
          refine wpList_append_src _ rfl _ _ 92 rfl w1.heap.size 94 i0 (.pointer none) 1 8 Try.underlying92 I0.out I1.out I2.out I3.out rfl (by decide) _ _ _ rfl U2.out _ 1 _ rfl SR.out (by unfold maxLen; omega) (by omega) hbase.out ?_
          intro v' w5 hown' hgrow hnil hat
          have hgr : Hid ((w3.alloc (.cells #[.pointer (some ⟨q, 0, none⟩)] 94)).grownBy w5 (Value.slice sv m cv).ownBlock) := Lib.hid hgrow
          have U3 := Lib.hid hown'
          clear hgrow hnil hat hown')
        go_wp2
        go_roundw
        case rel =>
          refine ⟨i + 1, hlt, by go_num, Lib.hid (by rw [HM'.out, HPS.out]; exact U3.out), Lib.hid (P2.out.kept hgr.out ?_), Lib.hid (B2.out.byRow U2.out (by decide) (by decide) hgr.out), Lib.hid ?_, Lib.hid ?_, Lib.hid (Nat.le_trans hbase.out hgr.out.size)⟩
          · refine Or.inr fun e => ?_
            have h1 := hpl.out g rfl
            have h2 := (U2.out.lt g e.symm).1
            omega
          · refine ⟨hgr.out.os.trans O2.out.os, hgr.out.tape.trans O2.out.tape, hgr.out.output.trans O2.out.output, Nat.le_trans O2.out.size hgr.out.size, fun k hk hr => (hgr.out.block k (Nat.lt_of_lt_of_le hk O2.out.size) (fun e => ?_)).trans (O2.out.block k hk hr)⟩
            have h1 := (U2.out.lt k e.symm).1
            have h2 := hw1.out
            omega
          · refine (hgr.out.block ob (by have := hbase.out; have := hol.out; omega) (fun e => ?_)).trans OB2.out
            have h1 := (U2.out.lt ob e.symm).1
            have h2 := hol.out
            omega
        case measure => simp [Go.RowKit.intOf]; omega
      · simp only [hwz, Bool.not_true, Bool.false_eq_true, if_false, List.length_nil, Nat.add_zero, List.append_nil] at hps hfs
        subst hfs
        have HPS := Lib.hid hps
        clear hps hwz
        go_wp2
        go_roundw
        case rel => exact ⟨i + 1, hlt, by go_num, Lib.hid (by rw [HM'.out, HPS.out]; exact UR.out), PR, HB, HO, OB, HZ⟩
        case measure => simp [Go.RowKit.intOf]; omega
    · obtain rfl : i = L.length := by omega
      rw [List.take_length] at UR
      clear HG
      obtain ⟨U, hU⟩ : ∃ U, (L.filter fun x => !want x.2) = U := ⟨_, rfl⟩
      have HU := Lib.hid hU
      rw [hU] at UR
      have hUl : U.length ≤ 4096 := by rw [← hU]; have := List.length_filter_le (fun x : Nat × Vt => !want x.2) L; omega
      obtain ⟨su, cu, rfl, _, hug⟩ := own_at UR.out
      have UG := Lib.hid hug
      clear hU hug PR HZ OB
      go_wp2_with fail
      go_loopw [31] (fun it wr => ∃ (j : Nat), j ≤ U.length ∧ it = .int .i64 j ∧ Hid (wr.ownsRow w1.heap.size 94 1 (.slice su U.length cu) U.length (ptrs U)) ∧ Hid (BxM wr bb c cap L (fun k => decide (k ∈ (U.take j).map Prod.fst))) ∧ Hid (OnlyB (fun k => k = c ∨ ∃ x ∈ L, k = x.1) w wr)) (fun it _ => U.length - (Go.RowKit.intOf it).toNat)
      case atStart => exact ⟨0, Nat.zero_le _, rfl, UR, Lib.hid (HB.out.marks fun x _ => by simp), HO⟩
      case round =>
        clear UR HB HO
        obtain ⟨j, hj, rfl, UR, HB, HO⟩ := hrel
        by_cases hjl : j < U.length
        · have qj : (j : Int) < (U.length : Int) := by omega
          obtain ⟨g, hsa, hgb⟩ := UG.out (by omega)
          subst hsa
          have hmem : U[j] ∈ L := by
            have : U[j] ∈ (L.filter fun x => !want x.2) := by rw [HU.out]; exact List.getElem_mem hjl
            exact (List.mem_filter.1 this).1
          have c1 : wr.cell? ⟨g, j, none⟩ = some (.pointer (some ⟨U[j].1, 0, none⟩)) := own_cell UR.out (u := ptr U[j].1) (by unfold ptrs; rw [List.getElem?_map, List.getElem?_eq_getElem hjl]; rfl) hgb
          have hth := HB.out.th U[j] hmem
          have c2 := cell_blk hth 2
          have f2 := frozen_blk hth 2
          simp only [cellsOf, List.getElem?_toArray, List.getElem?_cons_succ, List.getElem?_cons_zero] at c2
          have B2 := Lib.hid (HB.out.mark hmem)
          have O2 := Lib.hid (HO.out.trans (OnlyB.set wr U[j].1 2 (.bool true) (Or.inr ⟨_, hmem, rfl⟩)))
          have U2 : Hid ((wr.setCell ⟨U[j].1, 2, none⟩ (.bool true)).ownsRow w1.heap.size 94 1 (.slice (some ⟨g, 0, none⟩) U.length cu) U.length (ptrs U)) := Lib.hid (by
            refine own_blk UR.out fun g' hg' => ?_
            have := (HB.out.row UR.out (by decide) (by decide) g' hg').2.2 _ hmem
            exact Below.heap_setCell wr ⟨U[j].1, 2, none⟩ _ g' (by show g' ≠ U[j].1; exact this))
          have hts : Hid ((U.take (j + 1)).map Prod.fst = (U.take j).map Prod.fst ++ [U[j].1]) := Lib.hid (by rw [List.take_add_one, List.map_append, List.getElem?_eq_getElem hjl]; rfl)
          clear hth UR HB HO hmem hgb
          generalize decide (U[j].1 ∈ (U.take j).map Prod.fst) = mo at *
          generalize U[j].1 = q at *
          go_wp2
          go_roundw
          case rel =>
            refine ⟨j + 1, hjl, by go_num, U2, Lib.hid (B2.out.marks fun x _ => ?_), O2⟩
            rw [hts.out]
            simp only [List.mem_append, List.mem_singleton, Bool.decide_or]
            rw [Bool.or_comm]
          case measure => simp [Go.RowKit.intOf]; omega
        · obtain rfl : j = U.length := by omega
          have hmk : ∀ x ∈ L, (!decide (x.1 ∈ (U.take U.length).map Prod.fst)) = want x.2 := fun x hx => by
            rw [List.take_length, ← HU.out]
            cases hz : want x.2
            · have : x.1 ∈ (L.filter fun x => !want x.2).map Prod.fst := List.mem_map.2 ⟨x, List.mem_filter.2 ⟨hx, by simp [hz]⟩, rfl⟩
              simp only [this, decide_true, Bool.not_true]
            · have : ¬ x.1 ∈ (L.filter fun x => !want x.2).map Prod.fst := fun h => by
                obtain ⟨y, hy, e⟩ := List.mem_map.1 h
                obtain ⟨hy1, hy2⟩ := List.mem_filter.1 hy
                have : y = x := inj_fst HB.out.nd hy1 hx e
                subst this
                simp [hz] at hy2
              simp only [this, decide_false, Bool.not_false]
          have CU := Lib.hid (turn_bare (fun x => !decide (x.1 ∈ (U.take U.length).map Prod.fst)) (fun _ wr' => OnlyB (fun k => k = c ∨ ∃ x ∈ L, k = x.1) w wr')
            (fun i wx l s r hJ => hJ.trans (OnlyB.of_only (only_setChan ..) (Or.inl rfl)))
            (fun i wx hi hJ HT => (sift1 L[i].1 L[i].2 _ (HT.th L[i] (List.getElem_mem hi))).mono fun e w' hh => ⟨hh.1, hh.2 ▸ hJ, fun k _ => by rw [hh.2]⟩)
            HB.out HO.out)
          have hfe : (L.filter fun x => !decide (x.1 ∈ (U.take U.length).map Prod.fst)) = L.filter fun x => want x.2 := List.filter_congr hmk
          have HMK := Lib.hid hmk
          have HFE := Lib.hid hfe
          clear hmk hfe UR HB HO UG
          go_wp2_with fail
          refine CU.out.mono ?_
          rintro e w9 ⟨rfl, h1, h2⟩
          rw [HFE.out] at h1 ⊢
          have R := Lib.hid (And.intro h1 h2)
          clear h1 h2 CU
          go_wp2
          go_ret
          refine ⟨rfl, R.out.1.marks fun x hx => ?_, R.out.2⟩
          obtain ⟨hx1, hx2⟩ := List.mem_filter.1 hx
          have := HMK.out x hx1
          rw [hx2] at this
          simpa using this
end
end Go.Proofs.Ytpnipmjjhiaieaa.BN
