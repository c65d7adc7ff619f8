/-
  Contracts of package box (things of type poll.Note), over this seat's translation: turn.
-/
import Derived.Test.YtpnipmjjhiaieaaBox3N
namespace Go.Proofs.Ytpnipmjjhiaieaa.BN
open Go.RowKit Go.Lib Go.Conc
set_option maxRecDepth 100000
set_option linter.unusedVariables false

/-- A box of which only K waits just now. -/
structure BxT (w : World) (bb c cap : Nat) (L K : List (Nat × Vt)) (M : Nat → Bool) : Prop where
  b : w.heap[bb]? = some (.cells #[.chan (some c)] 90 (0, 0))
  ch : ∃ s r, w.heap[c]? = some (.chan cap (K.map fun x => ptr x.1).toArray false s r false)
  th : ∀ x ∈ L, w.heap[x.1]? = some (.cells (cellsOf x.2 (M x.1)) 96 (0, 0))
  nd : (L.map Prod.fst).Nodup
  le : L.length ≤ cap ∧ cap ≤ 4096
section
variable {w w' : World} {bb c cap : Nat} {L K : List (Nat × Vt)} {M : Nat → Bool}
theorem BxM.turned (H : BxM w bb c cap L M) : BxT w bb c cap L L M := ⟨H.b, H.ch, H.th, H.nd, H.le⟩
theorem BxT.lt (H : BxT w bb c cap L K M) : bb < w.heap.size ∧ c < w.heap.size ∧ ∀ x ∈ L, x.1 < w.heap.size :=
  ⟨blk_lt H.b, by obtain ⟨s, r, h⟩ := H.ch; exact blk_lt h, fun x hx => blk_lt (H.th x hx)⟩
theorem BxT.off (H : BxT w bb c cap L K M) (k : ∀ j, (j = bb ∨ j = c ∨ ∃ x ∈ L, j = x.1) → w'.heap[j]? = w.heap[j]?) : BxT w' bb c cap L K M :=
  ⟨(k bb (Or.inl rfl)).trans H.b, by obtain ⟨s, r, h⟩ := H.ch; exact ⟨s, r, (k c (Or.inr (Or.inl rfl))).trans h⟩, fun x hx => (k x.1 (Or.inr (Or.inr ⟨x, hx, rfl⟩))).trans (H.th x hx), H.nd, H.le⟩
theorem BxT.setCh (H : BxT w bb c cap L K M) (K' : List (Nat × Vt)) (s r : Nat) : BxT (w.setChan c cap (K'.map fun x => ptr x.1).toArray false s r false) bb c cap L K' M := by
  have k := only_setChan w c cap (K'.map fun x => ptr x.1).toArray false s r false
  obtain ⟨s0, r0, h⟩ := H.ch
  have hn : ∀ a t fr, w.heap[c]? ≠ some (.cells a t fr) := fun a t fr e => by rw [h] at e; cases e
  have hbc : bb ≠ c := fun e => hn _ _ _ (by rw [← e]; exact H.b)
  refine ⟨(k.block _ H.lt.1 (by omega)).trans H.b, ⟨s, r, heap_setChan w c cap _ false s r false H.lt.2.1⟩, fun x hx => ?_, H.nd, H.le⟩
  have h1 := H.th x hx
  refine (k.block _ (blk_lt h1) ?_).trans h1
  have : x.1 ≠ c := fun e => hn _ _ _ (by rw [← e]; exact h1)
  omega
/-- Behind a turn: of those that wait all are of the box. -/
theorem BxT.whole (H : BxT w bb c cap L K M) (hs : K.Sublist L) : BxM w bb c cap K M :=
  ⟨H.b, H.ch, fun x hx => H.th x (hs.subset hx), (hs.map Prod.fst).nodup H.nd, by have := hs.length_le; have := H.le; omega, H.le.2⟩

theorem drop_cons {α : Type} {L : List α} {i : Nat} (h : i < L.length) : L.drop i = L[i] :: L.drop (i + 1) := List.drop_eq_getElem_cons h
theorem filter_take_succ {α : Type} {L : List α} {i : Nat} (st : α → Bool) (h : i < L.length) : (L.take (i + 1)).filter st = (L.take i).filter st ++ (if st L[i] then [L[i]] else []) := by
  rw [List.take_add_one, List.filter_append, List.getElem?_eq_getElem h]
  simp only [Option.toList_some, List.filter_cons, List.filter_nil]

set_option maxHeartbeats 4000000 in
theorem turn_cap {cv : Value} (st : Nat × Vt → Bool) (J : Nat → World → Prop) (hset : ∀ i (w : World) l s r, J i w → J i (w.setChan c cap l false s r false))
    (hcall : ∀ i (w : World) (h : i < L.length), J i w → BxT w bb c cap L (L.drop (i + 1) ++ (L.take i).filter st) M → Calls Try.prog 66 #[ptr L[i].1, cv] w fun e w' => e = .returned (.bool (st L[i])) ∧ J (i + 1) w' ∧ ∀ j, (j = bb ∨ j = c ∨ ∃ x ∈ L, j = x.1) → w'.heap[j]? = w.heap[j]?)
    (H : BxM w bb c cap L M) (h0 : J 0 w) :
    Calls Try.prog 56 #[.pointer (some ⟨bb, 0, none⟩), .func (.func 66) #[] #[cv]] w fun e w' => e = .returned (.int .i64 (L.length - (L.filter st).length : Nat)) ∧ BxM w' bb c cap (L.filter st) M ∧ J L.length w' := by
  have CL := Lib.hid (len_any H)
  have HT := Lib.hid H.turned
  have HJ := Lib.hid h0
  have HS := Lib.hid hset
  have HC := Lib.hid hcall
  have hle : L.length ≤ 4096 := by have := H.le; omega
  clear H h0 hset hcall
  go_enter Try.func56, Try.ntmps56
  go_wp2_with fail
  refine CL.out.mono ?_
  rintro e w1 ⟨rfl, rfl⟩
  clear CL
  go_wp2_with fail
  go_loopw [5, 9] (fun s it wr => ∃ (i : Nat), i ≤ L.length ∧ it = .int .i64 i ∧ s = .int .i64 (i - ((L.take i).filter st).length : Nat) ∧ Hid (BxT wr bb c cap L (L.drop i ++ (L.take i).filter st) M) ∧ Hid (J i wr)) (fun s it _ => L.length - (Go.RowKit.intOf it).toNat)
  case atStart => exact ⟨0, Nat.zero_le _, rfl, by simp, Lib.hid (by simpa using HT.out), HJ⟩
  case round =>
    obtain ⟨i, hi, rfl, rfl, HT, HJ⟩ := hrel
    by_cases hlt : i < L.length
    · have qi : (i : Int) < (L.length : Int) := by omega
      obtain ⟨s, r, hch⟩ := HT.out.ch
      rw [drop_cons hlt, List.cons_append, List.map_cons] at hch
      have CT := Lib.hid (take_l (cell_blk HT.out.b 0) hch)
      have H2 := Lib.hid (HT.out.setCh (L.drop (i + 1) ++ (L.take i).filter st) s (r + 1))
      have J2 := Lib.hid (HS.out i _ ((L.drop (i + 1) ++ (L.take i).filter st).map fun x => ptr x.1).toArray s (r + 1) HJ.out)
      have CC := Lib.hid (HC.out i _ hlt J2.out H2.out)
      have hfl : ((L.take i).filter st).length ≤ i := by have := List.length_filter_le st (L.take i); simp at this; omega
      have hss := filter_take_succ st hlt
      clear hch HT HJ J2 hi
      generalize hF : ((L.take i).filter st) = F at *
      generalize wr.setChan c cap ((L.drop (i + 1) ++ F).map fun x => ptr x.1).toArray false s (r + 1) false = w2 at *
      go_wp2_with fail
      refine CT.out.mono ?_
      rintro e w3 ⟨rfl, rfl⟩
      clear CT
      go_wp2_with fail
      refine CC.out.mono ?_
      rintro e w4 ⟨rfl, j4, k4⟩
      have H4 := H2.out.off k4
      have J4 := Lib.hid j4
      obtain ⟨s4, r4, hch⟩ := H4.ch
      have hlen : (L.drop (i + 1) ++ F).length < cap := by have := H4.le; simp; omega
      have CP := Lib.hid (put_l (ptr L[i].1) (cell_blk H4.b 0) hch (by simpa using hlen))
      have H5 := Lib.hid (H4.setCh (L.drop (i + 1) ++ F ++ [L[i]]) (s4 + 1) r4)
      have HH4 := Lib.hid H4
      have J5 := Lib.hid (HS.out (i + 1) _ ((L.drop (i + 1) ++ F ++ [L[i]]).map fun x => ptr x.1).toArray (s4 + 1) r4 J4.out)
      clear H4 j4 k4 H2 CC hch hlen
      cases hst : st L[i]
      · rw [hst] at hss
        have HSS := Lib.hid hss
        have q2 : IntKind.i64.wrap (((i - F.length : Nat) : Int) + 1) = ((i + 1 - F.length : Nat) : Int) := by rw [IntKind.wrap_i64]; omega
        clear CP H5 J5 hss hst
        go_wp2
        go_roundw
        case rel => exact ⟨i + 1, hlt, by go_num, by rw [HSS.out]; simp, Lib.hid (by rw [HSS.out]; simpa using HH4.out), J4⟩
        case measure => simp [Go.RowKit.intOf]; omega
      · rw [hst] at hss
        have HSS := Lib.hid hss
        clear hss hst HH4 J4
        go_wp2_with fail
        refine CP.out.mono ?_
        rintro e w5 ⟨rfl, e5⟩
        have E5 : Hid (w5 = w4.setChan c cap ((L.drop (i + 1) ++ F ++ [L[i]]).map fun x => ptr x.1).toArray false (s4 + 1) r4 false) := Lib.hid (by rw [e5]; simp)
        clear e5 CP
        go_wp2
        go_roundw
        case rel => exact ⟨i + 1, hlt, by go_num, by rw [HSS.out]; simp, Lib.hid (by rw [HSS.out, E5.out]; simpa using H5.out), Lib.hid (by rw [E5.out]; exact J5.out)⟩
        case measure => simp [Go.RowKit.intOf]; omega
    · obtain rfl : i = L.length := by omega
      go_wp2
      go_ret
      refine ⟨?_, ?_, HJ.out⟩
      · simp
      · have := HT.out
        simp only [List.drop_length, List.take_length, List.nil_append] at this
        exact this.whole (List.filter_sublist ..)

set_option maxHeartbeats 4000000 in
theorem turn_bare (st : Nat × Vt → Bool) (J : Nat → World → Prop) (hset : ∀ i (w : World) l s r, J i w → J i (w.setChan c cap l false s r false))
    (hcall : ∀ i (w : World) (h : i < L.length), J i w → BxT w bb c cap L (L.drop (i + 1) ++ (L.take i).filter st) M → Calls Try.prog 57 #[ptr L[i].1] w fun e w' => e = .returned (.bool (st L[i])) ∧ J (i + 1) w' ∧ ∀ j, (j = bb ∨ j = c ∨ ∃ x ∈ L, j = x.1) → w'.heap[j]? = w.heap[j]?)
    (H : BxM w bb c cap L M) (h0 : J 0 w) :
    Calls Try.prog 56 #[.pointer (some ⟨bb, 0, none⟩), .func (.func 57) #[] #[]] w fun e w' => e = .returned (.int .i64 (L.length - (L.filter st).length : Nat)) ∧ BxM w' bb c cap (L.filter st) M ∧ J L.length w' := by
  have CL := Lib.hid (len_any H)
  have HT := Lib.hid H.turned
  have HJ := Lib.hid h0
  have HS := Lib.hid hset
  have HC := Lib.hid hcall
  have hle : L.length ≤ 4096 := by have := H.le; omega
  clear H h0 hset hcall
  go_enter Try.func56, Try.ntmps56
  go_wp2_with fail
  refine CL.out.mono ?_
  rintro e w1 ⟨rfl, rfl⟩
  clear CL
  go_wp2_with fail
  go_loopw [5, 9] (fun s it wr => ∃ (i : Nat), i ≤ L.length ∧ it = .int .i64 i ∧ s = .int .i64 (i - ((L.take i).filter st).length : Nat) ∧ Hid (BxT wr bb c cap L (L.drop i ++ (L.take i).filter st) M) ∧ Hid (J i wr)) (fun s it _ => L.length - (Go.RowKit.intOf it).toNat)
  case atStart => exact ⟨0, Nat.zero_le _, rfl, by simp, Lib.hid (by simpa using HT.out), HJ⟩
  case round =>
    obtain ⟨i, hi, rfl, rfl, HT, HJ⟩ := hrel
    by_cases hlt : i < L.length
    · have qi : (i : Int) < (L.length : Int) := by omega
      obtain ⟨s, r, hch⟩ := HT.out.ch
      rw [drop_cons hlt, List.cons_append, List.map_cons] at hch
      have CT := Lib.hid (take_l (cell_blk HT.out.b 0) hch)
      have H2 := Lib.hid (HT.out.setCh (L.drop (i + 1) ++ (L.take i).filter st) s (r + 1))
      have J2 := Lib.hid (HS.out i _ ((L.drop (i + 1) ++ (L.take i).filter st).map fun x => ptr x.1).toArray s (r + 1) HJ.out)
      have CC := Lib.hid (HC.out i _ hlt J2.out H2.out)
      have hfl : ((L.take i).filter st).length ≤ i := by have := List.length_filter_le st (L.take i); simp at this; omega
      have hss := filter_take_succ st hlt
      clear hch HT HJ J2 hi
      generalize hF : ((L.take i).filter st) = F at *
      generalize wr.setChan c cap ((L.drop (i + 1) ++ F).map fun x => ptr x.1).toArray false s (r + 1) false = w2 at *
      go_wp2_with fail
      refine CT.out.mono ?_
      rintro e w3 ⟨rfl, rfl⟩
      clear CT
      go_wp2_with fail
      refine CC.out.mono ?_
      rintro e w4 ⟨rfl, j4, k4⟩
      have H4 := H2.out.off k4
      have J4 := Lib.hid j4
      obtain ⟨s4, r4, hch⟩ := H4.ch
      have hlen : (L.drop (i + 1) ++ F).length < cap := by have := H4.le; simp; omega
      have CP := Lib.hid (put_l (ptr L[i].1) (cell_blk H4.b 0) hch (by simpa using hlen))
      have H5 := Lib.hid (H4.setCh (L.drop (i + 1) ++ F ++ [L[i]]) (s4 + 1) r4)
      have HH4 := Lib.hid H4
      have J5 := Lib.hid (HS.out (i + 1) _ ((L.drop (i + 1) ++ F ++ [L[i]]).map fun x => ptr x.1).toArray (s4 + 1) r4 J4.out)
      clear H4 j4 k4 H2 CC hch hlen
      cases hst : st L[i]
      · rw [hst] at hss
        have HSS := Lib.hid hss
        have q2 : IntKind.i64.wrap (((i - F.length : Nat) : Int) + 1) = ((i + 1 - F.length : Nat) : Int) := by rw [IntKind.wrap_i64]; omega
        clear CP H5 J5 hss hst
        go_wp2
        go_roundw
        case rel => exact ⟨i + 1, hlt, by go_num, by rw [HSS.out]; simp, Lib.hid (by rw [HSS.out]; simpa using HH4.out), J4⟩
        case measure => simp [Go.RowKit.intOf]; omega
      · rw [hst] at hss
        have HSS := Lib.hid hss
        clear hss hst HH4 J4
        go_wp2_with fail
        refine CP.out.mono ?_
        rintro e w5 ⟨rfl, e5⟩
        have E5 : Hid (w5 = w4.setChan c cap ((L.drop (i + 1) ++ F ++ [L[i]]).map fun x => ptr x.1).toArray false (s4 + 1) r4 false) := Lib.hid (by rw [e5]; simp)
        clear e5 CP
        go_wp2
        go_roundw
        case rel => exact ⟨i + 1, hlt, by go_num, by rw [HSS.out]; simp, Lib.hid (by rw [HSS.out, E5.out]; simpa using H5.out), Lib.hid (by rw [E5.out]; exact J5.out)⟩
        case measure => simp [Go.RowKit.intOf]; omega
    · obtain rfl : i = L.length := by omega
      go_wp2
      go_ret
      refine ⟨?_, ?_, HJ.out⟩
      · simp
      · have := HT.out
        simp only [List.drop_length, List.take_length, List.nil_append] at this
        exact this.whole (List.filter_sublist ..)
end
end Go.Proofs.Ytpnipmjjhiaieaa.BN
