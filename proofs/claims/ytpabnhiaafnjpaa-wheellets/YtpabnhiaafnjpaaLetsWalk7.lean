/-
  WheelLets: an alarm that is let be is not told, and may be set again; the others are told as if it had not been set.
-/
import Derived.Test.YtpabnhiaafnjpaaCutsWalk7
import Derived.Maps.Own
import Derived.Maps.RangeWalk
namespace Go.Proofs.Ytpabnhiaafnjpaa
open Go.RowKit Go.Lib Go.Maps
set_option maxRecDepth 100000
set_option linter.unusedVariables false
theorem law_intW : Keyed Try.prog 3 := int_keyed Try.underlying3
theorem zero_intW (w : World) : (zeroValue 3).run Try.prog w = .ok (.int .i64 0) w := rfl
theorem wf_b (z : Int) (h : -9223372036854775808 ≤ z ∧ z < 9223372036854775808) : (Lit.int .i64 z).wf = true := by
  simp [Lit.wf, IntKind.min, IntKind.max, IntKind.bits, IntKind.signed]; omega
/-- How often a number comes among the first i. -/
def cnO (zs : Nat → Int) : Nat → Int → Nat
  | 0, _ => 0
  | i + 1, z => cnO zs i z + if z = zs i then 1 else 0
theorem cnO_le (zs : Nat → Int) (z : Int) : ∀ i, cnO zs i z ≤ i
  | 0 => Nat.le_refl _
  | i + 1 => by have := cnO_le zs z i; unfold cnO; split <;> omega
theorem cnO_mono (zs : Nat → Int) (z : Int) : ∀ i j, i ≤ j → cnO zs i z ≤ cnO zs j z
  | i, 0, h => by obtain rfl : i = 0 := (by omega); exact Nat.le_refl _
  | i, j + 1, h => by
    by_cases e : i = j + 1
    · subst e; exact Nat.le_refl _
    · have := cnO_mono zs z i j (by omega)
      show _ ≤ cnO zs j z + (if z = zs j then 1 else 0)
      omega
theorem cnO_at (zs : Nat → Int) (i j : Nat) (h : i < j) : 0 < cnO zs j (zs i) := by
  have := cnO_mono zs (zs i) (i + 1) j h
  have h2 : cnO zs (i + 1) (zs i) = cnO zs i (zs i) + 1 := by show _ + (if zs i = zs i then 1 else 0) = _; rw [if_pos rfl]
  omega
/-- The map holds the counts. -/
def MapO (D : DataW Unit) (st : Int → Nat) : Prop := ∀ z : Int, D.atKey (.int .i64 z) (.lit (.int .i64 0)) = .lit (.int .i64 (st z : Nat))
theorem mapO_put {D : DataW Unit} {st : Int → Nat} (H : MapO D st) (hm : IsMap D) (z : Int) (x : Nat) (st' : Int → Nat) (h1 : st' z = x) (h2 : ∀ y, y ≠ z → st' y = st y) : MapO (D.put (.int .i64 z) (.lit (.int .i64 (x : Nat)))) st' := fun y => by
  by_cases e : y = z
  · subst e; rw [atKey_put_same hm (show WideAt.IsKeyLit (.int .i64 y) from trivial), h1]
  · rw [atKey_put_other (by intro h; injection h with _ h2; exact e h2), H y, h2 y e]
section
variable {w w' : World} {mb j : Nat} {D : DataW Unit} {st : Int → Nat}
theorem mapO_look (mp : w.ownsMap Try.prog 3 (plainElem Try.prog 3) mb j D) (is : MapO D st) (z : Int) (hz : -9223372036854775808 ≤ z ∧ z < 9223372036854775808) :
    (Instr.lookup 59 (.map (some mb)) (.int .i64 z) false).run Try.prog w = .ok (.int .i64 (st z : Nat)) w := by
  obtain ⟨c, hrun, hat, _⟩ := mp.lookup_int law_intW Try.underlying59 Try.underlying3 (zero_intW w) (keyOf_int_mk Try.underlying3 (wf_b z hz))
  have : c = (st z : Nat) := by
    have := hat.symm.trans (is z)
    simpa using this
  subst this
  exact hrun
theorem mapO_only {lo hi : Nat} (H : w.ownsMap Try.prog 3 (plainElem Try.prog 3) mb j D) (k : Only lo hi w w') (hm : hi ≤ mb) : w'.ownsMap Try.prog 3 (plainElem Try.prog 3) mb j D := by
  have hl := H.lt
  unfold World.ownsMap at H ⊢
  rw [k.block mb hl (Or.inr hm)]
  exact H
end
theorem ranges_only {w w' : World} {b r n lo hi : Nat} {D : DataW Unit} {left : Lit → Bool} {cnt : Nat} (h : w.ranges Try.prog 3 (plainElem Try.prog 3) b r n D left cnt) (k : Only lo hi w w') (hb : hi ≤ b) (hr : hi ≤ r) : w'.ranges Try.prog 3 (plainElem Try.prog 3) b r n D left cnt := by
  have h1 := h.owns.lt
  have h2 := h.lt
  obtain ⟨es, clock, since, seen, c0, hb0, F, hs, hD, hr0, rest⟩ := h
  exact ⟨es, clock, since, seen, c0, (k.block b h1 (Or.inr hb)).trans hb0, F, hs, hD, (k.block r h2 (Or.inr hr)).trans hr0, rest⟩
/-- What is in the map was counted. -/
def HasO (D : DataW Unit) (st : Int → Nat) : Prop := ∀ z : Int, Maps.has D (.int .i64 z) = true → 0 < st z
theorem hasO_put {D : DataW Unit} {st : Int → Nat} (H : HasO D st) (hm : IsMap D) (z : Int) (v : DataW Unit) (st' : Int → Nat) (h1 : 0 < st' z) (h2 : ∀ y, y ≠ z → st' y = st y) : HasO (D.put (.int .i64 z) v) st' := fun y hy => by
  by_cases e : y = z
  · subst e; exact h1
  · rw [h2 y e]
    exact H y (by rwa [has_put_other (by intro h; injection h with _ h2; exact e h2)] at hy)
/-- Those of n alarms that were not let be. -/
def offF (f : Nat → Nat × Nat) (n : Nat) (c : Int → Nat) : Nat → Option (Nat × Nat) := fun k => if k < n ∧ c (k : Int) = 0 then some (f k) else none
theorem offF_all (f : Nat → Nat × Nat) (n : Nat) : setF f n = offF f n (fun _ => 0) := by
  funext k; unfold setF offF
  by_cases h : k < n
  · rw [if_pos h, if_pos ⟨h, rfl⟩]
  · rw [if_neg h, if_neg (fun hh => h hh.1)]
theorem offF_next (f : Nat → Nat × Nat) (n : Nat) (c : Int → Nat) (h : c (n : Int) = 0) : upS (offF f n c) n (some (f n)) = offF f (n + 1) c := by
  funext k; unfold upS offF
  by_cases e : k = n
  · subst e; rw [if_pos rfl, if_pos ⟨Nat.lt_succ_self _, h⟩]
  · rw [if_neg e]
    by_cases h2 : k < n ∧ c (k : Int) = 0
    · rw [if_pos h2, if_pos ⟨by omega, h2.2⟩]
    · rw [if_neg h2, if_neg (fun hh => h2 ⟨by omega, hh.2⟩)]
theorem offF_skip (f : Nat → Nat × Nat) (n : Nat) (c : Int → Nat) (h : c (n : Int) ≠ 0) : offF f n c = offF f (n + 1) c := by
  funext k; unfold offF
  by_cases h2 : k < n ∧ c (k : Int) = 0
  · rw [if_pos h2, if_pos ⟨by omega, h2.2⟩]
  · rw [if_neg h2, if_neg]
    rintro ⟨h3, h4⟩
    by_cases e : k = n
    · subst e; exact h h4
    · exact h2 ⟨by omega, h4⟩
theorem offF_take (f : Nat → Nat × Nat) (n : Nat) (zs : Nat → Int) (i : Nat) (k : Nat) (hk : zs i = (k : Int)) : upS (offF f n (cnO zs i)) k none = offF f n (cnO zs (i + 1)) := by
  funext j; unfold upS offF
  have hs : cnO zs (i + 1) (j : Int) = cnO zs i (j : Int) + if (j : Int) = zs i then 1 else 0 := rfl
  rw [hs, hk]
  by_cases e : j = k
  · subst e; rw [if_pos rfl, if_neg]; rintro ⟨_, h⟩; simp at h
  · rw [if_neg e, if_neg (show ¬ (j : Int) = (k : Int) by omega), Nat.add_zero]
theorem offF_miss (f : Nat → Nat × Nat) (n : Nat) (zs : Nat → Int) (i : Nat) (h : zs i < 0 ∨ offF f n (cnO zs i) (zs i).toNat = none) : offF f n (cnO zs i) = offF f n (cnO zs (i + 1)) := by
  funext j; unfold offF
  have hs : cnO zs (i + 1) (j : Int) = cnO zs i (j : Int) + if (j : Int) = zs i then 1 else 0 := rfl
  rw [hs]
  by_cases e : (j : Int) = zs i
  · rcases h with h | h
    · omega
    · have : (zs i).toNat = j := by omega
      rw [this] at h
      unfold offF at h
      rw [if_pos e]
      by_cases hc : j < n ∧ cnO zs i (j : Int) = 0
      · rw [if_pos hc] at h; cases h
      · rw [if_neg hc, if_neg (fun hh => by omega)]
  · rw [if_neg e, Nat.add_zero]
set_option maxRecDepth 100000 in
set_option maxHeartbeats 64000000 in
theorem lets_walk (now : Nat) (sa1 : Option Addr) (len1 cap1 sb1 off1 : Nat) (zs1 : Nat → Nat) (sa2 : Option Addr) (len2 cap2 sb2 off2 : Nat) (zs2 : Nat → Int) (fin : Nat) (w : World) (hnow : now < 18446744073709551616)
    (_hm1 : len1 ≤ maxLen) (hs1 : 0 < len1 → sa1 = some ⟨sb1, off1, none⟩ ∧ sb1 < w.heap.size) (hz1 : ∀ j, j < len1 → w.cell? ⟨sb1, off1 + j, none⟩ = some (.int .u64 ((zs1 j : Nat) : Int)) ∧ zs1 j < 18446744073709551616)
    (_hm2 : len2 ≤ maxLen) (hs2 : 0 < len2 → sa2 = some ⟨sb2, off2, none⟩ ∧ sb2 < w.heap.size) (hz2 : ∀ j, j < len2 → w.cell? ⟨sb2, off2 + j, none⟩ = some (.int .i64 (zs2 j)) ∧ -9223372036854775808 ≤ zs2 j ∧ zs2 j < 9223372036854775808) (hfin : fin < 18446744073709551616) :
    Calls Try.prog 6 #[.int .u64 (now : Nat), .slice sa1 len1 cap1, .slice sa2 len2 cap2, .int .u64 (fin : Nat)] w fun e w' => e = .returned (.bool true) ∧ w.grownBy w' none := by
  have C0 := Lib.hid (alive7 w)
  have R0 : Hid (∀ (v : World) (j : Nat), w.grownBy v none → j < len1 → sa1 = some ⟨sb1, off1, none⟩ ∧ v.cell? ⟨sb1, off1 + j, none⟩ = some (.int .u64 ((zs1 j : Nat) : Int)) ∧ zs1 j < 18446744073709551616) := Lib.hid fun v j k hj => by
    obtain ⟨h1, h2⟩ := hs1 (by omega)
    exact ⟨h1, (k.cell_far ⟨sb1, off1 + j, none⟩ h2 (by simp)).trans (hz1 j hj).1, (hz1 j hj).2⟩
  have R2 : Hid (∀ (v : World) (j : Nat), w.grownBy v none → j < len2 → sa2 = some ⟨sb2, off2, none⟩ ∧ v.cell? ⟨sb2, off2 + j, none⟩ = some (.int .i64 (zs2 j)) ∧ (-9223372036854775808 ≤ zs2 j ∧ zs2 j < 9223372036854775808)) := Lib.hid fun v j k hj => by
    obtain ⟨h1, h2⟩ := hs2 (by omega)
    exact ⟨h1, (k.cell_far ⟨sb2, off2 + j, none⟩ h2 (by simp)).trans (hz2 j hj).1, (hz2 j hj).2⟩
  clear hs1 hz1 hs2 hz2
  by_cases hl0 : 64 < len1
  · have q : (64 : Int) < (len1 : Int) := by omega
    go_enter Try.func6, Try.ntmps6
    go_wp2_with fail
    refine C0.out.mono ?_
    rintro e w1 ⟨rfl, k1⟩
    go_wp2
    go_ret
    exact ⟨rfl, k1⟩
  have q0 : ¬ (64 : Int) < (len1 : Int) := by omega
  by_cases hl2 : 64 < len2
  · have q : (64 : Int) < (len2 : Int) := by omega
    go_enter Try.func6, Try.ntmps6
    go_wp2_with fail
    refine C0.out.mono ?_
    rintro e w1 ⟨rfl, k1⟩
    go_wp2
    go_ret
    exact ⟨rfl, k1⟩
  have q2 : ¬ (64 : Int) < (len2 : Int) := by omega
  by_cases hn0 : 4611686018427387904 < now
  · have q : (4611686018427387904 : Int) < (now : Int) := by omega
    go_enter Try.func6, Try.ntmps6
    go_wp2_with fail
    refine C0.out.mono ?_
    rintro e w1 ⟨rfl, k1⟩
    go_wp2
    go_ret
    exact ⟨rfl, k1⟩
  have q1 : ¬ (4611686018427387904 : Int) < (now : Int) := by omega
  obtain ⟨f, hf⟩ : ∃ f : Nat → Nat × Nat, f = fun k => (now + zs1 k % 4611686018427387904, 7) := ⟨_, rfl⟩
  have HF : Hid (∀ k, f k = (now + zs1 k % 4611686018427387904, 7)) := Lib.hid fun k => by rw [hf]
  clear hf
  have hme := low62 fin hfin
  obtain ⟨ge, hge⟩ : ∃ g, fin % 4611686018427387904 = g := ⟨_, rfl⟩
  have hgeb : ge < 4611686018427387904 := by omega
  rw [hge] at hme
  clear hge
  have hmkm : ∀ W : World, (Instr.makeMap 59 none).run Try.prog W = .ok (.map (some W.heap.size)) (W.alloc (.map #[] 0)) := fun W => run_makeMap _ W
  go_enter Try.func6, Try.ntmps6
  go_wp2_with fail
  refine C0.out.mono ?_
  rintro e u1 ⟨rfl, k1⟩
  have G1 := Lib.hid k1
  have CN : Hid (∀ v, Calls Try.prog 11 #[.int .i64 (len1 : Nat), .int .u64 (now : Nat)] v fun e w' => ∃ wb, e = .returned (.pointer (some ⟨wb, 0, none⟩)) ∧ v.grownBy w' none ∧ Wl w' v.heap.size w'.heap.size wb len1 now (fun _ => none)) := Lib.hid fun v => by
    have := wl_new (len1 : Int) now hnow v
    rwa [clamp_len len1 (by omega)] at this
  clear k1 C0
  go_wp2_with fail
  refine (CN.out _).mono ?_
  rintro e u2 ⟨ba, rfl, k2, h2⟩
  go_wp2_with fail
  refine (CN.out _).mono ?_
  rintro e u3 ⟨bb, rfl, k3, h3⟩
  have eS : (fun _ => none) = setF f 0 := by funext k; simp [setF]
  have HT : Hid (TW w u3 u1.heap.size u2.heap.size ba u2.heap.size u3.heap.size bb len1 now now (setF f 0) (setF f 0)) := Lib.hid ⟨eS ▸ h2.kept k3, eS ▸ h3, (G1.out.trans k2).trans k3, G1.out.size, k2.size, Nat.le_refl _, k3.size, Nat.le_refl _⟩
  have km := World.grownBy_alloc u3 (.map #[] 0) none
  have HTM := Lib.hid (HT.out.kept km)
  have HM0 := Lib.hid (World.ownsMap_made (H := Unit) u3 Try.prog 3 (plainElem Try.prog 3))
  clear k2 h2 k3 h3 CN G1 eS km HT
  go_wp2_with fail
  generalize u1.heap.size = l1 at *
  generalize u2.heap.size = h1 at *
  generalize u3.heap.size = mb at *
  generalize u3.alloc (.map #[] 0) = u4 at *
  clear hmkm
  go_loopw [51] (fun it wr => ∃ (i : Nat) (D : DataW Unit), i ≤ len2 ∧ it = .int .i64 i ∧ Hid (TW w wr l1 h1 ba h1 mb bb len1 now now (setF f 0) (setF f 0)) ∧ Hid (wr.ownsMap Try.prog 3 (plainElem Try.prog 3) mb i D) ∧ Hid (MapO D (cnO zs2 i)) ∧ Hid (HasO D (cnO zs2 i))) (fun it _ => len2 - (intOf it).toNat)
  case atStart => exact ⟨0, _, Nat.zero_le _, rfl, HTM, HM0, Lib.hid fun _ => rfl, Lib.hid fun z hz => (by cases hz)⟩
  case round =>
    clear HTM HM0
    obtain ⟨i, D, hi, rfl, H, MP, IS, HO⟩ := hrel
    by_cases hlt : i < len2
    · have qi : (i : Int) < (len2 : Int) := by omega
      obtain ⟨rfl, cz, zb⟩ := R2.out wr i H.out.gw hlt
      have hlk := mapO_look MP.out IS.out (zs2 i) zb
      have hc := cnO_le zs2 (zs2 i) i
      have HP : Hid (MapO (D.put (.int .i64 (zs2 i)) (.lit (.int .i64 ((cnO zs2 i (zs2 i) + 1 : Nat) : Int)))) (cnO zs2 (i + 1))) := Lib.hid (mapO_put IS.out MP.out.isMap (zs2 i) (cnO zs2 i (zs2 i) + 1) _ (by show _ + (if zs2 i = zs2 i then 1 else 0) = _; rw [if_pos rfl]) (fun y hy => by show _ + (if y = zs2 i then 1 else 0) = _; rw [if_neg hy, Nat.add_zero]))
      have HH : Hid (HasO (D.put (.int .i64 (zs2 i)) (.lit (.int .i64 ((cnO zs2 i (zs2 i) + 1 : Nat) : Int)))) (cnO zs2 (i + 1))) := Lib.hid (hasO_put HO.out MP.out.isMap (zs2 i) _ _ (cnO_at zs2 i (i + 1) (Nat.lt_succ_self _)) (fun y hy => by show _ + (if y = zs2 i then 1 else 0) = _; rw [if_neg hy, Nat.add_zero]))
      generalize zs2 i = z at *
      generalize cnO zs2 i z = c at *
      have hkey := keyOf_int_mk Try.underlying3 (wf_b z zb)
      have ew : IntKind.i64.wrap ((c : Int) + 1) = (c : Int) + 1 := by rw [IntKind.wrap_i64]; omega
      rw [show ((c + 1 : Nat) : Int) = (c : Int) + 1 by omega] at HP HH
      have HT := Lib.hid H.out
      clear H IS HO
      go_wp2_with (at_mapUpdate; refine wpList_mapUpdate_own _ rfl _ _ _ 59 rfl 3 3 law_intW Try.underlying59 (plainElem Try.prog 3) mb i D rfl MP.out (by unfold maxLen; omega) _ _ _ rfl rfl hkey _ [] (plainElem_int Try.underlying3 (wf_b _ (by omega))) ?_; intro w5 hm5 k5)
      have on5 := Only.of_some k5 (Nat.le_refl _) (Nat.lt_succ_self _)
      have H5 : Hid (TW w w5 l1 h1 ba h1 mb bb len1 now now (setF f 0) (setF f 0)) := Lib.hid ⟨HT.out.a.only on5 (Or.inl (by have := HT.out.o; omega)), HT.out.b.only on5 (Or.inl (Nat.le_refl _)), Only.on HT.out.gw on5 (by have := HT.out.o; omega), by have := HT.out.o; have := on5.size; omega⟩
      have M5 := Lib.hid hm5
      clear hm5 k5 on5 hlk cz MP HT
      go_wp2
      go_roundw
      case rel => exact ⟨i + 1, _, hlt, by go_num, H5, M5, HP, HH⟩
      case measure => simp [intOf]; omega
    · obtain rfl : i = len2 := by omega
      have hi64 : i ≤ 64 := by omega
      rw [offF_all f 0] at H
      have e00 : offF f 0 (fun _ => 0) = offF f 0 (cnO zs2 i) := by funext k; unfold offF; rw [if_neg (by omega), if_neg (by omega)]
      have HTB : Hid (TW w wr l1 h1 ba h1 mb bb len1 now now (setF f 0) (offF f 0 (cnO zs2 i))) := Lib.hid (by rw [← e00, ← offF_all]; rw [← offF_all] at H; exact H.out)
      obtain ⟨cn, hcn⟩ : ∃ c : Int → Nat, c = cnO zs2 i := ⟨_, rfl⟩
      have HCN := Lib.hid hcn
      rw [← hcn] at HTB IS HO
      clear H e00 hcn
      go_wp2_with fail
      go_loopw [62] (fun it wr => ∃ (k : Nat), k ≤ len1 ∧ it = .int .i64 k ∧ Hid (TW w wr l1 h1 ba h1 mb bb len1 now now (setF f k) (offF f k cn)) ∧ Hid (wr.ownsMap Try.prog 3 (plainElem Try.prog 3) mb i D)) (fun it _ => len1 - (intOf it).toNat)
      case atStart => exact ⟨0, Nat.zero_le _, rfl, HTB, MP⟩
      case round =>
        clear HTB MP
        obtain ⟨k, hk, rfl, H0, MP⟩ := hrel
        by_cases hlt : k < len1
        · have qk : (k : Int) < (len1 : Int) := by omega
          obtain ⟨rfl, ck, zkb⟩ := R0.out wr k H0.out.gw hlt
          have mk1 := low62 (zs1 k) zkb
          have fk := HF.out k
          obtain ⟨gk, hgk⟩ : ∃ g, zs1 k % 4611686018427387904 = g := ⟨_, rfl⟩
          have bk : gk < 4611686018427387904 := by omega
          rw [hgk] at mk1 fk
          generalize zs1 k = zk at *
          have ew1 : IntKind.u64.wrap ((now : Int) + (gk : Int)) = (now : Int) + (gk : Int) := by rw [IntKind.wrap_u64]; omega
          have CS := wl_set H0.out.a k (now + gk) 7 hlt (by simp [setF]) (by omega) (by omega)
          rw [show ((now + gk, 7) : Nat × Nat) = f k from fk.symm, setF_step, show ((now + gk : Nat) : Int) = (now : Int) + (gk : Int) by omega, show ((7 : Nat) : Int) = 7 from rfl] at CS
          have HCS := Lib.hid CS
          have FK := Lib.hid fk
          clear CS hgk fk
          go_wp2_with fail
          refine HCS.out.mono ?_
          rintro e v1 ⟨rfl, kk, hh⟩
          have H1 := Lib.hid (H0.out.on_a kk hh)
          have MP1 := Lib.hid (mapO_only MP.out kk H0.out.o.2.2.2.1)
          have hlk := mapO_look MP1.out IS.out (k : Int) (by omega)
          clear kk hh H0 MP HCS ck
          by_cases hck : cn (k : Int) = 0
          · rw [hck] at hlk
            have CS := wl_set H1.out.b k (now + gk) 7 hlt (by unfold offF; rw [if_neg (by omega)]) (by omega) (by omega)
            rw [show ((now + gk, 7) : Nat × Nat) = f k from FK.out.symm, offF_next f k cn hck, show ((now + gk : Nat) : Int) = (now : Int) + (gk : Int) by omega, show ((7 : Nat) : Int) = 7 from rfl] at CS
            have HCS2 := Lib.hid CS
            have HCK := Lib.hid hck
            rw [show ((0 : Nat) : Int) = 0 from rfl] at hlk
            clear CS hck
            go_wp2_with fail
            refine HCS2.out.mono ?_
            rintro e v2 ⟨rfl, kk, hh⟩
            have H2 := Lib.hid (H1.out.on_b kk hh)
            have MP2 := Lib.hid (mapO_only MP1.out kk (Nat.le_refl _))
            clear kk hh H1 MP1 HCS2 hlk
            go_wp2
            go_roundw
            case rel => exact ⟨k + 1, hlt, by go_num, H2, MP2⟩
            case measure => simp [intOf]; omega
          · have H2 : Hid (TW w v1 l1 h1 ba h1 mb bb len1 now now (setF f (k + 1)) (offF f (k + 1) cn)) := Lib.hid (by rw [← offF_skip f k cn hck]; exact H1.out)
            obtain ⟨c, hc⟩ : ∃ c, cn (k : Int) = c := ⟨_, rfl⟩
            rw [hc] at hlk hck
            have e1 : ((c : Int) == 0) = false := by simp; omega
            have e2 : decide ((c : Int) = 0) = false := by simp; omega
            clear H1 hc hck
            go_wp2
            go_roundw
            case rel => exact ⟨k + 1, hlt, by go_num, H2, MP1⟩
            case measure => simp [intOf]; omega
        · obtain rfl : k = len1 := by omega
          have e0 : setF f k = offF f k (cnO zs2 0) := offF_all f k
          have HTC : Hid (TW w wr l1 h1 ba h1 mb bb k now now (offF f k (cnO zs2 0)) (offF f k cn)) := Lib.hid (e0 ▸ H0.out)
          have hk64 : k ≤ 64 := by omega
          clear H0 e0 R0
          go_wp2_with fail
          go_loopw [88] (fun it wr => ∃ (m : Nat), m ≤ i ∧ it = .int .i64 m ∧ Hid (TW w wr l1 h1 ba h1 mb bb k now now (offF f k (cnO zs2 m)) (offF f k cn)) ∧ Hid (wr.ownsMap Try.prog 3 (plainElem Try.prog 3) mb i D)) (fun it _ => i - (intOf it).toNat)
          case atStart => exact ⟨0, Nat.zero_le _, rfl, HTC, MP⟩
          case round =>
            clear HTC MP
            obtain ⟨m, hm, rfl, H, MP⟩ := hrel
            by_cases hlm : m < i
            · have qm : (m : Int) < (i : Int) := by omega
              obtain ⟨rfl, cz, zb⟩ := R2.out wr m H.out.gw hlm
              by_cases hset : 0 ≤ zs2 m ∧ ∃ v, offF f k (cnO zs2 m) (zs2 m).toNat = some v
              · obtain ⟨hz0, v, hv⟩ := hset
                obtain ⟨x, hx⟩ := Int.eq_ofNat_of_zero_le hz0
                have htk := offF_take f k zs2 m x hx
                have hxk : x < k := by
                  rw [hx, Int.toNat_natCast] at hv
                  unfold offF at hv
                  by_cases h : x < k ∧ cnO zs2 m (x : Int) = 0
                  · exact h.1
                  · rw [if_neg h] at hv; cases hv
                rw [hx, Int.toNat_natCast] at hv
                rw [hx] at cz
                have CA := Lib.hid (wl_at_some H.out.a x v hxk hv)
                have HTK := Lib.hid htk
                have HV := Lib.hid hv
                clear hz0 hx htk hv zb
                go_wp2_with fail
                refine CA.out.mono ?_
                rintro e v1 ⟨rfl, k1⟩
                have H1 := Lib.hid (H.out.kept k1)
                have MP1 := Lib.hid (mapO_only MP.out (Only.of_none (lo := 0) (hi := 0) k1) (Nat.zero_le _))
                have CU := wl_unset H1.out.a x v hxk HV.out
                rw [HTK.out] at CU
                have CU1 := Lib.hid CU
                clear k1 CA H MP CU cz
                go_wp2_with fail
                refine CU1.out.mono ?_
                rintro e v2 ⟨rfl, kk, hh⟩
                have H2 := Lib.hid (H1.out.on_a kk hh)
                have MP2 := Lib.hid (mapO_only MP1.out kk H1.out.o.2.2.2.1)
                clear kk hh H1 MP1 CU1
                go_wp2
                go_roundw
                case rel => exact ⟨m + 1, hlm, by go_num, H2, MP2⟩
                case measure => simp [intOf]; omega
              · have hno : zs2 m < 0 ∨ offF f k (cnO zs2 m) (zs2 m).toNat = none := by
                  by_cases h : zs2 m < 0
                  · exact Or.inl h
                  · refine Or.inr ?_
                    cases hq : offF f k (cnO zs2 m) (zs2 m).toNat with
                    | none => rfl
                    | some v => exact absurd ⟨by omega, v, hq⟩ hset
                have H2 : Hid (TW w wr l1 h1 ba h1 mb bb k now now (offF f k (cnO zs2 (m + 1))) (offF f k cn)) := Lib.hid (by rw [← offF_miss f k zs2 m hno]; exact H.out)
                have CA := Lib.hid (wl_at_none H.out.a (zs2 m) hno)
                have CU := Lib.hid (wl_unset_no H.out.a (zs2 m) hno)
                generalize zs2 m = z at *
                clear hset hno zb
                go_wp2_with fail
                refine CA.out.mono ?_
                rintro e v1 ⟨rfl, rfl⟩
                go_wp2_with fail
                refine CU.out.mono ?_
                rintro e v2 ⟨rfl, rfl⟩
                clear CA CU H cz
                go_wp2
                go_roundw
                case rel => exact ⟨m + 1, hlm, by go_num, H2, MP⟩
                case measure => simp [intOf]; omega
            · obtain rfl : m = i := by omega
              have HD : Hid (TW w wr l1 h1 ba h1 mb bb k now now (offF f k cn) (offF f k cn)) := Lib.hid (by rw [HCN.out]; have := H.out; rw [HCN.out] at this; exact this)
              have HML : Hid ((now : Int) + (ge : Int) = ((now + ge : Nat) : Int)) := Lib.hid (by omega)
              have HMX : Hid (max now (now + ge) = now + ge) := Lib.hid (by omega)
              have htg : now + ge < 18446744073709551616 := by omega
              have HGE := Lib.hid hgeb
              have CL1 := Lib.hid (wl_len HD.out.a)
              have CL2 := Lib.hid (wl_len HD.out.b)
              have CA := wl_to HD.out.a (now + ge) htg (by have := HD.out.o; omega)
              rw [HMX.out, ← HML.out] at CA
              have CA1 := Lib.hid CA
              generalize setN (offF f k cn) k = sn at *
              clear H CA R2
              go_wp2_with fail
              refine CL1.out.mono ?_
              rintro e v1 ⟨rfl, rfl⟩
              go_wp2_with fail
              refine CL2.out.mono ?_
              rintro e v2 ⟨rfl, rfl⟩
              go_wp2_with fail
              refine CA1.out.mono ?_
              rintro e v3 ⟨Ra, ra, ca, rfl, rowa, ka, wla, nda, ma, sa⟩
              have H3 := Lib.hid (HD.out.on_a ka wla)
              have MP3 := Lib.hid (mapO_only MP.out ka HD.out.o.2.2.2.1)
              have ROWA := Lib.hid rowa
              have hra := Lib.hid (show mb ≤ ra by have := rowa.lt.1; have := HD.out.o; omega)
              have HLEN : Hid (Ra.length ≤ 64) := Lib.hid (Nat.le_trans (few_of_nodup k Ra nda fun x hx => ((ma x).1 hx).1) hk64)
              have MA := Lib.hid ma
              have SA := Lib.hid sa
              have NA := Lib.hid nda
              have CB := wl_to H3.out.b (now + ge) htg (by have := H3.out.o; omega)
              rw [HMX.out, ← HML.out] at CB
              have CB1 := Lib.hid CB
              obtain ⟨na, hna⟩ : ∃ m, Ra.length = m := ⟨_, rfl⟩
              rw [hna]
              have HNA := Lib.hid hna
              clear CL1 CL2 CA1 rowa ka wla nda ma sa HD MP CB hna
              go_wp2_with fail
              refine CB1.out.mono ?_
              rintro e v4 ⟨Rb, rb, cb, rfl, rowb, kb, wlb, ndb, mb', sb⟩
              have eR : Rb = Ra := due_eq ndb NA.out mb' MA.out sb SA.out
              subst eR
              have H4 := Lib.hid (H3.out.on_b kb wlb)
              have MP4 := Lib.hid (mapO_only MP3.out kb (Nat.le_refl _))
              have ROWA4 := Lib.hid (ROWA.out.only kb (Or.inr hra.out))
              have CS := same_yes ROWA4.out.reads rowb.reads (by have := HLEN.out; omega)
              rw [HNA.out] at CS ⊢
              have CS1 := Lib.hid CS
              clear CB1 rowb kb wlb ndb mb' sb CS H3 MP3 ROWA
              go_wp2_with fail
              refine CS1.out.mono ?_
              rintro e v5 ⟨rfl, k5⟩
              have H5 := Lib.hid (H4.out.kept k5)
              have MP5 := Lib.hid (mapO_only MP4.out (Only.of_none (lo := 0) (hi := 0) k5) (Nat.zero_le _))
              clear CS1 k5 H4 MP4 ROWA4 hra
              have HS0 : Hid (∀ x : Nat, x < k → Maps.has D (.int .i64 (x : Int)) = true → offS (offF f k cn) Rb x = none) := Lib.hid fun x hx hh => by
                have := HO.out (x : Int) hh
                unfold offS offF
                split
                · rfl
                · rw [if_neg (fun h => by omega)]
              have hmbs : mb < v5.heap.size := MP5.out.lt
              go_wp2_with (first
                | (at_range; refine wpList_range_own _ rfl _ 59 rfl 3 3 law_intW Try.underlying59 _ mb m _ rfl MP5.out ?_; intro w0 hrg0 hg0 hs0)
                | go_in)
              go_frame
              have H6 := Lib.hid (H5.out.kept hg0)
              have RG := Lib.hid hrg0
              generalize v5.heap.size = r0 at *
              generalize offS (offF f k cn) Rb = S0 at *
              try rw [HMX.out] at H6
              clear hrg0 hg0 hs0 H5 MP5 IS HO
              go_loopw [21] (fun _ wr => ∃ (left : Lit → Bool) (cnt nw : Nat) (S : Nat → Option (Nat × Nat)), wr.ranges Try.prog 3 (plainElem Try.prog 3) mb r0 m D left cnt ∧ Hid (TW w wr l1 h1 ba h1 mb bb k nw (now + ge) S S0) ∧ Hid (∀ x : Nat, x < k → left (.int .i64 (x : Int)) = true → S x = none)) (fun _ wr => wr.rangeLeft mb r0)
              case atStart => exact ⟨_, _, _, S0, RG.out, H6, HS0⟩
              case round =>
                clear H6 HS0 RG
                obtain ⟨left, cnt, nw, S, hrg, H, HS⟩ := hrel
                go_wp2_with (first
                  | (at_next; refine wpList_next_ranges_ii _ rfl _ rfl 3 3 .i64 .i64 law_intW Try.underlying3 Try.underlying3 mb r0 m _ _ _ rfl hrg ?_ ?_)
                  | go_in)
                · intro hc0 hl0
                  go_wp2
                  go_ret
                  exact ⟨rfl, H.out.gw⟩
                · intro x c w1 cnt1 hwx hwc hlx hat hrg1 hlt1 hg1 hs1 hen
                  have onr := Only.of_some hg1 (Nat.le_refl _) (Nat.lt_succ_self _)
                  have H1 : Hid (TW w w1 l1 h1 ba h1 mb bb k nw (now + ge) S S0) := Lib.hid ⟨H.out.a.only onr (Or.inl (by have := H.out.o; omega)), H.out.b.only onr (Or.inl (by omega)), Only.on H.out.gw onr (by have := H.out.o; omega), by have := H.out.o; omega⟩
                  have HMEAS := Lib.hid hrg.left_eq
                  have HL1 := Lib.hid hlt1
                  have RG1 := Lib.hid hrg1
                  by_cases hx : 0 ≤ x ∧ x < (k : Int)
                  · obtain ⟨x, rfl⟩ := Int.eq_ofNat_of_zero_le hx.1
                    have hxk : x < k := by omega
                    have qx : (x : Int) < (k : Int) := hx.2
                    have CS := wl_set H1.out.a x (now + ge) 0 hxk (HS.out x hxk hlx) htg (by omega)
                    rw [← HML.out, show ((0 : Nat) : Int) = 0 from rfl] at CS
                    have CS1 := Lib.hid CS
                    have HS1 : Hid (∀ y : Nat, y < k → (left (.int .i64 (y : Int)) && !(Lit.int .i64 (y : Int)).sameKey (.int .i64 (x : Int))) = true → upS S x (some (now + ge, 0)) y = none) := Lib.hid fun y hy hh => by
                      rw [Bool.and_eq_true] at hh
                      unfold upS
                      by_cases e : y = x
                      · subst e; simp [Lit.sameKey] at hh
                      · rw [if_neg e]; exact HS.out y hy hh.1
                    clear hx CS hrg hg1 hs1 hlt1 hrg1 onr H HS hat hwx hwc hlx
                    go_wp2_with fail
                    refine CS1.out.mono ?_
                    rintro e w2 ⟨rfl, kk, hh⟩
                    have H2 := Lib.hid (H1.out.on_a kk hh)
                    have RG2 := ranges_only RG1.out kk H1.out.o.2.2.2.1 (by have := H1.out.o; omega)
                    clear kk hh CS1 H1 hen
                    go_wp2
                    go_roundw
                    case rel => exact ⟨_, cnt1, nw, _, RG2, H2, HS1⟩
                    case measure => rw [RG2.left_eq, HMEAS.out]; exact HL1.out
                  · have HS1 : Hid (∀ y : Nat, y < k → (left (.int .i64 (y : Int)) && !(Lit.int .i64 (y : Int)).sameKey (.int .i64 x)) = true → S y = none) := Lib.hid fun y hy hh => HS.out y hy (by rw [Bool.and_eq_true] at hh; exact hh.1)
                    by_cases hx0 : 0 ≤ x
                    · have qx : ¬ x < (k : Int) := by omega
                      clear hx hrg hg1 hs1 hlt1 hrg1 onr H HS hat hwx hwc hlx
                      go_wp2
                      go_roundw
                      case rel => exact ⟨_, cnt1, nw, S, RG1.out, H1, HS1⟩
                      case measure => rw [RG1.out.left_eq, HMEAS.out]; exact HL1.out
                    · clear hx hrg hg1 hs1 hlt1 hrg1 onr H HS hat hwx hwc hlx
                      go_wp2
                      go_roundw
                      case rel => exact ⟨_, cnt1, nw, S, RG1.out, H1, HS1⟩
                      case measure => rw [RG1.out.left_eq, HMEAS.out]; exact HL1.out
end Go.Proofs.Ytpabnhiaafnjpaa
