/-
  WheelOnce: each alarm is told once, at the first time that is not ahead of its own.
-/
import Derived.Test.YtpabnhiaafnjpaaWheelTwo
import Derived.Test.YtpabnhiaafnjpaaAppSrc
namespace Go.Proofs.Ytpabnhiaafnjpaa
open Go.RowKit Go.Lib
set_option maxRecDepth 100000
set_option linter.unusedVariables false
theorem low57 (n : Nat) (h : n < 18446744073709551616) : bits .and .u64 (n : Int) 144115188075855871 = ((n % 144115188075855872 : Nat) : Int) := by
  have := u64_low 57 n (by decide) h
  simpa using this
/-! ## Rows of counts, and of words -/
def rowW (n : Nat) (c : Nat → Nat) : Array Value := ((List.range n).map fun j => Value.int .i64 ((c j : Nat) : Int)).toArray
theorem rowW_at (n : Nat) (c : Nat → Nat) (j : Nat) (h : j < n) : (rowW n c)[j]? = some (.int .i64 ((c j : Nat) : Int)) := by simp [rowW, h]
theorem rowW_congr (n : Nat) (c c' : Nat → Nat) (h : ∀ j, j < n → c j = c' j) : rowW n c = rowW n c' := by
  unfold rowW
  congr 1
  exact List.map_congr_left fun j hj => by rw [h j (List.mem_range.1 hj)]
theorem rowW_set (n : Nat) (c : Nat → Nat) (j v : Nat) : (rowW n c).setIfInBounds j (.int .i64 (v : Int)) = rowW n (fun i => if i = j then v else c i) := by
  have hs : ∀ d, (rowW n d).size = n := fun d => by simp [rowW]
  apply Array.ext
  · simp [hs]
  · intro i h1 h2
    have hn : i < n := by simpa [hs] using h2
    have e1 := rowW_at n (fun i => if i = j then v else c i) i hn
    rw [Array.getElem?_eq_getElem h2] at e1
    injection e1 with e1
    rw [e1, Array.getElem_setIfInBounds]
    by_cases e : j = i
    · subst e; rw [if_pos rfl, if_pos rfl]
    · have e3 := rowW_at n c i hn
      rw [Array.getElem?_eq_getElem (by rw [hs]; exact hn)] at e3
      injection e3 with e3
      rw [if_neg e, if_neg (fun h => e h.symm), e3]
    rw [hs]; exact hn
theorem rowW_made (n : Nat) : madeCells #[.int .i64 0] n = rowW n (fun _ => 0) := by
  apply Array.ext_getElem?
  intro i
  by_cases hn : i < n
  · rw [rowW_at n _ i hn, made_at _ n i hn]; rfl
  · have h1 : (rowW n (fun _ => 0))[i]? = none := by simp [rowW]; omega
    have h2 : (madeCells #[Value.int .i64 0] n)[i]? = none := by rw [Array.getElem?_eq_none_iff, size_madeCells]; omega
    rw [h1, h2]
section
variable {w w' : World}
theorem blk_ltW {w : World} {b : Nat} {o : Obj} (h : w.heap[b]? = some o) : b < w.heap.size := by
  rcases Nat.lt_or_ge b w.heap.size with h' | h'
  · exact h'
  · rw [Array.getElem?_eq_none h'] at h; cases h
theorem cell_blkW {w : World} {b : Nat} {a : Array Value} {t : TypeId} {fr : Nat × Nat} (h : w.heap[b]? = some (.cells a t fr)) (i : Nat) : w.cell? ⟨b, i, none⟩ = a[i]? := by
  simp [World.cell?, h]
theorem frozen_blkW {w : World} {b : Nat} {a : Array Value} {t : TypeId} (h : w.heap[b]? = some (.cells a t (0, 0))) (i : Nat) : w.frozen? ⟨b, i, none⟩ = false := by
  simp [World.frozen?, h]
theorem blk_setW (w : World) (b o : Nat) (u : Value) (a : Array Value) (t : TypeId) (h : w.heap[b]? = some (.cells a t (0, 0))) : (w.setCell ⟨b, o, none⟩ u).heap[b]? = some (.cells (a.setIfInBounds o u) t (0, 0)) := by
  simp only [World.setCell]
  rw [Array.getElem?_modify, h]
  simp
theorem own_blkW {B n size : Nat} {e : TypeId} {v : Value} {xs : List Value} (h : w.ownsRow B e size v n xs) (k : ∀ g, v.ownBlock = some g → w'.heap[g]? = w.heap[g]?) : w'.ownsRow B e size v n xs := by
  obtain ⟨h1, h2⟩ := h
  refine ⟨h1, ?_⟩
  rcases h2 with hn | ⟨g, cap, cur, hv, hb, hg, rest⟩
  · exact .inl hn
  · refine .inr ⟨g, cap, cur, hv, hb, ?_, rest⟩
    rw [k g (by rw [hv]; rfl)]
    exact hg
theorem own_onlyW {B n size lo hi : Nat} {e : TypeId} {v : Value} {xs : List Value} (h : w.ownsRow B e size v n xs) (k : Only lo hi w w') (hB : hi ≤ B) : w'.ownsRow B e size v n xs :=
  own_blkW h fun g hg => k.block g (h.lt g hg).2 (by have := (h.lt g hg).1; omega)
theorem own_formW {B n size : Nat} {e : TypeId} {v : Value} {xs : List Value} (h : w.ownsRow B e size v n xs) (hn : 0 < n) : ∃ g cap, v = .slice (some ⟨g, 0, none⟩) n cap := by
  rcases h.2 with ⟨_, h0⟩ | ⟨g, cap, cur, hv, _⟩
  · omega
  · exact ⟨g, cap, hv⟩
theorem own_cellW {B n : Nat} {e : TypeId} {v : Value} {xs : List Value} (h : w.ownsRow B e 1 v n xs) {j : Nat} {u : Value} (hu : xs[j]? = some u) {g : Nat} (hg : v.ownBlock = some g) : w.cell? ⟨g, j, none⟩ = some u := by
  have := h.cells hg j u hu
  by_cases hj : j = 0
  · subst hj; simpa [Addr.add] using this
  · simpa [Addr.add, hj] using this
end
/-- Words, as values. -/
def u64s (l : List Nat) : List Value := l.map fun (x : Nat) => Value.int .u64 (x : Int)
theorem u64s_len (l : List Nat) : (u64s l).length = l.length := by simp [u64s]
theorem u64s_at (l : List Nat) (j : Nat) (h : j < l.length) : (u64s l)[j]? = some (.int .u64 ((l[j] : Nat) : Int)) := by simp [u64s, h]
theorem u64s_add (a b : List Nat) : u64s a ++ u64s b = u64s (a ++ b) := by simp [u64s]
theorem u64s_one (l : List Nat) : ∀ u ∈ u64s l, u.oneCell' = true := by
  intro u hu
  obtain ⟨x, _, rfl⟩ := List.mem_map.1 hu
  rfl
theorem u64_info : ∃ i : TypeInfo, Try.prog.info? 22 = some i ∧ i.zero = some (.int .u64 0) ∧ i.size = 1 ∧ i.bytes = 8 := ⟨_, rfl, rfl, rfl, rfl⟩
/-- How often an alarm was told. -/
def toldN (f : Nat → Nat × Nat) (a : Nat) (R : List Nat) (j : Nat) : Nat := if (f j).1 < a ∨ j ∈ R then 1 else 0
theorem toldN_step (f : Nat → Nat × Nat) (a : Nat) (R : List Nat) (i : Nat) (hi : i < R.length) : (fun j => if j = R[i] then 1 else toldN f a (R.take i) j) = toldN f a (R.take (i + 1)) := by
  funext j
  unfold toldN
  rw [List.take_add_one, List.getElem?_eq_getElem hi]
  by_cases e : j = R[i]
  · rw [if_pos e, if_pos (Or.inr (List.mem_append.2 (Or.inr (by rw [e]; exact List.mem_cons_self ..))))]
  · rw [if_neg e]
    by_cases h : (f j).1 < a ∨ j ∈ R.take i
    · rw [if_pos h, if_pos (h.imp id fun h => List.mem_append.2 (Or.inl h))]
    · rw [if_neg h, if_neg]
      rintro (h1 | h1)
      · exact h (Or.inl h1)
      · rcases List.mem_append.1 h1 with h1 | h1
        · exact h (Or.inr h1)
        · simp at h1; exact e h1
/-- The steps that the law goes. -/
structure OnceI (now ns i L a : Nat) : Prop where
  s : (i = 0 ∧ L = now ∧ a = now) ∨ (0 < i ∧ a = L + 1)
  l : now ≤ L
  b : L ≤ 9223372036854775808 + i * 144115188075855872
  e : i = ns → 9223372036854775807 ≤ L
set_option maxRecDepth 100000 in
set_option maxHeartbeats 64000000 in
theorem once_walk (now : Nat) (sa1 : Option Addr) (len1 cap1 sb1 off1 : Nat) (zs1 : Nat → Nat) (sa2 : Option Addr) (len2 cap2 sb2 off2 : Nat) (zs2 : Nat → Nat) (w : World) (hnow : now < 18446744073709551616)
    (_hm1 : len1 ≤ maxLen) (hs1 : 0 < len1 → sa1 = some ⟨sb1, off1, none⟩ ∧ sb1 < w.heap.size) (hz1 : ∀ j, j < len1 → w.cell? ⟨sb1, off1 + j, none⟩ = some (.int .u64 ((zs1 j : Nat) : Int)) ∧ zs1 j < 18446744073709551616)
    (_hm2 : len2 ≤ maxLen) (hs2 : 0 < len2 → sa2 = some ⟨sb2, off2, none⟩ ∧ sb2 < w.heap.size) (hz2 : ∀ j, j < len2 → w.cell? ⟨sb2, off2 + j, none⟩ = some (.int .u64 ((zs2 j : Nat) : Int)) ∧ zs2 j < 18446744073709551616) :
    Calls Try.prog 4 #[.int .u64 (now : Nat), .slice sa1 len1 cap1, .slice sa2 len2 cap2] w fun e w' => e = .returned (.bool true) ∧ w.grownBy w' none := by
  have C0 := Lib.hid (alive7 w)
  have R0 : Hid (∀ (v : World) (j : Nat), w.grownBy v none → j < len1 → sa1 = some ⟨sb1, off1, none⟩ ∧ v.cell? ⟨sb1, off1 + j, none⟩ = some (.int .u64 ((zs1 j : Nat) : Int)) ∧ zs1 j < 18446744073709551616) := Lib.hid fun v j k hj => by
    obtain ⟨h1, h2⟩ := hs1 (by omega)
    exact ⟨h1, (k.cell_far ⟨sb1, off1 + j, none⟩ h2 (by simp)).trans (hz1 j hj).1, (hz1 j hj).2⟩
  obtain ⟨ST, hST⟩ : ∃ l : List Nat, l = (List.range len2).map zs2 := ⟨_, rfl⟩
  have hSl : ST.length = len2 := by rw [hST]; simp
  have HB2 : Hid (∀ x ∈ ST, x < 18446744073709551616) := Lib.hid fun x hx => by
    rw [hST] at hx
    obtain ⟨j, hj, rfl⟩ := List.mem_map.1 hx
    exact (hz2 j (List.mem_range.1 hj)).2
  have R2 : Hid (∀ v : World, w.grownBy v none → SrcAt v 1 (.slice sa2 len2 cap2) len2 (u64s ST)) := Lib.hid fun v k => by
    by_cases h0 : 0 < len2
    · obtain ⟨h1, h2⟩ := hs2 h0
      subst h1
      refine Or.inl ⟨_, _, rfl, by rw [u64s_len, hSl]; omega, fun j u hu => ?_, u64s_one _⟩
      have hj : j < len2 := by
        rcases Nat.lt_or_ge j len2 with h | h
        · exact h
        · rw [List.getElem?_eq_none (by rw [u64s_len, hSl]; exact h)] at hu; cases hu
      rw [u64s_at ST j (by rw [hSl]; exact hj)] at hu
      injection hu with hu
      rw [← hu]
      have e : ST[j]'(by rw [hSl]; exact hj) = zs2 j := by simp [hST]
      rw [e]
      have := (k.cell_far ⟨sb2, off2 + j, none⟩ h2 (by simp)).trans (hz2 j hj).1
      by_cases hj0 : j = 0
      · subst hj0; simpa [Addr.add] using this
      · simpa [Addr.add, hj0] using this
    · obtain rfl : len2 = 0 := by omega
      cases sa2 with
      | none => exact Or.inr ⟨cap2, rfl, rfl, by simp [List.length_eq_zero_iff.1 hSl, u64s]⟩
      | some ad => exact Or.inl ⟨ad, cap2, rfl, by rw [u64s_len, hSl], fun j u hu => by rw [List.length_eq_zero_iff.1 hSl] at hu; simp [u64s] at hu, u64s_one _⟩
  clear hs1 hz1 hs2 hz2 hST
  by_cases hl0 : 64 < len1
  · have q : (64 : Int) < (len1 : Int) := by omega
    go_enter Try.func4, Try.ntmps4
    go_wp2_with fail
    refine C0.out.mono ?_
    rintro e w1 ⟨rfl, k1⟩
    go_wp2
    go_ret
    exact ⟨rfl, k1⟩
  have q0 : ¬ (64 : Int) < (len1 : Int) := by omega
  by_cases hl2 : 60 < len2
  · have q : (60 : Int) < (len2 : Int) := by omega
    go_enter Try.func4, Try.ntmps4
    go_wp2_with fail
    refine C0.out.mono ?_
    rintro e w1 ⟨rfl, k1⟩
    go_wp2
    go_ret
    exact ⟨rfl, k1⟩
  have q2 : ¬ (60 : Int) < (len2 : Int) := by omega
  by_cases hn0 : 4611686018427387904 < now
  · have q : (4611686018427387904 : Int) < (now : Int) := by omega
    go_enter Try.func4, Try.ntmps4
    go_wp2_with fail
    refine C0.out.mono ?_
    rintro e w1 ⟨rfl, k1⟩
    go_wp2
    go_ret
    exact ⟨rfl, k1⟩
  have q1 : ¬ (4611686018427387904 : Int) < (now : Int) := by omega
  obtain ⟨f, hf⟩ : ∃ f : Nat → Nat × Nat, f = fun k => (now + zs1 k % 4611686018427387904, k) := ⟨_, rfl⟩
  have HF : Hid (∀ k, f k = (now + zs1 k % 4611686018427387904, k)) := Lib.hid fun k => by rw [hf]
  clear hf
  have hmk : ∀ W : World, (Instr.makeSlice 39 (.int .i64 (len1 : Nat)) (.int .i64 (len1 : Nat))).run Try.prog W = .ok (.slice (some ⟨W.heap.size, 0, none⟩) len1 len1) (W.alloc (.cells (rowW len1 (fun _ => 0)) 3)) := fun W => by rw [← rowW_made]; exact make_ints len1 len1 (by omega) (by omega) W
  go_enter Try.func4, Try.ntmps4
  go_wp2_with fail
  refine C0.out.mono ?_
  rintro e u1 ⟨rfl, k1⟩
  have G1 := Lib.hid k1
  have CN := wl_new (len1 : Int) now hnow u1
  rw [clamp_len len1 (by omega)] at CN
  have HCN := Lib.hid CN
  clear k1 C0 CN
  go_wp2_with fail
  refine HCN.out.mono ?_
  rintro e u2 ⟨wb, rfl, k2, h2⟩
  have G2 := Lib.hid (G1.out.trans k2)
  have HL : Hid (w.heap.size ≤ u1.heap.size) := Lib.hid G1.out.size
  have e0 : (fun _ => none) = setF f 0 := by funext k; simp [setF]
  rw [e0] at h2
  have HW := Lib.hid h2
  generalize hhi : u2.heap.size = hi at *
  have HLH : Hid (u1.heap.size ≤ hi) := Lib.hid (by have := k2.size; omega)
  generalize u1.heap.size = lo at *
  have HI : Hid (hi ≤ u2.heap.size) := Lib.hid (by omega)
  clear k2 h2 HCN G1 e0 hhi
  go_wp2_with fail
  go_loopw [40] (fun it wr => ∃ j : Nat, j ≤ len1 ∧ it = .int .i64 j ∧ Hid (Wl wr lo hi wb len1 now (setF f j)) ∧ Hid (w.grownBy wr none) ∧ Hid (hi ≤ wr.heap.size)) (fun it _ => len1 - (intOf it).toNat)
  case atStart => exact ⟨0, Nat.zero_le _, rfl, HW, G2, HI⟩
  case round =>
    clear HW G2 HI
    obtain ⟨j, hj, rfl, HW, HG, HI⟩ := hrel
    by_cases hlt : j < len1
    · obtain ⟨rfl, hc, hzb⟩ := R0.out wr j HG.out hlt
      have qj : (j : Int) < (len1 : Int) := by omega
      have hmk1 := low62 (zs1 j) hzb
      obtain ⟨g, hg⟩ : ∃ g, zs1 j % 4611686018427387904 = g := ⟨_, rfl⟩
      have hgb : g < 4611686018427387904 := by omega
      rw [hg] at hmk1
      have CS := wl_set HW.out j (now + g) j hlt (by simp [setF]) (by omega) (by omega)
      rw [show ((now + g, j) : Nat × Nat) = f j by rw [HF.out j, hg], setF_step, show ((now + g : Nat) : Int) = (now : Int) + (g : Int) by omega] at CS
      have HCS := Lib.hid CS
      have ew1 : IntKind.u64.wrap ((now : Int) + (g : Int)) = (now : Int) + (g : Int) := by rw [IntKind.wrap_u64]; omega
      have ew2 : IntKind.u64.wrap (j : Int) = (j : Int) := by rw [IntKind.wrap_u64]; omega
      generalize zs1 j = z at *
      clear CS hg
      go_wp2_with fail
      refine HCS.out.mono ?_
      rintro e u3 ⟨rfl, k3, h3⟩
      have HW3 := Lib.hid h3
      have G3 := Lib.hid (Only.on HG.out k3 HL.out)
      have HI3 : Hid (hi ≤ u3.heap.size) := Lib.hid (Nat.le_trans HI.out k3.size)
      clear k3 h3 HCS HW HG HI hc hmk1 ew1 ew2
      go_wp2
      go_roundw
      case rel => exact ⟨j + 1, hlt, by go_num, HW3, G3, HI3⟩
      case measure => simp [intOf]; omega
    · obtain rfl : j = len1 := by omega
      rw [remF_all f j now (fun k hk => by rw [HF.out k]; exact Nat.le_add_right _ _)] at HW
      clear hlt
      -- the row of counts, and the row of steps
      obtain ⟨tb, htb⟩ : ∃ b, wr.heap.size = b := ⟨_, rfl⟩
      have ka := World.grownBy_alloc wr (.cells (rowW j (fun _ => 0)) 3) none
      have HW1 := Lib.hid (HW.out.kept ka)
      have G1 := Lib.hid (HG.out.trans ka)
      have T1 : Hid ((wr.alloc (.cells (rowW j (fun _ => 0)) 3)).heap[tb]? = some (.cells (rowW j (fun _ => 0)) 3 (0, 0))) := Lib.hid (by rw [← htb]; exact heap_alloc_new _ _)
      have hs1 : (wr.alloc (.cells (rowW j (fun _ => 0)) 3)).heap.size = tb + 1 := by rw [World.size_alloc, htb]
      have HTB : Hid (hi ≤ tb) := Lib.hid (by rw [← htb]; exact HI.out)
      obtain ⟨i0, hi0, hi1, hi2, hi3⟩ := u64_info
      have I0 := Lib.hid hi0
      have I1 := Lib.hid hi1
      have I2 := Lib.hid hi2
      have I3 := Lib.hid hi3
      clear ka HW HG HI hi0 hi1 hi2 hi3
      go_upto_region 14 with fail
      try rw [htb]
      generalize (wr.alloc (.cells (rowW j (fun _ => 0)) 3)) = wa at *
      clear htb
      have HSA := Lib.hid hs1
      have kb := World.grownBy_alloc wa (.cells #[.int .u64 0] 22) none
      have OL1 := Lib.hid (World.ownsRow_lit (base := tb + 1) (e := 22) (size := 1) wa #[.int .u64 0] 1 (by omega) (by decide) rfl)
      have SRC := Lib.hid (R2.out (wa.alloc (.cells #[.int .u64 0] 22)) (G1.out.trans kb))
      have T2 := Lib.hid ((kb.block tb (blk_ltW T1.out) (by simp)).trans T1.out)
      have HW2 := Lib.hid (HW1.out.kept kb)
      have GG2 := Lib.hid (G1.out.trans kb)
      have hbase : Hid (tb + 1 ≤ (wa.alloc (.cells #[.int .u64 0] 22)).heap.size) := Lib.hid (by have := kb.size; omega)
      have HLS : Hid (w.heap.size ≤ hi) := Lib.hid (Nat.le_trans HL.out HLH.out)
      obtain ⟨ns, hns⟩ : ∃ ns, 1 + len2 + 1 = ns := ⟨_, rfl⟩
      have HNS := Lib.hid hns
      obtain ⟨XS, hXS⟩ : ∃ XS : List Nat, XS = 0 :: ST ++ [9223372036854775807] := ⟨_, rfl⟩
      have HXS := Lib.hid hXS
      have HST := Lib.hid hSl
      have hl64 : len2 ≤ 64 := by omega
      clear kb hs1 T1 HW1 G1 hns hXS hSl
      go_wp2_with (first
        | (at_builtin
           refine wpList_append_src _ rfl _ _ 56 rfl (tb + 1) 22 i0 (.int .u64 0) 1 8 Try.underlying56 I0.out I1.out I2.out I3.out rfl (by decide) _ 1 [.int .u64 0] rfl OL1.out _ len2 _ rfl SRC.out (by unfold maxLen; omega) (by omega) hbase.out ?_
           intro v5 w5 own5 gr5 nil5 at5
           have own5' : Hid (w5.ownsRow (tb + 1) 22 1 v5 (1 + len2) (u64s (0 :: ST))) := Lib.hid own5
           obtain ⟨r5, cp5, rfl⟩ := own_formW own5'.out (by omega)
           have gr5' : (wa.alloc (.cells #[.int .u64 0] 22)).grownBy w5 (some wa.heap.size) := gr5
           have on5 := Only.of_some gr5' (Nat.le_refl _) (Nat.lt_succ_self _)
           have T5 := Lib.hid ((gr5'.block tb (blk_ltW T2.out) (by have := HSA.out; simp; omega)).trans T2.out)
           have HW5 := Lib.hid (HW2.out.only on5 (Or.inl (by have := HSA.out; have := HTB.out; omega)))
           have G5 := Lib.hid (Only.on GG2.out on5 (by have := HSA.out; have := HTB.out; have := HLS.out; omega))
           have k6 := World.grownBy_alloc w5 (.cells #[.int .u64 9223372036854775807] 22) none
           have own6 := Lib.hid (World.ownsRow.alloc own5'.out (.cells #[.int .u64 9223372036854775807] 22))
           have T6 := Lib.hid ((k6.block tb (blk_ltW T5.out) (by simp)).trans T5.out)
           have HW6 := Lib.hid (HW5.out.kept k6)
           have G6 := Lib.hid (G5.out.trans k6)
           have src6 : Hid (SrcAt (w5.alloc (.cells #[.int .u64 9223372036854775807] 22)) 1 (.slice (some ⟨w5.heap.size, 0, none⟩) 1 1) 1 (u64s [9223372036854775807])) := Lib.hid (Or.inl ⟨_, 1, rfl, rfl, fun i u hu => by
             cases i with
             | zero =>
               simp [u64s] at hu
               subst hu
               exact World.cell?_alloc_at _ 22 _ 0 rfl
             | succ i => simp [u64s] at hu, u64s_one _⟩)
           have base6 : Hid (tb + 1 ≤ (w5.alloc (.cells #[.int .u64 9223372036854775807] 22)).heap.size) := Lib.hid (by have h1 := (own5'.out.lt r5 rfl); have := k6.size; omega)
           have B5 : Hid (tb + 1 ≤ r5) := Lib.hid (own5'.out.lt r5 rfl).1
           clear own5 gr5 nil5 at5 gr5' on5 k6 T2 HW2 GG2 OL1 SRC own5' T5 HW5 G5 hbase)
        | (at_builtin
           refine wpList_append_src _ rfl _ _ 56 rfl (tb + 1) 22 i0 (.int .u64 0) 1 8 Try.underlying56 I0.out I1.out I2.out I3.out rfl (by decide) _ (1 + len2) _ rfl own6.out _ 1 _ rfl src6.out (by unfold maxLen; omega) (by omega) base6.out ?_
           intro v7 w7 own7 gr7 nil7 at7
           have own7' : Hid (w7.ownsRow (tb + 1) 22 1 v7 ns (u64s XS)) := Lib.hid (by rw [← HNS.out, HXS.out, ← u64s_add]; exact own7)
           obtain ⟨r7, cp7, rfl⟩ := own_formW own7'.out (by have := HNS.out; omega)
           have gr7' : (w5.alloc (.cells #[.int .u64 9223372036854775807] 22)).grownBy w7 (some r5) := gr7
           have on7 := Only.of_some gr7' (Nat.le_refl _) (Nat.lt_succ_self _)
           have T7 := Lib.hid ((gr7'.block tb (blk_ltW T6.out) (by have := B5.out; simp; omega)).trans T6.out)
           have HW7 := Lib.hid (HW6.out.only on7 (Or.inl (by have := B5.out; have := HTB.out; omega)))
           have G7 := Lib.hid (Only.on G6.out on7 (by have := B5.out; have := HTB.out; have := HLS.out; omega))
           clear own7 gr7 nil7 at7 gr7' on7 T6 HW6 G6 own6 src6 base6))
      have hxl : XS.length = ns := by rw [HXS.out, ← HNS.out]; simp [HST.out]; omega
      have HXL := Lib.hid hxl
      have HXB : Hid (∀ (i x : Nat), XS[i]? = some x → x < 18446744073709551616 ∧ (i = 0 → x = 0) ∧ (i + 1 = ns → x = 9223372036854775807)) := Lib.hid fun i x hx => by
        rw [HXS.out] at hx
        refine ⟨?_, fun h0 => ?_, fun h1 => ?_⟩
        · rcases List.mem_append.1 (List.mem_of_getElem? hx) with hm | hm
          · rcases List.mem_cons.1 hm with hm | hm
            · omega
            · exact HB2.out _ hm
          · have := List.mem_singleton.1 hm; omega
        · subst h0; simp at hx; exact hx.symm
        · have hh : i = (0 :: ST).length := by have := HNS.out; have := HST.out; simp; omega
          subst hh
          rw [List.getElem?_append_right (Nat.le_refl _), Nat.sub_self] at hx
          injection hx with hx
          exact hx.symm
      have SZ7 : Hid (hi ≤ w7.heap.size) := Lib.hid (by have := blk_ltW T7.out; have := HTB.out; omega)
      have e00 : rowW j (fun _ => 0) = rowW j (toldN f now []) := rowW_congr j _ _ fun k hk => by
        unfold toldN
        rw [if_neg]
        rintro (h | h)
        · rw [HF.out k] at h
          simp at h
          omega
        · cases h
      rw [e00] at T7
      have hn62 : now ≤ 4611686018427387904 := by omega
      have OI : Hid (OnceI now ns 0 now now) := Lib.hid ⟨Or.inl ⟨rfl, rfl, rfl⟩, Nat.le_refl _, by omega, fun h => by have := HNS.out; omega⟩
      have hns0 : ns ≤ 62 := by have := HNS.out; omega
      clear hxl e00 HB2 R2
      go_loopw [66, 11] (fun it la wr => ∃ (i L a : Nat), i ≤ ns ∧ it = .int .i64 i ∧ la = .int .u64 (L : Nat) ∧ Hid (OnceI now ns i L a) ∧ Hid (Wl wr lo hi wb j L (remF f j a)) ∧ Hid (w.grownBy wr none) ∧ Hid (hi ≤ wr.heap.size) ∧ Hid (wr.heap[tb]? = some (.cells (rowW j (toldN f a [])) 3 (0, 0))) ∧ Hid (wr.ownsRow (tb + 1) 22 1 (.slice (some ⟨r7, 0, none⟩) ns cp7) ns (u64s XS))) (fun it _ _ => ns - (intOf it).toNat)
      case atStart => exact ⟨0, now, now, Nat.zero_le _, rfl, rfl, OI, HW7, G7, SZ7, T7, own7'⟩
      case round =>
        clear OI HW7 G7 SZ7 T7 own7'
        obtain ⟨i, L, a, hi', rfl, rfl, OI, HW, HG, HI, HT, HX⟩ := hrel
        by_cases hlt : i < ns
        · have qi : (i : Int) < (ns : Int) := by omega
          have hxi : i < XS.length := by rw [HXL.out]; exact hlt
          have cx : wr.cell? ⟨r7, i, none⟩ = some (.int .u64 ((XS[i] : Nat) : Int)) := own_cellW HX.out (u64s_at XS i hxi) rfl
          obtain ⟨xb, x0, xe⟩ := HXB.out i _ (List.getElem?_eq_getElem hxi)
          have mkx := low57 XS[i] xb
          have O1 := OI.out
          generalize XS[i] = x at *
          obtain ⟨y, hy⟩ : ∃ y, x % 144115188075855872 = y := ⟨_, rfl⟩
          have hyb : y < 144115188075855872 := by omega
          rw [hy] at mkx
          have hLb : L ≤ 18158513697557839872 := by have := O1.b; omega
          have ew : IntKind.u64.wrap ((L : Int) + (y : Int)) = (L : Int) + (y : Int) := by rw [IntKind.wrap_u64]; omega
          have Lb2 := O1.b
          have Ll := O1.l
          have OS := Lib.hid O1.s
          clear O1 OI
          by_cases hx : x = 9223372036854775807
          · have e1 : ((x : Int) == 9223372036854775807) = true := by simp; omega
            have e2 : decide ((x : Int) = 9223372036854775807) = true := by simp; omega
            obtain ⟨tg, htg⟩ : ∃ tg, tg = 9223372036854775807 := ⟨_, rfl⟩
            have htc : ((tg : Nat) : Int) = 9223372036854775807 := by omega
            have hcase : Hid ((i = 0 → tg = now) ∧ (i + 1 = ns → 9223372036854775807 ≤ tg) ∧ tg ≤ 9223372036854775808 + (i + 1) * 144115188075855872 ∧ (L = now ∨ a = L + 1)) := Lib.hid ⟨fun h => by have := x0 h; omega, fun _ => by omega, by omega, by have := OS.out; omega⟩
            have htb : tg < 18446744073709551616 := by omega
            have CT := wl_to HW.out tg htb HI.out
            rw [htc] at CT
            have HCT := Lib.hid CT
            have HTC := Lib.hid htc
            clear CT htc htg
            go_wp2_with fail
            refine HCT.out.mono ?_
            rintro e u5 ⟨R, r, cp, rfl, hro, k5, h5, hnd, hmem, _⟩
            have hmx : a ≤ max L tg + 1 := by have := OS.out; omega
            have hD : ∀ k, k ∈ R ↔ k < j ∧ a ≤ (f k).1 ∧ (f k).1 ≤ max L tg := fun k => (hmem k).trans (remF_due f j a (max L tg) k)
            rw [remF_off f j a (max L tg) R hmx hmem] at h5
            have H5 := Lib.hid h5
            have G5 := Lib.hid (Only.on HG.out k5 HL.out)
            have HI5 : Hid (hi ≤ u5.heap.size) := Lib.hid (Nat.le_trans HI.out k5.size)
            have T5 := Lib.hid ((k5.block tb (blk_ltW HT.out) (Or.inr HTB.out)).trans HT.out)
            have X5 := Lib.hid (own_onlyW HX.out k5 (Nat.le_succ_of_le HTB.out))
            have HR := Lib.hid hro
            have HRT : Hid (r ≠ tb) := Lib.hid (by have h1 := hro.lt.1; have h2 := blk_ltW HT.out; omega)
            have HD := Lib.hid hD
            have HND := Lib.hid hnd
            have hRl : R.length ≤ 4096 := Nat.le_trans (few_of_nodup j R hnd (fun k hk => ((hD k).1 hk).1)) (by omega)
            clear k5 h5 hnd hmem hD HG HI HW HT HX HCT hro hmx cx mkx
            obtain ⟨rl, hrl⟩ : ∃ m, R.length = m := ⟨_, rfl⟩
            rw [hrl] at hRl ⊢
            have HRL := Lib.hid hrl
            clear hrl
            go_wp2_with fail
            go_loopw [80] (fun it wr => ∃ m : Nat, m ≤ rl ∧ it = .int .i64 m ∧ Hid (Wl wr lo hi wb j (max L tg) (remF f j (max L tg + 1))) ∧ Hid (w.grownBy wr none) ∧ Hid (hi ≤ wr.heap.size) ∧ Hid (wr.heap[tb]? = some (.cells (rowW j (toldN f a (R.take m))) 3 (0, 0))) ∧ Hid (wr.ownsRow (tb + 1) 22 1 (.slice (some ⟨r7, 0, none⟩) ns cp7) ns (u64s XS)) ∧ Hid (RowOf wr _ r cp R)) (fun it _ => rl - (intOf it).toNat)
            case atStart => exact ⟨0, Nat.zero_le _, rfl, H5, G5, HI5, T5, X5, HR⟩
            case round =>
              clear H5 G5 HI5 T5 X5 HR
              obtain ⟨m, hm, rfl, H5, G5, HI5, T5, X5, HR⟩ := hrel
              by_cases hml : m < rl
              · have qm : (m : Int) < (rl : Int) := by omega
                have hmR : m < R.length := by rw [HRL.out]; exact hml
                have cr := HR.out.cell m hmR
                obtain ⟨hk1, hk2, hk3⟩ := (HD.out R[m]).1 (List.getElem_mem hmR)
                obtain ⟨hsa, cz, hzb⟩ := R0.out _ R[m] G5.out hk1
                subst hsa
                have hfk := HF.out R[m]
                have mkz := low62 (zs1 R[m]) hzb
                obtain ⟨g, hg⟩ : ∃ g, zs1 R[m] % 4611686018427387904 = g := ⟨_, rfl⟩
                have hgb : g < 4611686018427387904 := by omega
                rw [hg] at mkz hfk
                have ct := (cell_blkW T5.out R[m]).trans (rowW_at j _ R[m] hk1)
                have hnot : toldN f a (R.take m) R[m] = 0 := by
                  unfold toldN
                  rw [if_neg]
                  rintro (h | h)
                  · omega
                  · obtain ⟨q, hq, he⟩ := List.mem_take_iff_getElem.1 h
                    exact List.pairwise_iff_getElem.1 HND.out q m (by omega) hmR (by omega) he
                rw [hnot] at ct
                have ft := frozen_blkW T5.out R[m]
                have HTS := Lib.hid (toldN_step f a R m hmR)
                have T6 := blk_setW wr tb R[m] (.int .i64 ((1 : Nat) : Int)) _ _ T5.out
                rw [rowW_set, HTS.out] at T6
                have hon : Only tb (tb + 1) wr (wr.setCell ⟨tb, R[m], none⟩ (.int .i64 ((1 : Nat) : Int))) := Only.set wr ⟨tb, R[m], none⟩ (.int .i64 ((1 : Nat) : Int)) (Nat.le_refl _) (Nat.lt_succ_self _)
                have H6 := H5.out.only hon (Or.inl HTB.out)
                have G6 := Only.on G5.out hon (Nat.le_trans HLS.out HTB.out)
                have X6 := own_blkW X5.out (w' := wr.setCell ⟨tb, R[m], none⟩ (.int .i64 ((1 : Nat) : Int))) fun q hq => hon.block q (X5.out.lt q hq).2 (Or.inr (X5.out.lt q hq).1)
                have R6 := HR.out.only hon (by have := HRT.out; omega)
                have S6 := Nat.le_trans HI5.out hon.size
                have hat : (f R[m]).1 = now + g := by rw [hfk]
                rw [hat] at hk2 hk3
                rw [show ((1 : Nat) : Int) = 1 from rfl] at T6 H6 G6 X6 R6 S6
                rw [show ((0 : Nat) : Int) = 0 from rfl] at ct
                obtain ⟨hq9, cz2, hz9⟩ := R0.out _ R[m] G6 hk1
                clear hq9 hz9
                have T7 := Lib.hid T6
                have H7 := Lib.hid H6
                have G7 := Lib.hid G6
                have X7 := Lib.hid X6
                have R7 := Lib.hid R6
                have S7 := Lib.hid S6
                clear T6 H6 G6 X6 R6 S6 hon hnot hg hfk hat hzb H5 G5 HI5 T5 X5 HR HTS
                generalize zs1 R[m] = z at *
                generalize R[m] = k at *
                have qk1 : ¬ (j : Int) ≤ (k : Int) := by omega
                have qk2 : (k : Int) < (j : Int) := by omega
                have ewg : IntKind.u64.wrap ((now : Int) + (g : Int)) = (now : Int) + (g : Int) := by rw [IntKind.wrap_u64]; omega
                have hle : now + g ≤ tg := by have := hcase.out; have := OS.out; omega
                have qt : ¬ (9223372036854775807) < (now : Int) + (g : Int) := by have := HTC.out; omega
                by_cases hLg : L < now + g
                · have ql : ¬ (now : Int) + (g : Int) ≤ (L : Int) := by omega
                  clear hk2 hk3 hle
                  go_wp2
                  go_roundw
                  case rel => exact ⟨m + 1, hml, by go_num, H7, G7, S7, T7, X7, R7⟩
                  case measure => simp [intOf]; omega
                · have ql : (now : Int) + (g : Int) ≤ (L : Int) := by omega
                  have hLn : L = now := by have := hcase.out.2.2.2; omega
                  have l1 : ((L : Int) != (now : Int)) = false := by rw [hLn]; simp
                  have l2 : ((L : Int) == (now : Int)) = true := by rw [hLn]; simp
                  have l3 : decide ((L : Int) = (now : Int)) = true := by rw [hLn]; simp
                  clear hk2 hk3 hle hLn
                  go_wp2
                  go_roundw
                  case rel => exact ⟨m + 1, hml, by go_num, H7, G7, S7, T7, X7, R7⟩
                  case measure => simp [intOf]; omega
              · obtain rfl : m = rl := by omega
                have eT : rowW j (toldN f a (R.take m)) = rowW j (toldN f (max L tg + 1) []) := rowW_congr j _ _ fun k hk => by
                  rw [← HRL.out, List.take_length]
                  have := HD.out k
                  have hc := hcase.out.2.2.2
                  unfold toldN
                  by_cases h1 : (f k).1 < max L tg + 1
                  · rw [if_pos (Or.inl h1), if_pos]
                    by_cases h2 : (f k).1 < a
                    · exact Or.inl h2
                    · exact Or.inr (this.2 ⟨hk, by omega, by omega⟩)
                  · have hos := OS.out
                    rw [if_neg (show ¬ ((f k).1 < a ∨ k ∈ R) from fun hh => hh.elim (fun h => by omega) (fun h => by have := this.1 h; omega)), if_neg (show ¬ ((f k).1 < max L tg + 1 ∨ k ∈ ([] : List Nat)) from fun hh => hh.elim h1 (fun h => by cases h))]
                rw [eT] at T5
                have OI2 : Hid (OnceI now ns (i + 1) (max L tg) (max L tg + 1)) := Lib.hid ⟨Or.inr ⟨Nat.succ_pos _, rfl⟩, by omega, by have := hcase.out.2.2.1; omega, fun h => by have := hcase.out.2.1 h; omega⟩
                clear eT
                go_wp2
                all_goals
                  go_roundw
                  case rel => exact ⟨i + 1, max L tg, _, hlt, by go_num, by have := HTC.out; congr 1; omega, OI2, H5, G5, HI5, T5, X5⟩
                  case measure => simp [intOf]; omega
          · have e1 : ((x : Int) == 9223372036854775807) = false := by simp; omega
            have e2 : decide ((x : Int) = 9223372036854775807) = false := by simp; omega
            obtain ⟨tg, htg⟩ : ∃ tg, tg = L + y := ⟨_, rfl⟩
            have htc : ((tg : Nat) : Int) = (L : Int) + (y : Int) := by omega
            have hcase : Hid ((i = 0 → tg = now) ∧ (i + 1 = ns → 9223372036854775807 ≤ tg) ∧ tg ≤ 9223372036854775808 + (i + 1) * 144115188075855872 ∧ (L = now ∨ a = L + 1)) := Lib.hid ⟨fun h => by have := x0 h; have := OS.out; omega, fun h => absurd (xe h) hx, by omega, by have := OS.out; omega⟩
            have htb : tg < 18446744073709551616 := by omega
            have CT := wl_to HW.out tg htb HI.out
            rw [htc] at CT
            have HCT := Lib.hid CT
            have HTC := Lib.hid htc
            clear CT htc htg
            go_wp2_with fail
            refine HCT.out.mono ?_
            rintro e u5 ⟨R, r, cp, rfl, hro, k5, h5, hnd, hmem, _⟩
            have hmx : a ≤ max L tg + 1 := by have := OS.out; omega
            have hD : ∀ k, k ∈ R ↔ k < j ∧ a ≤ (f k).1 ∧ (f k).1 ≤ max L tg := fun k => (hmem k).trans (remF_due f j a (max L tg) k)
            rw [remF_off f j a (max L tg) R hmx hmem] at h5
            have H5 := Lib.hid h5
            have G5 := Lib.hid (Only.on HG.out k5 HL.out)
            have HI5 : Hid (hi ≤ u5.heap.size) := Lib.hid (Nat.le_trans HI.out k5.size)
            have T5 := Lib.hid ((k5.block tb (blk_ltW HT.out) (Or.inr HTB.out)).trans HT.out)
            have X5 := Lib.hid (own_onlyW HX.out k5 (Nat.le_succ_of_le HTB.out))
            have HR := Lib.hid hro
            have HRT : Hid (r ≠ tb) := Lib.hid (by have h1 := hro.lt.1; have h2 := blk_ltW HT.out; omega)
            have HD := Lib.hid hD
            have HND := Lib.hid hnd
            have hRl : R.length ≤ 4096 := Nat.le_trans (few_of_nodup j R hnd (fun k hk => ((hD k).1 hk).1)) (by omega)
            clear k5 h5 hnd hmem hD HG HI HW HT HX HCT hro hmx cx mkx
            obtain ⟨rl, hrl⟩ : ∃ m, R.length = m := ⟨_, rfl⟩
            rw [hrl] at hRl ⊢
            have HRL := Lib.hid hrl
            clear hrl
            go_wp2_with fail
            go_loopw [80] (fun it wr => ∃ m : Nat, m ≤ rl ∧ it = .int .i64 m ∧ Hid (Wl wr lo hi wb j (max L tg) (remF f j (max L tg + 1))) ∧ Hid (w.grownBy wr none) ∧ Hid (hi ≤ wr.heap.size) ∧ Hid (wr.heap[tb]? = some (.cells (rowW j (toldN f a (R.take m))) 3 (0, 0))) ∧ Hid (wr.ownsRow (tb + 1) 22 1 (.slice (some ⟨r7, 0, none⟩) ns cp7) ns (u64s XS)) ∧ Hid (RowOf wr _ r cp R)) (fun it _ => rl - (intOf it).toNat)
            case atStart => exact ⟨0, Nat.zero_le _, rfl, H5, G5, HI5, T5, X5, HR⟩
            case round =>
              clear H5 G5 HI5 T5 X5 HR
              obtain ⟨m, hm, rfl, H5, G5, HI5, T5, X5, HR⟩ := hrel
              by_cases hml : m < rl
              · have qm : (m : Int) < (rl : Int) := by omega
                have hmR : m < R.length := by rw [HRL.out]; exact hml
                have cr := HR.out.cell m hmR
                obtain ⟨hk1, hk2, hk3⟩ := (HD.out R[m]).1 (List.getElem_mem hmR)
                obtain ⟨hsa, cz, hzb⟩ := R0.out _ R[m] G5.out hk1
                subst hsa
                have hfk := HF.out R[m]
                have mkz := low62 (zs1 R[m]) hzb
                obtain ⟨g, hg⟩ : ∃ g, zs1 R[m] % 4611686018427387904 = g := ⟨_, rfl⟩
                have hgb : g < 4611686018427387904 := by omega
                rw [hg] at mkz hfk
                have ct := (cell_blkW T5.out R[m]).trans (rowW_at j _ R[m] hk1)
                have hnot : toldN f a (R.take m) R[m] = 0 := by
                  unfold toldN
                  rw [if_neg]
                  rintro (h | h)
                  · omega
                  · obtain ⟨q, hq, he⟩ := List.mem_take_iff_getElem.1 h
                    exact List.pairwise_iff_getElem.1 HND.out q m (by omega) hmR (by omega) he
                rw [hnot] at ct
                have ft := frozen_blkW T5.out R[m]
                have HTS := Lib.hid (toldN_step f a R m hmR)
                have T6 := blk_setW wr tb R[m] (.int .i64 ((1 : Nat) : Int)) _ _ T5.out
                rw [rowW_set, HTS.out] at T6
                have hon : Only tb (tb + 1) wr (wr.setCell ⟨tb, R[m], none⟩ (.int .i64 ((1 : Nat) : Int))) := Only.set wr ⟨tb, R[m], none⟩ (.int .i64 ((1 : Nat) : Int)) (Nat.le_refl _) (Nat.lt_succ_self _)
                have H6 := H5.out.only hon (Or.inl HTB.out)
                have G6 := Only.on G5.out hon (Nat.le_trans HLS.out HTB.out)
                have X6 := own_blkW X5.out (w' := wr.setCell ⟨tb, R[m], none⟩ (.int .i64 ((1 : Nat) : Int))) fun q hq => hon.block q (X5.out.lt q hq).2 (Or.inr (X5.out.lt q hq).1)
                have R6 := HR.out.only hon (by have := HRT.out; omega)
                have S6 := Nat.le_trans HI5.out hon.size
                have hat : (f R[m]).1 = now + g := by rw [hfk]
                rw [hat] at hk2 hk3
                rw [show ((1 : Nat) : Int) = 1 from rfl] at T6 H6 G6 X6 R6 S6
                rw [show ((0 : Nat) : Int) = 0 from rfl] at ct
                obtain ⟨hq9, cz2, hz9⟩ := R0.out _ R[m] G6 hk1
                clear hq9 hz9
                have T7 := Lib.hid T6
                have H7 := Lib.hid H6
                have G7 := Lib.hid G6
                have X7 := Lib.hid X6
                have R7 := Lib.hid R6
                have S7 := Lib.hid S6
                clear T6 H6 G6 X6 R6 S6 hon hnot hg hfk hat hzb H5 G5 HI5 T5 X5 HR HTS
                generalize zs1 R[m] = z at *
                generalize R[m] = k at *
                have qk1 : ¬ (j : Int) ≤ (k : Int) := by omega
                have qk2 : (k : Int) < (j : Int) := by omega
                have ewg : IntKind.u64.wrap ((now : Int) + (g : Int)) = (now : Int) + (g : Int) := by rw [IntKind.wrap_u64]; omega
                have hle : now + g ≤ tg := by have := hcase.out; have := OS.out; omega
                have qt : ¬ ((L : Int) + (y : Int)) < (now : Int) + (g : Int) := by have := HTC.out; omega
                by_cases hLg : L < now + g
                · have ql : ¬ (now : Int) + (g : Int) ≤ (L : Int) := by omega
                  clear hk2 hk3 hle
                  go_wp2
                  go_roundw
                  case rel => exact ⟨m + 1, hml, by go_num, H7, G7, S7, T7, X7, R7⟩
                  case measure => simp [intOf]; omega
                · have ql : (now : Int) + (g : Int) ≤ (L : Int) := by omega
                  have hLn : L = now := by have := hcase.out.2.2.2; omega
                  have l1 : ((L : Int) != (now : Int)) = false := by rw [hLn]; simp
                  have l2 : ((L : Int) == (now : Int)) = true := by rw [hLn]; simp
                  have l3 : decide ((L : Int) = (now : Int)) = true := by rw [hLn]; simp
                  clear hk2 hk3 hle hLn
                  go_wp2
                  go_roundw
                  case rel => exact ⟨m + 1, hml, by go_num, H7, G7, S7, T7, X7, R7⟩
                  case measure => simp [intOf]; omega
              · obtain rfl : m = rl := by omega
                have eT : rowW j (toldN f a (R.take m)) = rowW j (toldN f (max L tg + 1) []) := rowW_congr j _ _ fun k hk => by
                  rw [← HRL.out, List.take_length]
                  have := HD.out k
                  have hc := hcase.out.2.2.2
                  unfold toldN
                  by_cases h1 : (f k).1 < max L tg + 1
                  · rw [if_pos (Or.inl h1), if_pos]
                    by_cases h2 : (f k).1 < a
                    · exact Or.inl h2
                    · exact Or.inr (this.2 ⟨hk, by omega, by omega⟩)
                  · have hos := OS.out
                    rw [if_neg (show ¬ ((f k).1 < a ∨ k ∈ R) from fun hh => hh.elim (fun h => by omega) (fun h => by have := this.1 h; omega)), if_neg (show ¬ ((f k).1 < max L tg + 1 ∨ k ∈ ([] : List Nat)) from fun hh => hh.elim h1 (fun h => by cases h))]
                rw [eT] at T5
                have OI2 : Hid (OnceI now ns (i + 1) (max L tg) (max L tg + 1)) := Lib.hid ⟨Or.inr ⟨Nat.succ_pos _, rfl⟩, by omega, by have := hcase.out.2.2.1; omega, fun h => by have := hcase.out.2.1 h; omega⟩
                clear eT
                go_wp2
                all_goals
                  go_roundw
                  case rel => exact ⟨i + 1, max L tg, _, hlt, by go_num, by have := HTC.out; congr 1; omega, OI2, H5, G5, HI5, T5, X5⟩
                  case measure => simp [intOf]; omega
        · obtain rfl : i = ns := by omega
          have hLe := OI.out.e rfl
          have hLs := OI.out.s
          have ha : a = L + 1 := by have := HNS.out; omega
          have hfb : ∀ k, k < j → (f k).1 < a := fun k hk => by
            rw [HF.out k]
            show now + zs1 k % 4611686018427387904 < a
            omega
          have eT : rowW j (toldN f a []) = rowW j (fun _ => 1) := rowW_congr j _ _ fun k hk => by
            unfold toldN
            rw [if_pos (Or.inl (hfb k hk))]
          rw [eT] at HT
          have hrn := remF_none f j a hfb
          rw [hrn] at HW
          clear eT hrn hfb OI hLs ha hLe R0
          go_wp2_with fail
          go_loopw [132] (fun it w' => ∃ m : Nat, m ≤ j ∧ it = .int .i64 m ∧ Hid (w' = wr)) (fun it _ => j - (intOf it).toNat)
          case atStart => exact ⟨0, Nat.zero_le _, rfl, Lib.hid rfl⟩
          case round =>
            obtain ⟨m, hm, rfl, HE⟩ := hrel
            obtain rfl := HE.out
            by_cases hmj : m < j
            · have qm : (m : Int) < (j : Int) := by omega
              have cm := (cell_blkW HT.out m).trans (rowW_at j _ m hmj)
              simp only [Int.natCast_one] at cm
              clear HE
              go_wp2
              go_roundw
              case rel => exact ⟨m + 1, hmj, by go_num, Lib.hid trivial⟩
              case measure => simp [intOf]; omega
            · obtain rfl : m = j := by omega
              have CL := wl_len HW.out
              rw [setN_none] at CL
              have HCL := Lib.hid CL
              clear CL HE
              go_wp2_with fail
              refine HCL.out.mono ?_
              rintro e w' ⟨rfl, rfl⟩
              go_wp2
              go_ret
              exact ⟨rfl, HG.out⟩
end Go.Proofs.Ytpabnhiaafnjpaa
