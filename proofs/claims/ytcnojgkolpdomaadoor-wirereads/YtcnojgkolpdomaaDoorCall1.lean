/-
  call.appendNumber, call.number, nightjarref14.put and get: a number's eight bytes, and back, over this seat's translation.
-/
import Derived.Test.YtcnojgkolpdomaaDoorBytes
namespace Go.Proofs.YtcnojgkolpdomaaDoor
open Go.RowKit Go.Lib
set_option maxRecDepth 100000

/-- What putting bytes behind the row v (which is v' then) may have turned: the row's own block alone. -/
structure Grew (w w' : World) (v v' : Value) : Prop where
  g : w.grownBy w' v.ownBlock
  at' : v'.ownBlock = v.ownBlock ∨ ∃ r, v'.ownBlock = some r ∧ w.heap.size ≤ r
theorem Grew.refl (w : World) (v : Value) : Grew w w v v := ⟨World.grownBy.refl w _, Or.inl rfl⟩
theorem Grew.trans {a b c : World} {v v1 v2 : Value} (h : Grew a b v v1) (k : Grew b c v1 v2) : Grew a c v v2 := by
  refine ⟨⟨k.g.os.trans h.g.os, k.g.tape.trans h.g.tape, k.g.output.trans h.g.output, Nat.le_trans h.g.size k.g.size, fun i hi hne => ?_⟩, ?_⟩
  · rw [k.g.block i (Nat.lt_of_lt_of_le hi h.g.size) (fun e => ?_)]
    · exact h.g.block i hi hne
    · rcases h.at' with h1 | ⟨r, h1, h2⟩
      · exact hne (e.trans h1)
      · rw [h1] at e; injection e with e; omega
  · rcases k.at' with k1 | ⟨r, k1, k2⟩
    · rw [k1]; exact h.at'
    · exact Or.inr ⟨r, k1, Nat.le_trans h.g.size k2⟩
theorem Grew.into {a b c : World} {v v1 : Value} (h : Grew a b v v1) (k : b.grownBy c none) : Grew a c v v1 :=
  ⟨⟨k.os.trans h.g.os, k.tape.trans h.g.tape, k.output.trans h.g.output, Nat.le_trans h.g.size k.size, fun i hi hne => (k.block i (Nat.lt_of_lt_of_le hi h.g.size) (by simp)).trans (h.g.block i hi hne)⟩, h.at'⟩
theorem Grew.of {a b c : World} {v v1 : Value} (k : a.grownBy b none) (h : Grew b c v v1) : Grew a c v v1 :=
  ⟨⟨h.g.os.trans k.os, h.g.tape.trans k.tape, h.g.output.trans k.output, Nat.le_trans k.size h.g.size, fun i hi hne => (h.g.block i (Nat.lt_of_lt_of_le hi k.size) hne).trans (k.block i hi (by simp))⟩, by
    rcases h.at' with h1 | ⟨r, h1, h2⟩
    · exact Or.inl h1
    · exact Or.inr ⟨r, h1, Nat.le_trans k.size h2⟩⟩
theorem byte_put {w w5 : World} {B : Nat} {V v' : Value} {F : List Nat} {k : Nat} {z : Int} {o : Obj} (hown' : w5.ownsRow B 5 1 v' (F.length + 1) (bys F ++ [.int .u8 z])) (hz : z = (k : Int))
    (hg : (w.alloc o).grownBy w5 V.ownBlock) (hat : v'.ownBlock = V.ownBlock ∨ v'.ownBlock = some (w.alloc o).heap.size) : BRow w5 B v' (F ++ [k]) ∧ Grew w w5 V v' := by
  subst hz
  refine ⟨?_, (World.grownBy_alloc w o V.ownBlock).trans hg, ?_⟩
  · rw [bys_snoc] at hown'
    unfold BRow
    rw [List.length_append]
    exact hown'
  · rcases hat with h | h
    · exact Or.inl h
    · exact Or.inr ⟨_, h, by simp⟩

theorem cell_one_at (w : World) (x : Value) (t : TypeId) (b : Nat) (hb : b = w.heap.size) : ∀ j u, [x][j]? = some u → (w.alloc (.cells #[x] t)).cell? ((⟨b, 0, none⟩ : Addr).add j) = some u := by
  subst hb
  exact cell_one_new w x t
theorem wrap8 (n : Nat) : IntKind.u8.wrap (n : Int) = ((n % 256 : Nat) : Int) := by simp [IntKind.wrap]; rfl
theorem grow_nothing (w : World) : w.grownBy w none := ⟨rfl, rfl, rfl, Nat.le_refl _, fun _ _ _ => rfl⟩

set_option maxHeartbeats 1000000 in
theorem cappend {w : World} {B : Nat} {v : Value} {F : List Nat} (n : Nat) (H : BRow w B v F) (hn : n < 18446744073709551616) (hF : F.length ≤ 1000) (hB : B ≤ w.heap.size) :
    Calls Tryd.prog 38 #[v, .int .u64 (n : Int)] w fun e w' => ∃ v', e = .returned v' ∧ BRow w' B v' (F ++ nb 8 n) ∧ Grew w w' v v' := by
  obtain ⟨i0, hi0, hz0, hz1, hz2⟩ := byte_info
  have I0 := Lib.hid hi0
  have I1 := Lib.hid hz0
  have I2 := Lib.hid hz1
  have I3 := Lib.hid hz2
  clear hi0 hz0 hz1 hz2
  have hnb : nb 0 n = [] := rfl
  have hnd : n / 256 ^ 0 = n := by simp
  go_enter Tryd.func38, Tryd.ntmps38
  go_wp2
  go_loopw [0, 1, 5] (fun av nv kv wr => ∃ j : Nat, j ≤ 8 ∧ kv = .int .i64 (j : Int) ∧ nv = .int .u64 ((n / 256 ^ j : Nat) : Int) ∧ BRow wr B av (F ++ nb j n) ∧ Grew w wr v av ∧ B ≤ wr.heap.size)
    (fun _ _ kv _ => 8 - (intOf kv).toNat)
  case atStart => exact ⟨0, by decide, rfl, by rw [hnd], by rw [hnb, List.append_nil]; exact H, Grew.refl _ _, hB⟩
  case round =>
    obtain ⟨j, hj, rfl, rfl, hown, hG, hBr⟩ := hrel
    clear H hB
    by_cases hlt : j < 8
    · have hsn := nb_snoc j n
      have hdd : n / 256 ^ j / 256 = n / 256 ^ (j + 1) := by rw [Nat.div_div_eq_div_mul, Nat.pow_succ]
      generalize n / 256 ^ j = m at *
      have hlen : (F ++ nb j n).length ≤ 1008 := by rw [List.length_append, nb_len]; omega
      have HN := Lib.hid (show F ++ nb (j + 1) n = (F ++ nb j n) ++ [m % 256] by rw [hsn, List.append_assoc])
      clear hsn hnb hnd
      generalize F ++ nb j n = G at *
      have hw8 := wrap8 m
      have hsh : (m : Int) / 256 = ((m / 256 : Nat) : Int) := by omega
      go_wp2_with (
      at_builtin
      refine wpList_append_own_at _ rfl _ _ 38 rfl B 5 i0 (.int .u8 0) 1 1 Tryd.underlying38 I0.out I1.out I2.out I3.out rfl (by decide) u0 _ _ rfl (World.ownsRow.alloc hown _) ⟨_, 0, none⟩ 1 1 [.int .u8 ((m % 256 : Nat) : Int)] rfl rfl (cell_one_at _ _ _ _ (by first | rfl | simp)) (fun x hx => by simp at hx; subst hx; rfl) (by unfold maxLen; omega) (by omega) (by simp; omega) ?_
      intro v' w5 hown' hgrow3 hnil3 hat0
      have hgr : (World.alloc (wr) (.cells #[.int .u8 ((m % 256 : Nat) : Int)] 5)).grownBy w5 (Value.ownBlock u0) := hgrow3
      have hat1 : v'.ownBlock = Value.ownBlock u0 ∨ v'.ownBlock = some (World.alloc (wr) (.cells #[.int .u8 ((m % 256 : Nat) : Int)] 5)).heap.size := hat0
      clear hgrow3 hat0
      obtain ⟨h5, g5⟩ := byte_put (z := ((m % 256 : Nat) : Int)) hown' rfl hgr hat1
      have HB5 := Lib.hid h5
      have HG5 := Lib.hid (hG.trans g5)
      have HS5 := Lib.hid (Nat.le_trans hBr g5.g.size)
      clear hown' hgr hat1 h5 g5 hnil3
      )
      go_roundw
      case rel => exact ⟨j + 1, by omega, by go_num, by simp, by rw [HN.out]; exact HB5.out, HG5.out, HS5.out⟩
      case measure => simp [intOf]; omega
    · obtain rfl : j = 8 := by omega
      go_wp2
      go_ret
      exact ⟨_, rfl, hown, hG⟩

theorem orU (a b : Nat) (ha : a < 18446744073709551616) (hb : b < 18446744073709551616) : bits .or .u64 (a : Int) (b : Int) = ((a ||| b : Nat) : Int) := by
  rw [bits_or_u64_nat _ _ (by omega) (by omega)]
theorem or_shift (x b i : Nat) (hx : x < 256 ^ i) (hb : b < 256) (hi : i < 8) :
    bits .or .u64 (x : Int) (IntKind.u64.wrap (IntKind.u64.wrap (b : Int) * 2 ^ (8 * i))) = ((x + 256 ^ i * b : Nat) : Int) := by
  have e : (256 : Nat) ^ i = 2 ^ (8 * i) := by rw [Nat.pow_mul]
  have hp : 2 ^ (8 * i) ≤ 2 ^ 56 := Nat.pow_le_pow_right (by decide) (by omega)
  have hle : b * 2 ^ (8 * i) ≤ 255 * 2 ^ (8 * i) := Nat.mul_le_mul_right _ (by omega)
  have e1 : IntKind.u64.wrap (b : Int) = (b : Int) := by rw [IntKind.wrap_u64]; omega
  have e3 : ((b : Int) * 2 ^ (8 * i)) = ((b * 2 ^ (8 * i) : Nat) : Int) := by push_cast; rfl
  have hlt : b * 2 ^ (8 * i) < 18446744073709551616 := by omega
  have e2 : IntKind.u64.wrap ((b : Int) * 2 ^ (8 * i)) = ((b * 2 ^ (8 * i) : Nat) : Int) := by
    rw [e3, IntKind.wrap_u64]
    generalize b * 2 ^ (8 * i) = y at hlt ⊢
    omega
  rw [e] at hx ⊢
  rw [e1, e2, orU x _ (by omega) hlt]
  have := Nat.shiftLeft_add_eq_or_of_lt hx b
  rw [Nat.shiftLeft_eq] at this
  rw [Nat.or_comm, ← this, Nat.mul_comm b]
  congr 1
  omega
theorem wrapq (n k : Nat) (hn : n < 18446744073709551616) : IntKind.u64.wrap ((n : Int) / 256 ^ k) = (n : Int) / 256 ^ k := by
  have := Nat.div_le_self n (256 ^ k)
  have e : (n : Int) / 256 ^ k = ((n / 256 ^ k : Nat) : Int) := by push_cast; rfl
  rw [e]
  generalize n / 256 ^ k = m at this ⊢
  rw [IntKind.wrap_u64]
  omega

set_option maxHeartbeats 1000000 in
theorem rput (w : World) (n : Nat) (hn : n < 18446744073709551616) :
    Calls Tryd.prog 39 #[.int .u64 (n : Int)] w fun e w' => ∃ v', e = .returned v' ∧ BRow w' w.heap.size v' (nb 8 n) ∧ w.grownBy w' none := by
  obtain ⟨i0, hi0, hz0, hz1, hz2⟩ := byte_info
  have I0 := Lib.hid hi0
  have I1 := Lib.hid hz0
  have I2 := Lib.hid hz1
  have I3 := Lib.hid hz2
  clear hi0 hz0 hz1 hz2
  have hnb : nb 0 n = [] := rfl
  have hnd : n / 256 ^ 0 = n := by simp
  have H := lit_brow w w.heap.size (Nat.le_refl _)
  have k0 := World.grownBy_alloc w (.cells #[] 5) none
  have hB : w.heap.size ≤ (w.alloc (.cells #[] 5)).heap.size := k0.size
  obtain ⟨B, hBB⟩ : ∃ B, B = w.heap.size := ⟨_, rfl⟩
  have HBB := Lib.hid hBB
  rw [← hBB] at H hB ⊢
  go_enter Tryd.func39, Tryd.ntmps39
  go_wp2
  rw [← hBB]
  clear hBB
  generalize w.alloc (.cells #[] 5) = w1 at H k0 hB ⊢
  go_loopw [0, 3, 4] (fun nv av kv wr => ∃ j : Nat, j ≤ 8 ∧ kv = .int .i64 (j : Int) ∧ nv = .int .u64 ((n / 256 ^ j : Nat) : Int) ∧ BRow wr B av (nb j n) ∧ w.grownBy wr none ∧ B ≤ wr.heap.size)
    (fun _ _ kv _ => 8 - (intOf kv).toNat)
  case atStart => exact ⟨0, by decide, rfl, by rw [hnd], H, k0, hB⟩
  case round =>
    obtain ⟨j, hj, rfl, rfl, hown, hG, hBr⟩ := hrel
    clear H hB
    by_cases hlt : j < 8
    · have hsn := nb_snoc j n
      have hdd : n / 256 ^ j / 256 = n / 256 ^ (j + 1) := by rw [Nat.div_div_eq_div_mul, Nat.pow_succ]
      have hm : n / 256 ^ j < 18446744073709551616 := Nat.lt_of_le_of_lt (Nat.div_le_self _ _) hn
      generalize n / 256 ^ j = m at *
      have hwq : IntKind.u64.wrap ((m / 256 : Nat) : Int) = ((m / 256 : Nat) : Int) := by rw [IntKind.wrap_u64]; omega
      have hlen : (nb j n).length ≤ 1008 := by rw [nb_len]; omega
      have HN := Lib.hid hsn
      clear hsn hnb hnd
      generalize nb j n = G at *
      have hw8 : IntKind.u8.wrap ((m : Int) % 256) = ((m % 256 : Nat) : Int) := by rw [show (m : Int) % 256 = ((m % 256 : Nat) : Int) by omega, wrap8]; omega
      have hsh : (m : Int) / 256 = ((m / 256 : Nat) : Int) := by omega
      go_wp2_with (
      at_builtin
      refine wpList_append_own_at _ rfl _ _ 38 rfl B 5 i0 (.int .u8 0) 1 1 Tryd.underlying38 I0.out I1.out I2.out I3.out rfl (by decide) u3 _ _ rfl (World.ownsRow.alloc hown _) ⟨_, 0, none⟩ 1 1 [.int .u8 ((m % 256 : Nat) : Int)] rfl rfl (cell_one_at _ _ _ _ (by first | rfl | simp)) (fun x hx => by simp at hx; subst hx; rfl) (by unfold maxLen; omega) (by omega) (by simp; omega) ?_
      intro v' w5 hown' hgrow3 hnil3 hat0
      have hgr : (World.alloc (wr) (.cells #[.int .u8 ((m % 256 : Nat) : Int)] 5)).grownBy w5 (Value.ownBlock u3) := hgrow3
      have hat1 : v'.ownBlock = Value.ownBlock u3 ∨ v'.ownBlock = some (World.alloc (wr) (.cells #[.int .u8 ((m % 256 : Nat) : Int)] 5)).heap.size := hat0
      clear hgrow3 hat0
      obtain ⟨h5, g5⟩ := byte_put (z := ((m % 256 : Nat) : Int)) hown' rfl hgr hat1
      have HB5 := Lib.hid h5
      have HG5 := Lib.hid (grow_own hG hown (by rw [HBB.out]; exact Nat.le_refl _) g5.g)
      have HS5 := Lib.hid (Nat.le_trans hBr g5.g.size)
      clear hown' hgr hat1 h5 g5 hnil3
      )
      go_roundw
      case rel => exact ⟨j + 1, by omega, by go_num, by simp [wrapq n _ hn], by rw [HN.out]; exact HB5.out, HG5.out, HS5.out⟩
      case measure => simp [intOf]; omega
    · obtain rfl : j = 8 := by omega
      go_wp2
      go_ret
      exact ⟨_, rfl, hown, hG⟩

set_option maxHeartbeats 1000000 in
theorem cnumber {w : World} {v : Value} {F : List Nat} (H : ReadsB w v F) (hF : 8 ≤ F.length) :
    Calls Tryd.prog 40 #[v] w fun e w' => e = .returned (.int .u64 (num (F.take 8) : Nat)) ∧ w.grownBy w' none := by
  obtain ⟨a, cap, rfl, h1, h2, h3, h4⟩ := H
  obtain ⟨b, o, rfl, hb, hc⟩ := h4 (by omega)
  have hc' := Lib.hid hc
  clear hc h4
  go_enter Tryd.func40, Tryd.ntmps40
  go_wp2
  go_loopw [3, 5] (fun nv kv wr => ∃ j : Nat, j ≤ 8 ∧ kv = .int .i64 (j : Int) ∧ nv = .int .u64 ((num (F.take j) : Nat) : Int) ∧ wr = w)
    (fun _ kv _ => 8 - (intOf kv).toNat)
  case atStart => exact ⟨0, by decide, rfl, rfl, rfl⟩
  case round =>
    obtain ⟨j, hj, rfl, rfl, rfl⟩ := hrel
    by_cases hlt : j < 8
    · have hcell := hc'.out j (by omega)
      have q1 : (j : Int) < (F.length : Int) := by omega
      have q0 : ¬ (j : Int) < 0 := by omega
      go_wp2
      go_roundw
      case rel =>
        have hx := num_lt (F.take j) (isB_take h3 j)
        rw [List.length_take, Nat.min_eq_left (by omega)] at hx
        have e : num (F.take (j + 1)) = num (F.take j) + 256 ^ j * F[j] := by
          rw [List.take_succ_eq_append_getElem (by omega), num_append, List.length_take, Nat.min_eq_left (by omega)]
          simp [num]
        exact ⟨j + 1, by omega, by go_num, by rw [or_shift _ _ j hx (h3 _ (List.getElem_mem _)) hlt, e], trivial⟩
      case measure => simp [intOf]; omega
    · obtain rfl : j = 8 := by omega
      go_wp2
      go_ret
      exact ⟨rfl, grow_nothing _⟩

set_option maxHeartbeats 1000000 in
theorem rget {w : World} {v : Value} {F : List Nat} (H : ReadsB w v F) (hF : F.length = 8) :
    Calls Tryd.prog 41 #[v] w fun e w' => e = .returned (.int .u64 (num F : Nat)) ∧ w.grownBy w' none := by
  obtain ⟨a, cap, rfl, h1, h2, h3, h4⟩ := H
  obtain ⟨b, o, rfl, hb, hc⟩ := h4 (by omega)
  have hc' := Lib.hid hc
  clear hc h4
  go_enter Tryd.func41, Tryd.ntmps41
  go_wp2
  go_loopw [3, 4] (fun nv kv wr => ∃ j : Nat, j ≤ 8 ∧ kv = .int .i64 ((j : Int) - 1) ∧ nv = .int .u64 ((num (F.drop j) : Nat) : Int) ∧ wr = w)
    (fun _ kv _ => ((intOf kv) + 1).toNat)
  case atStart => exact ⟨8, by decide, rfl, by rw [List.drop_of_length_le (by omega)]; rfl, rfl⟩
  case round =>
    obtain ⟨j, hj, rfl, rfl, rfl⟩ := hrel
    by_cases hlt : 0 < j
    · obtain ⟨i, rfl⟩ : ∃ i, j = i + 1 := ⟨j - 1, by omega⟩
      have hcell := hc'.out i (by omega)
      have q1 : (i : Int) < (F.length : Int) := by omega
      have q0 : ¬ (i : Int) < 0 := by omega
      have e9 : ((i + 1 : Nat) : Int) - 1 = (i : Int) := by omega
      have e : F.drop i = F[i] :: F.drop (i + 1) := List.drop_eq_getElem_cons (by omega)
      have en : num (F.drop i) = F[i] + 256 * num (F.drop (i + 1)) := by rw [e]; rfl
      have hlt8 := num_lt (F.drop i) (isB_drop h3 i)
      rw [List.length_drop, hF] at hlt8
      have hp : 256 ^ (8 - i) ≤ 256 ^ 8 := Nat.pow_le_pow_right (by decide) (by omega)
      have hbb : F[i] < 256 := h3 _ (List.getElem_mem _)
      have e1 : IntKind.u64.wrap ((F[i] : Nat) : Int) = ((F[i] : Nat) : Int) := by rw [IntKind.wrap_u64]; omega
      have e2 : IntKind.u64.wrap ((num (F.drop (i + 1)) : Nat) * 256 : Int) = ((num (F.drop (i + 1)) * 256 : Nat) : Int) := by rw [IntKind.wrap_u64]; omega
      have e3 : IntKind.u64.wrap (((num (F.drop (i + 1)) * 256 : Nat) : Int) + ((F[i] : Nat) : Int)) = ((num (F.drop i) : Nat) : Int) := by rw [en, IntKind.wrap_u64]; omega
      rw [e9]
      go_wp2
      go_roundw
      case rel => exact ⟨i, by omega, rfl, by rw [en]; congr 1; push_cast; omega, trivial⟩
      case measure => simp [intOf]
    · obtain rfl : j = 0 := by omega
      go_wp2
      go_ret
      exact ⟨rfl, grow_nothing _⟩
end Go.Proofs.YtcnojgkolpdomaaDoor
