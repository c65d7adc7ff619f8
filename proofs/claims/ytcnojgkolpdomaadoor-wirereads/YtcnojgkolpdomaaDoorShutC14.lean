/-
  Calls by value and slices of bytes that came in, as walks want them. (No condition.)
-/
import Derived.Test.YtcnojgkolpdomaaDoorShutM
import Derived.Test.YtcnojgkolpdomaaDoorCall3
namespace Go.Proofs.YtcnojgkolpdomaaDoor
open Go.ChangeShapes Go.WideShapes Go.ChangeAt Go.RowKit Go.Deep

section
variable {H : Type} {enc : TypeId × Value → H}
theorem u64_of_wf {z : Int} (w : (Lit.int .u64 z).wf = true) : ∃ n : Nat, z = (n : Int) ∧ n < 18446744073709551616 := by
  have h' : (0 : Int) ≤ z ∧ z ≤ 18446744073709551615 := by simpa [Lit.wf, IntKind.min, IntKind.max, IntKind.bits, IntKind.signed] using w
  exact ⟨z.toNat, by omega, by omega⟩
theorem call_cells {W : World} {base : Nat} {sp : Nat → Bool} {held : Bool} {fuel : Nat} {cs : List Value} {x : DataW H × List MemPlace} (h : DataW.trod enc Tryd.prog W base sp held fuel 24 cs = some x) :
    ∃ y : Cl, smC y ∧ cs = [.int .i64 y.op, .int .u64 (y.a : Nat), .int .u64 (y.b : Nat), .int .u64 (y.c : Nat)] := by
  obtain ⟨hl, hf⟩ := field_trod Tryd.underlying24 h
  have ce : Tryd.prog.cellsOf 24 = 4 := by kernel_rfl
  have ci : Tryd.prog.cellsOf 3 = 1 := by kernel_rfl
  have cu : Tryd.prog.cellsOf 22 = 1 := by kernel_rfl
  rw [ce] at hl
  obtain ⟨_, _, t0⟩ := hf 0 _ rfl
  obtain ⟨_, _, t1⟩ := hf 1 _ rfl
  obtain ⟨_, _, t2⟩ := hf 2 _ rfl
  obtain ⟨_, _, t3⟩ := hf 3 _ rfl
  obtain ⟨z0, e0, _⟩ := leaf_int (o := 0) Tryd.underlying3 ci (by omega) t0
  obtain ⟨z1, e1, w1⟩ := leaf_int (o := 1) Tryd.underlying22 cu (by omega) t1
  obtain ⟨z2, e2, w2⟩ := leaf_int (o := 2) Tryd.underlying22 cu (by omega) t2
  obtain ⟨z3, e3, w3⟩ := leaf_int (o := 3) Tryd.underlying22 cu (by omega) t3
  obtain ⟨n1, rfl, l1⟩ := u64_of_wf w1
  obtain ⟨n2, rfl, l2⟩ := u64_of_wf w2
  obtain ⟨n3, rfl, l3⟩ := u64_of_wf w3
  refine ⟨⟨z0, n1, n2, n3⟩, ⟨l1, l2, l3⟩, ?_⟩
  match cs, hl, e0, e1, e2, e3 with
  | [c0, c1, c2, c3], _, e0, e1, e2, e3 =>
    simp at e0 e1 e2 e3
    subst e0 e1 e2 e3
    rfl
theorem open_call {W : World} {base : Nat} {v : Value} {d : DataW H} {ps : List MemPlace} (hok : Value.okWide Tryd.prog W .any base 24 v) (h : DataW.Trod enc Tryd.prog W 0 (fun _ => true) true 24 v d ps) : ∃ y : Cl, v = y.val ∧ smC y := by
  obtain ⟨cs, rfl, hsz⟩ := okWide_struct Tryd.underlying24 hok
  obtain ⟨fuel, hf⟩ := h
  obtain ⟨y, hy, e⟩ := call_cells hf
  refine ⟨y, ?_, hy⟩
  unfold Cl.val
  congr 1
  simp [Value.cells] at e
  obtain ⟨l⟩ := cs
  simp at e
  rw [e]

/-- Numbers of a row as they stand. -/
def takeN (zs : Nat → Nat) : Nat → List Nat
  | 0 => []
  | n + 1 => takeN zs n ++ [zs n]
theorem takeN_len (zs : Nat → Nat) : ∀ n, (takeN zs n).length = n
  | 0 => rfl
  | n + 1 => by simp [takeN, takeN_len zs n]
theorem takeN_at (zs : Nat → Nat) : ∀ n j (h : j < (takeN zs n).length), (takeN zs n)[j] = zs j
  | n + 1, j, h => by
    have hl := takeN_len zs n
    rw [takeN_len] at h
    simp only [takeN]
    by_cases e : j < n
    · rw [List.getElem_append_left (by omega)]; exact takeN_at zs n j (by omega)
    · obtain rfl : j = n := by omega
      rw [List.getElem_append_right (by omega)]; simp
theorem open_bytes {W : World} {base : Nat} {v : Value} {d : DataW H} {ps : List MemPlace} (hok : Value.okWide Tryd.prog W .any base 38 v) (h : DataW.Trod enc Tryd.prog W 0 (fun _ => true) true 38 v d ps) : ∃ F : List Nat, ReadsB W v F := by
  obtain ⟨sa, len, cap, rfl⟩ := okWide_slice Tryd.underlying38 hok
  obtain ⟨fuel, hf⟩ := h
  rcases open_ints Tryd.underlying38 Tryd.underlying5 (by kernel_rfl) hf with ⟨hcs, _⟩ | ⟨a, len', cap', zs, hcs, _, hl, hm, hz, _, hcell, hwf⟩
  · simp [Value.cells] at hcs
    obtain ⟨rfl, rfl, rfl⟩ := hcs
    exact ⟨[], none, 0, rfl, Nat.zero_le _, by decide, fun x hx => absurd hx (by simp), fun h => absurd h (by simp)⟩
  · simp [Value.cells] at hcs
    obtain ⟨rfl, rfl, rfl⟩ := hcs
    simp only [if_true] at hz
    obtain ⟨b, off, spot⟩ := a
    have hsp : 0 < len → spot = none := fun h0 => by simpa [Addr.add] using World.cell?_spot (hcell 0 (by omega))
    have hb : ∀ j, j < len → (0 : Int) ≤ zs.getD j 0 ∧ zs.getD j 0 ≤ 255 := fun j hj => by
      have hj2 : j < zs.length := by omega
      have hw := hwf (zs.getD j 0) (by rw [List.getD_eq_getElem?_getD, List.getElem?_eq_getElem hj2]; exact List.getElem_mem hj2)
      simpa [Lit.wf, IntKind.min, IntKind.max, IntKind.bits, IntKind.signed] using hw
    have hN := takeN_len (fun j => (zs.getD j 0).toNat) len
    refine ⟨takeN (fun j => (zs.getD j 0).toNat) len, some ⟨b, off, spot⟩, cap, by rw [hN], by rw [hN]; exact hl, hm, ?_, fun h0 => ?_⟩
    · intro x hx
      obtain ⟨j, hj, rfl⟩ := List.getElem_of_mem hx
      rw [takeN_at]
      have := hb j (by omega)
      omega
    · rw [hN] at h0
      obtain rfl := hsp h0
      refine ⟨b, off, rfl, cell_block (hcell 0 (by omega)), fun j hj => ?_⟩
      rw [takeN_at]
      rw [hN] at hj
      have := hb j hj
      rw [show (((zs.getD j 0).toNat : Nat) : Int) = zs.getD j 0 by omega, ← add_plain]
      exact hcell j (by omega)
theorem open_byte {W : World} {base : Nat} {v : Value} {d : DataW H} {ps : List MemPlace} (hok : Value.okWide Tryd.prog W .any base 5 v) (h : DataW.Trod enc Tryd.prog W 0 (fun _ => true) true 5 v d ps) : ∃ k : Nat, v = .int .u8 (k : Int) ∧ k < 256 := by
  obtain ⟨a, rfl, _, _, hw⟩ := open_int Tryd.underlying5 hok h
  have h' : (0 : Int) ≤ a ∧ a ≤ 255 := by simpa [Lit.wf, IntKind.min, IntKind.max, IntKind.bits, IntKind.signed] using hw
  exact ⟨a.toNat, by rw [show ((a.toNat : Nat) : Int) = a by omega], by omega⟩
end
end Go.Proofs.YtcnojgkolpdomaaDoor
