/-
  The law's 'alive' (layer 10), over this seat's translation.
-/
import Derived.Test.YtijgdlanjhcabaaBox8I
import Derived.Test.YtijgdlanjhcabaaBox2S
namespace Go.Proofs.Ytijgdlanjhcabaa
open Go.RowKit Go.Lib Go.Conc
set_option maxRecDepth 100000
set_option linter.unusedVariables false

section
variable {w w' : World} {ba ca na bb cb nb : Nat}
theorem ch_not {L : List (Nat × BI.Vt)} {M : Nat → Bool} (H : BI.BxM w ba ca na L M) : ∀ a t fr, w.heap[ca]? ≠ some (.cells a t fr) := fun a t fr e => by obtain ⟨s, r, h⟩ := H.ch; rw [h] at e; cases e
theorem ch_notS {L : List (Nat × BS.Vt)} {M : Nat → Bool} (H : BS.BxM w ba ca na L M) : ∀ a t fr, w.heap[ca]? ≠ some (.cells a t fr) := fun a t fr e => by obtain ⟨s, r, h⟩ := H.ch; rw [h] at e; cases e
/-- Two boxes, of numbers and of texts, of which nothing was there at first. -/
structure TwoIS (W w : World) (ba ca na bb cb nb : Nat) (LA : List (Nat × Int)) (LB : List (Nat × ByteArray)) : Prop where
  a : BI.Bx w ba ca na LA
  b : BS.Bx w bb cb nb LB
  gw : W.grownBy w none
  ne : ca ≠ cb
  la : W.heap.size ≤ ca
  lb : W.heap.size ≤ cb
variable {W : World} {LA LA' : List (Nat × Int)} {LB LB' : List (Nat × ByteArray)}
theorem TwoIS.on_a (H : TwoIS W w ba ca na bb cb nb LA LB) (h : BI.Bx w' ba ca na LA') (k : Only ca (ca + 1) w w') : TwoIS W w' ba ca na bb cb nb LA' LB := ⟨h, H.b.only k H.ne (ch_not H.a), Only.on H.gw k H.la, H.ne, H.la, H.lb⟩
theorem TwoIS.on_b (H : TwoIS W w ba ca na bb cb nb LA LB) (h : BS.Bx w' bb cb nb LB') (k : Only cb (cb + 1) w w') : TwoIS W w' ba ca na bb cb nb LA LB' := ⟨H.a.only k H.ne.symm (ch_notS H.b), h, Only.on H.gw k H.lb, H.ne, H.la, H.lb⟩
theorem TwoIS.kept (H : TwoIS W w ba ca na bb cb nb LA LB) (k : w.grownBy w' none) : TwoIS W w' ba ca na bb cb nb LA LB := ⟨H.a.kept k, H.b.kept k, H.gw.trans k, H.ne, H.la, H.lb⟩
theorem len_zero {M : Nat → Bool} (H : BI.BxM w ba ca na [] M) : Calls Try.prog 13 #[.pointer (some ⟨ba, 0, none⟩)] w fun e w' => e = .returned (.int .i64 0) ∧ w = w' := BI.len_any H
theorem room_two {M : Nat → Bool} {L : List (Nat × BI.Vt)} (H : BI.BxM w ba ca 2 L M) : Calls Try.prog 14 #[.pointer (some ⟨ba, 0, none⟩)] w fun e w' => e = .returned (.int .i64 2) ∧ w = w' := BI.room_any H
end

set_option maxRecDepth 100000 in
set_option maxHeartbeats 8000000 in
theorem alive10 (w : World) : Calls Try.prog 7 #[] w fun e w' => e = .returned (.bool true) ∧ w.grownBy w' none := by
  have C1 := Lib.hid (BI.new_any 2 2 (by decide) w)
  go_enter Try.func7, Try.ntmps7
  go_wp2_with fail
  refine C1.out.mono ?_
  rintro e w1 ⟨rfl, h1, k1⟩
  have C2 := Lib.hid (BS.new_any 1 1 (by decide) w1)
  have H1 := Lib.hid h1
  have K1 := Lib.hid k1
  clear h1 k1 C1
  go_wp2_with fail
  refine C2.out.mono ?_
  rintro e w2 ⟨rfl, h2, k2⟩
  have H0 : Hid (TwoIS w w2 (w.heap.size + 1) w.heap.size 2 (w1.heap.size + 1) w1.heap.size 1 [] []) := Lib.hid ⟨H1.out.kept k2, h2, K1.out.trans k2, fun e => by have := H1.out.lt.2.1; omega, Nat.le_refl _, K1.out.size⟩
  clear h2 k2 C2 H1 K1
  generalize w.heap.size + 1 = ba at *
  generalize hca : w.heap.size = ca at *
  generalize w1.heap.size + 1 = bb at *
  generalize w1.heap.size = cb at *
  clear hca
  have f0 : ∀ (n : Nat), n = 0 → (Value.int .i64 (n : Int)) = .int .i64 0 := fun n h => by subst h; rfl
  go_wp2_with fail
  refine (BI.post_ok 7 H0.out.a (by simp)).mono ?_
  rintro e v1 ⟨rfl, h, k⟩
  have H1 := Lib.hid (H0.out.on_a h k)
  clear h k H0
  go_wp2_with fail
  refine (BI.post_ok 8 H1.out.a (by simp)).mono ?_
  rintro e v2 ⟨rfl, h, k⟩
  have H2 := Lib.hid (H1.out.on_a h k)
  clear h k H1
  go_wp2_with fail
  refine (BI.post_no 9 H2.out.a (by simp)).mono ?_
  rintro e v3 ⟨rfl, h, k⟩
  have H3 := Lib.hid (H2.out.kept k)
  clear h k H2
  go_wp2_with fail
  refine (BS.post_ok ⟨#[120]⟩ H3.out.b (by simp)).mono ?_
  rintro e v4 ⟨rfl, h, k⟩
  have H4 := Lib.hid (H3.out.on_b h k)
  clear h k H3
  go_wp2_with fail
  refine (BS.post_no ⟨#[121]⟩ H4.out.b (by simp)).mono ?_
  rintro e v5 ⟨rfl, h, k⟩
  have H5 := Lib.hid (H4.out.kept k)
  clear h k H4
  go_wp2_with fail
  refine (BI.fetch_some H5.out.a).mono ?_
  rintro e v6 ⟨rfl, h, k⟩
  have H6 := Lib.hid (H5.out.on_a h k)
  clear h k H5
  go_wp2_with fail
  refine (BS.fetch_some H6.out.b).mono ?_
  rintro e v7 ⟨rfl, h, k⟩
  have H7 := Lib.hid (H6.out.on_b h k)
  clear h k H6
  go_wp2_with fail
  refine (BS.fetch_none H7.out.b).mono ?_
  rintro e v8 ⟨rfl, h, k⟩
  have H8 := Lib.hid (H7.out.kept k)
  clear h k H7
  have C9 := Lib.hid (BI.new_any 1 1 (by decide) v8)
  go_wp2_with fail
  refine C9.out.mono ?_
  rintro e v9 ⟨rfl, h9, k9⟩
  have H9 := Lib.hid (H8.out.kept k9)
  have HN := Lib.hid h9
  clear h9 k9 C9 H8
  go_wp2_with fail
  refine (BI.either_second HN.out H9.out.a).mono ?_
  rintro e v10 ⟨rfl, h, k⟩
  have H10 := Lib.hid (H9.out.on_a h k)
  clear h k H9
  clear HN
  go_wp2_with fail
  refine (BI.either_none H10.out.a H10.out.a).mono ?_
  rintro e v11 ⟨rfl, k⟩
  have H11 := Lib.hid (H10.out.kept k)
  clear k H10
  simp only [BI.valOf, BS.valOf, BI.zeroV, BS.zeroV]
  go_wp2_with fail
  refine (len_zero H11.out.a).mono ?_
  rintro e v12 ⟨rfl, rfl⟩
  have H12 := H11
  clear H11
  go_wp2_with fail
  refine (room_two H12.out.a).mono ?_
  rintro e v13 ⟨rfl, rfl⟩
  have H13 := H12
  clear H12
  go_wp2
  go_ret
  exact ⟨rfl, H13.out.gw⟩
end Go.Proofs.Ytijgdlanjhcabaa
