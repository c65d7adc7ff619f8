/-
  Contracts of package ledger, over this seat's translation, for a book of texts: Take, Give, Used, Left, Limit.
-/
import Derived.Test.YtchookgdajkipaaLedOpsS
namespace Go.Proofs.Ytchookgdajkipaa.LS
open Go.RowKit Go.Lib
set_option maxRecDepth 100000

section
variable {w : World} {B bb n : Nat} {v : Value} {K : Nat → ByteArray} {M U : Nat → Int}

set_option maxHeartbeats 4000000 in
theorem used_in (key : ByteArray) (p : Nat) (H : Bk w B bb v n K M U) (hp : Known K n key p) :
    Calls Try.prog 15 #[.pointer (some ⟨bb, 0, none⟩), kv key] w fun e w' => e = .returned (.int .i64 (U p)) ∧ w.grownBy w' none := by
  have C := Lib.hid (find_in key p H hp)
  have hpn := hp.1
  have q1 : (p : Int) < (n : Int) := by omega
  have HH := Lib.hid H
  clear H hp
  unfold kv at *
  go_enter Try.func15, Try.ntmps15
  go_wp2_with fail
  refine C.out.mono ?_
  rintro e w1 ⟨rfl, k1⟩
  have H1 := HH.out.kept k1
  obtain ⟨r, cap, rfl, hne, hB, hlt, hc⟩ := H1.row (by omega)
  obtain ⟨c1, c2, c3, hf⟩ := hc p hpn
  have c0 := H1.c0
  clear H1 hc
  go_wp2
  go_ret
  exact ⟨rfl, k1⟩
set_option maxHeartbeats 4000000 in
theorem used_no (key : ByteArray) (H : Bk w B bb v n K M U) (hp : ∀ p, p < n → keq (K p) key = false) :
    Calls Try.prog 15 #[.pointer (some ⟨bb, 0, none⟩), kv key] w fun e w' => e = .returned (.int .i64 0) ∧ w.grownBy w' none := by
  have C := Lib.hid (find_no key H hp)
  clear H hp
  unfold kv at *
  go_enter Try.func15, Try.ntmps15
  go_wp2_with fail
  refine C.out.mono ?_
  rintro e w1 ⟨i, rfl, k1, _⟩
  go_wp2
  go_ret
  exact ⟨rfl, k1⟩
set_option maxHeartbeats 4000000 in
theorem left_in (key : ByteArray) (p : Nat) (H : Bk w B bb v n K M U) (hp : Known K n key p) :
    Calls Try.prog 17 #[.pointer (some ⟨bb, 0, none⟩), kv key] w fun e w' => e = .returned (.int .i64 (max (M p - U p) 0)) ∧ w.grownBy w' none := by
  have C := Lib.hid (find_in key p H hp)
  have hpn := hp.1
  have q1 : (p : Int) < (n : Int) := by omega
  obtain ⟨b1, b2, b3, b4⟩ := H.bd p hp.1
  have HH := Lib.hid H
  clear H hp
  unfold kv at *
  go_enter Try.func17, Try.ntmps17
  go_wp2_with fail
  refine C.out.mono ?_
  rintro e w1 ⟨rfl, k1⟩
  have H1 := HH.out.kept k1
  obtain ⟨r, cap, rfl, hne, hB, hlt, hc⟩ := H1.row (by omega)
  obtain ⟨c1, c2, c3, hf⟩ := hc p hpn
  have c0 := H1.c0
  clear H1 hc C
  generalize hM : M p = m at *
  generalize hU : U p = u at *
  have hM' := Lib.hid hM
  have hU' := Lib.hid hU
  clear hM hU
  go_wp2_with fail
  go_quiet (fail)
  go_wp2
  all_goals
    go_ret
    exact ⟨ret_i (by have := hM'.out; have := hU'.out; omega), k1.trans ⟨rfl, rfl, rfl, Nat.le_refl _, fun _ _ _ => rfl⟩⟩
set_option maxHeartbeats 4000000 in
theorem left_no (key : ByteArray) (H : Bk w B bb v n K M U) (hp : ∀ p, p < n → keq (K p) key = false) :
    Calls Try.prog 17 #[.pointer (some ⟨bb, 0, none⟩), kv key] w fun e w' => e = .returned (.int .i64 0) ∧ w.grownBy w' none := by
  have C := Lib.hid (find_no key H hp)
  clear H hp
  unfold kv at *
  go_enter Try.func17, Try.ntmps17
  go_wp2_with fail
  refine C.out.mono ?_
  rintro e w1 ⟨i, rfl, k1, _⟩
  go_wp2
  go_ret
  exact ⟨rfl, k1⟩

set_option maxHeartbeats 4000000 in
theorem take_ok (key : ByteArray) (p : Nat) (x : Int) (H : Bk w B bb v n K M U) (hp : Known K n key p) (h0 : 0 ≤ x) (h1 : x ≤ M p - U p) :
    Calls Try.prog 12 #[.pointer (some ⟨bb, 0, none⟩), kv key, .int .i64 x] w fun e w' => e = .returned (.bool true) ∧ Off bb v.ownBlock w w' ∧ Bk w' B bb v n K M (upd U p (U p + x)) := by
  have C := Lib.hid (find_in key p H hp)
  have hpn := hp.1
  have q1 : (p : Int) < (n : Int) := by omega
  obtain ⟨b1, b2, b3, b4⟩ := H.bd p hp.1
  have HH := Lib.hid H
  clear H hp
  unfold kv at *
  go_enter Try.func12, Try.ntmps12
  go_wp2_with fail
  refine C.out.mono ?_
  rintro e w1 ⟨rfl, k1⟩
  have HG : Hid (∀ m, Bk (w1.drewN m) B bb v n K M U) := Lib.hid fun m => HH.out.kept (k1.trans ⟨rfl, rfl, rfl, Nat.le_refl _, fun _ _ _ => rfl⟩)
  have H1 := HH.out.kept k1
  obtain ⟨r, cap, rfl, hne, hB, hlt, hc⟩ := H1.row (by omega)
  obtain ⟨c1, c2, c3, hf⟩ := hc p hpn
  have c0 := H1.c0
  have f3 := hf (p * 3 + 2)
  have HU : Hid (0 ≤ U p + x ∧ U p + x < 9223372036854775808) := Lib.hid (by omega)
  have hux : U p + x < 9223372036854775808 := by omega
  have hxx : ¬ (M p - U p < x) := by omega
  have HX : Hid (Bk w1 B bb (.slice (some ⟨r, 0, none⟩) n cap) n K M U) := Lib.hid H1
  clear H1 hc hf C
  generalize hM : M p = m at *
  generalize hU : U p = u at *
  have hM' := Lib.hid hM
  have hU' := Lib.hid hU
  clear hM hU
  have hw : IntKind.i64.wrap (m - u) = m - u := by rw [IntKind.wrap_i64]; omega
  have hx0 : ¬ x < 0 := by omega
  have hd1 : decide (x < 0) = false := by simpa using hx0
  have hd2 : decide (m - u < x) = false := by simp; omega
  go_wp2_with fail
  go_quiet (fail)
  go_wp2
  go_ret
  have kd : w1.grownBy (w1.drewN nq) none := ⟨rfl, rfl, rfl, Nat.le_refl _, fun _ _ _ => rfl⟩
  refine ⟨rfl, (Off.of_none (k1.trans kd)).trans (Off.setRow _ _ _), ?_⟩
  rw [hU'.out]
  exact (HX.out.kept kd).setU p hpn (u + x) HU.out
set_option maxHeartbeats 4000000 in
theorem take_no (key : ByteArray) (p : Nat) (x : Int) (H : Bk w B bb v n K M U) (hp : Known K n key p) (h1 : x < 0 ∨ M p - U p < x) :
    Calls Try.prog 12 #[.pointer (some ⟨bb, 0, none⟩), kv key, .int .i64 x] w fun e w' => e = .returned (.bool false) ∧ w.grownBy w' none := by
  have C := Lib.hid (find_in key p H hp)
  have hpn := hp.1
  have q1 : (p : Int) < (n : Int) := by omega
  obtain ⟨b1, b2, b3, b4⟩ := H.bd p hp.1
  have HH := Lib.hid H
  clear H hp
  unfold kv at *
  go_enter Try.func12, Try.ntmps12
  go_wp2_with fail
  refine C.out.mono ?_
  rintro e w1 ⟨rfl, k1⟩
  have H1 := HH.out.kept k1
  obtain ⟨r, cap, rfl, hne, hB, hlt, hc⟩ := H1.row (by omega)
  obtain ⟨c1, c2, c3, hf⟩ := hc p hpn
  have c0 := H1.c0
  clear H1 hc hf C
  generalize M p = m at *
  generalize U p = u at *
  have hw : IntKind.i64.wrap (m - u) = m - u := by rw [IntKind.wrap_i64]; omega
  by_cases hx : x < 0
  · have hd1 : decide (x < 0) = true := by simpa using hx
    go_wp2_with fail
    go_quiet (fail)
    go_wp2
    go_ret
    exact ⟨rfl, k1.trans ⟨rfl, rfl, rfl, Nat.le_refl _, fun _ _ _ => rfl⟩⟩
  · have hd1 : decide (m - u < x) = true := by simp; omega
    have hd2 : decide (x < 0) = false := by simpa using hx
    go_wp2_with fail
    go_quiet (fail)
    go_wp2
    go_ret
    exact ⟨rfl, k1.trans ⟨rfl, rfl, rfl, Nat.le_refl _, fun _ _ _ => rfl⟩⟩
set_option maxHeartbeats 4000000 in
theorem take_un (key : ByteArray) (x : Int) (H : Bk w B bb v n K M U) (hp : ∀ p, p < n → keq (K p) key = false) :
    Calls Try.prog 12 #[.pointer (some ⟨bb, 0, none⟩), kv key, .int .i64 x] w fun e w' => e = .returned (.bool false) ∧ w.grownBy w' none := by
  have C := Lib.hid (find_no key H hp)
  clear H hp
  unfold kv at *
  go_enter Try.func12, Try.ntmps12
  go_wp2_with fail
  refine C.out.mono ?_
  rintro e w1 ⟨i, rfl, k1, _⟩
  go_wp2_with fail
  go_quiet (fail)
  go_wp2
  go_ret
  exact ⟨rfl, k1.trans ⟨rfl, rfl, rfl, Nat.le_refl _, fun _ _ _ => rfl⟩⟩

set_option maxHeartbeats 4000000 in
theorem give_ok (key : ByteArray) (p : Nat) (x : Int) (H : Bk w B bb v n K M U) (hp : Known K n key p) (h0 : 0 ≤ x) (h1 : x ≤ U p) :
    Calls Try.prog 14 #[.pointer (some ⟨bb, 0, none⟩), kv key, .int .i64 x] w fun e w' => e = .returned (.bool true) ∧ Off bb v.ownBlock w w' ∧ Bk w' B bb v n K M (upd U p (U p - x)) := by
  have C := Lib.hid (find_in key p H hp)
  have hpn := hp.1
  have q1 : (p : Int) < (n : Int) := by omega
  obtain ⟨b1, b2, b3, b4⟩ := H.bd p hp.1
  have HH := Lib.hid H
  clear H hp
  unfold kv at *
  go_enter Try.func14, Try.ntmps14
  go_wp2_with fail
  refine C.out.mono ?_
  rintro e w1 ⟨rfl, k1⟩
  have H1 := HH.out.kept k1
  obtain ⟨r, cap, rfl, hne, hB, hlt, hc⟩ := H1.row (by omega)
  obtain ⟨c1, c2, c3, hf⟩ := hc p hpn
  have c0 := H1.c0
  have f3 := hf (p * 3 + 2)
  have HU : Hid (0 ≤ U p - x ∧ U p - x < 9223372036854775808) := Lib.hid (by omega)
  have hxx : ¬ (U p < x) := by omega
  have HX : Hid (Bk w1 B bb (.slice (some ⟨r, 0, none⟩) n cap) n K M U) := Lib.hid H1
  clear H1 hc hf C
  generalize hU : U p = u at *
  have hU' := Lib.hid hU
  clear hU
  go_wp2
  go_ret
  refine ⟨rfl, (Off.of_none k1).trans (Off.setRow _ _ _), ?_⟩
  rw [hU'.out]
  exact HX.out.setU p hpn (u - x) HU.out
set_option maxHeartbeats 4000000 in
theorem give_no (key : ByteArray) (p : Nat) (x : Int) (H : Bk w B bb v n K M U) (hp : Known K n key p) (h1 : x < 0 ∨ U p < x) :
    Calls Try.prog 14 #[.pointer (some ⟨bb, 0, none⟩), kv key, .int .i64 x] w fun e w' => e = .returned (.bool false) ∧ w.grownBy w' none := by
  have C := Lib.hid (find_in key p H hp)
  have hpn := hp.1
  have q1 : (p : Int) < (n : Int) := by omega
  have HH := Lib.hid H
  clear H hp
  unfold kv at *
  go_enter Try.func14, Try.ntmps14
  go_wp2_with fail
  refine C.out.mono ?_
  rintro e w1 ⟨rfl, k1⟩
  have H1 := HH.out.kept k1
  obtain ⟨r, cap, rfl, hne, hB, hlt, hc⟩ := H1.row (by omega)
  obtain ⟨c1, c2, c3, hf⟩ := hc p hpn
  have c0 := H1.c0
  clear H1 hc hf C
  generalize U p = u at *
  by_cases hx : x < 0
  · go_wp2
    go_ret
    exact ⟨rfl, k1⟩
  · have hxx : u < x := by omega
    go_wp2
    go_ret
    exact ⟨rfl, k1⟩
set_option maxHeartbeats 4000000 in
theorem give_un (key : ByteArray) (x : Int) (H : Bk w B bb v n K M U) (hp : ∀ p, p < n → keq (K p) key = false) :
    Calls Try.prog 14 #[.pointer (some ⟨bb, 0, none⟩), kv key, .int .i64 x] w fun e w' => e = .returned (.bool false) ∧ w.grownBy w' none := by
  have C := Lib.hid (find_no key H hp)
  clear H hp
  unfold kv at *
  go_enter Try.func14, Try.ntmps14
  go_wp2_with fail
  refine C.out.mono ?_
  rintro e w1 ⟨i, rfl, k1, _⟩
  go_wp2
  go_ret
  exact ⟨rfl, k1⟩
set_option maxHeartbeats 4000000 in
theorem limit_old (key : ByteArray) (p : Nat) (x : Int) (H : Bk w B bb v n K M U) (hp : Known K n key p) (hx : x < 9223372036854775808) :
    Calls Try.prog 9 #[.pointer (some ⟨bb, 0, none⟩), kv key, .int .i64 x] w fun e w' => (∃ y, e = .returned y) ∧ Off bb v.ownBlock w w' ∧ Bk w' B bb v n K (upd M p (max x 0)) U := by
  have C := Lib.hid (find_in key p H hp)
  have hpn := hp.1
  have q1 : (p : Int) < (n : Int) := by omega
  have HH := Lib.hid H
  clear H hp
  unfold kv at *
  go_enter Try.func9, Try.ntmps9
  go_wp2_with fail
  refine C.out.mono ?_
  rintro e w1 ⟨rfl, k1⟩
  have H1 := HH.out.kept k1
  obtain ⟨r, cap, rfl, hne, hB, hlt, hc⟩ := H1.row (by omega)
  obtain ⟨c1, c2, c3, hf⟩ := hc p hpn
  have c0 := H1.c0
  have f3 := hf (p * 3 + 1)
  have HX : Hid (Bk w1 B bb (.slice (some ⟨r, 0, none⟩) n cap) n K M U) := Lib.hid H1
  clear H1 hc hf C
  by_cases h0 : x < 0
  · have EM : Hid (max x 0 = 0) := Lib.hid (by omega)
    go_wp2
    go_end0
    rw [EM.out]
    exact ⟨⟨_, rfl⟩, (Off.of_none k1).trans (Off.setRow _ _ _), HX.out.setM p hpn 0 (by omega)⟩
  · have EM : Hid (max x 0 = x) := Lib.hid (by omega)
    go_wp2
    go_end0
    rw [EM.out]
    exact ⟨⟨_, rfl⟩, (Off.of_none k1).trans (Off.setRow _ _ _), HX.out.setM p hpn x (by omega)⟩
end
end Go.Proofs.Ytchookgdajkipaa.LS
