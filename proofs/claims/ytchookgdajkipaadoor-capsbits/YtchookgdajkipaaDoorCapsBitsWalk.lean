/-
  The walk of CapsBits, over this seat's translation: for every place, generation, rights and bits it answers true, and leaves all that was as it was.
-/
import Derived.Test.YtchookgdajkipaaDoorAlive5
namespace Go.Proofs.YtchookgdajkipaaDoor
open Go.RowKit Go.Lib
set_option maxRecDepth 100000

theorem and24 (r : Int) : bits .and .i64 r 16777215 = r % 16777216 := by
  have := i64_mask 24 (by decide) r
  simpa using this

set_option maxHeartbeats 1000000 in
theorem rbits_any (p g r : Nat) (w : World) (hp : p < 65536) (hg : g < 1099511627776) (hr : r < 256) :
    Calls Tryd.prog 31 #[.int .i64 p, .int .i64 g, .int .i64 r] w fun e w' => e = .returned (.int .u64 (hbits p g r : Nat)) ∧ w = w' := by
  have h1 : (g : Int) * 16777216 < 18446744073709551616 := by omega
  have h2 : (g : Int) * 16777216 + (p : Int) * 256 < 18446744073709551616 := by omega
  have h3 : (g : Int) * 16777216 + (p : Int) * 256 + (r : Int) < 18446744073709551616 := by omega
  go_enter Tryd.func31, Tryd.ntmps31
  go_wp2
  go_ret
  exact ⟨ret_int (by simp [hbits]), rfl⟩

theorem hbits_back (h : Nat) : hbits (h / 256 % 65536) (h / 16777216) (h % 256) = h := by unfold hbits; omega

set_option maxRecDepth 100000 in
set_option maxHeartbeats 4000000 in
theorem bits5_walk (slot gen rights : Int) (h : Nat) (w : World) (hT : TabAt w) (hh : h < 18446744073709551616) :
    Calls Tryd.prog 7 #[.int .i64 slot, .int .i64 gen, .int .i64 rights, .int .u64 h] w fun e w' => e = .returned (.bool true) ∧ w.grownBy w' none := by
  have C0 := Lib.hid (alive5 w hT)
  clear hT
  have m1 : bits .and .i64 slot 65535 = ((slot % 65536).toNat : Nat) := by rw [and65535]; omega
  have m2 : bits .and .i64 gen 16777215 = ((gen % 16777216).toNat : Nat) := by rw [and24]; omega
  have m3 : bits .and .i64 rights 255 = ((rights % 256).toNat : Nat) := by rw [and255]; omega
  have l1 : (slot % 65536).toNat < 65536 := by omega
  have l2 : (gen % 16777216).toNat < 16777216 := by omega
  have l3 : (rights % 256).toNat < 256 := by omega
  generalize (slot % 65536).toNat = p at *
  generalize (gen % 16777216).toNat = g at *
  generalize (rights % 256).toNat = r at *
  have C1 : Hid (∀ v, Calls Tryd.prog 29 #[.int .i64 p, .int .i64 g, .int .i64 r] v _) := Lib.hid fun v => pack_any p g r v l1 (by omega) l3
  have C2 : Hid (∀ v, Calls Tryd.prog 31 #[.int .i64 p, .int .i64 g, .int .i64 r] v _) := Lib.hid fun v => rbits_any p g r v l1 (by omega) l3
  have C3 : Hid (∀ v : World, Calls Tryd.prog 30 #[.int .u64 (hbits p g r : Nat)] v fun e w' => e = .returned (.tuple #[.int .i64 p, .int .u64 g, .int .i64 r]) ∧ v = w') := Lib.hid fun v => by
    have := parts_any (hbits p g r) v (hbits_lt p g r l1 (by omega) l3)
    rwa [hbits_slot p g r l1 l3, hbits_gen p g r l1 l3, hbits_rights p g r l3] at this
  generalize hbits p g r = x at *
  have C4 : Hid (∀ v : World, Calls Tryd.prog 30 #[.int .u64 h] v fun e w' => e = .returned (.tuple #[.int .i64 (h / 256 % 65536 : Nat), .int .u64 (h / 16777216 : Nat), .int .i64 (h % 256 : Nat)]) ∧ v = w') := Lib.hid fun v => parts_any h v hh
  have C5 : Hid (∀ v : World, Calls Tryd.prog 29 #[.int .i64 (h / 256 % 65536 : Nat), .int .i64 (h / 16777216 : Nat), .int .i64 (h % 256 : Nat)] v fun e w' => e = .returned (.int .u64 h) ∧ v = w') := Lib.hid fun v => by
    have := pack_any (h / 256 % 65536) (h / 16777216) (h % 256) v (by omega) (by omega) (by omega)
    rwa [hbits_back] at this
  have e1 : (h : Int) / 16777216 = ((h / 16777216 : Nat) : Int) := by simp
  have n1 : h / 256 % 65536 < 65536 := by omega
  have n2 : h % 256 < 256 := by omega
  have n3 : h / 16777216 < 1099511627776 := by omega
  generalize h / 256 % 65536 = a at *
  generalize h / 16777216 = b at *
  generalize h % 256 = c at *
  by_cases hb : b ≤ 16777215
  · go_enter Tryd.func7, Tryd.ntmps7
    go_wp2_with fail
    refine C0.out.mono ?_
    rintro e w1 ⟨rfl, k1⟩
    go_wp2_with fail
    refine (C1.out _).mono ?_
    rintro e w' ⟨rfl, rfl⟩
    go_wp2_with fail
    refine (C3.out _).mono ?_
    rintro e w' ⟨rfl, rfl⟩
    go_wp2_with fail
    refine (C2.out _).mono ?_
    rintro e w' ⟨rfl, rfl⟩
    go_wp2_with fail
    refine (C4.out _).mono ?_
    rintro e w' ⟨rfl, rfl⟩
    go_wp2_with fail
    refine (C5.out _).mono ?_
    rintro e w' ⟨rfl, rfl⟩
    go_wp2
    go_ret
    exact ⟨rfl, k1⟩
  · go_enter Tryd.func7, Tryd.ntmps7
    go_wp2_with fail
    refine C0.out.mono ?_
    rintro e w1 ⟨rfl, k1⟩
    go_wp2_with fail
    refine (C1.out _).mono ?_
    rintro e w' ⟨rfl, rfl⟩
    go_wp2_with fail
    refine (C3.out _).mono ?_
    rintro e w' ⟨rfl, rfl⟩
    go_wp2_with fail
    refine (C2.out _).mono ?_
    rintro e w' ⟨rfl, rfl⟩
    go_wp2_with fail
    refine (C4.out _).mono ?_
    rintro e w' ⟨rfl, rfl⟩
    go_wp2
    go_ret
    exact ⟨rfl, k1⟩
end Go.Proofs.YtchookgdajkipaaDoor
