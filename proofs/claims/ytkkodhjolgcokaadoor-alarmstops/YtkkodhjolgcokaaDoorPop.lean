/-
  Plain facts: counting the bits of a 64-bit word by halves, quarters and bytes gives how many of its bits are set. No program is run here.
-/
import Derived.Laws.BitsLemmas
import Derived.Laws.BitsAllLaws
import Derived.Laws.Bits128
import Derived.WalkArith
import Derived.RowKit
import Derived.Laws.Bits64b
namespace Go.Proofs.YtkkodhjolgcokaaDoor

/-- How many numbers below n are in P. -/
def cnt (P : Nat → Bool) : Nat → Nat
  | 0 => 0
  | n + 1 => cnt P n + (P n).toNat

theorem cnt_congr {P Q : Nat → Bool} : ∀ {n : Nat}, (∀ i, i < n → P i = Q i) → cnt P n = cnt Q n
  | 0, _ => rfl
  | n + 1, h => by rw [cnt, cnt, cnt_congr (fun i hi => h i (by omega)), h n (by omega)]
theorem cnt_add (P : Nat → Bool) (a : Nat) : ∀ b : Nat, cnt P (a + b) = cnt P a + cnt (fun i => P (a + i)) b
  | 0 => rfl
  | b + 1 => by
    show cnt P (a + b) + (P (a + b)).toNat = _
    rw [cnt_add P a b, cnt, Nat.add_assoc]
theorem cnt_le (P : Nat → Bool) : ∀ n : Nat, cnt P n ≤ n
  | 0 => Nat.le_refl _
  | n + 1 => by
    have := cnt_le P n
    have h : (P n).toNat ≤ 1 := by cases P n <;> decide
    rw [cnt]; omega

def rep (c : Nat) : Nat → Nat
  | 0 => 0
  | n + 1 => c + 256 * rep c n

theorem and_split (a c r : Nat) (hc : c < 256) : a &&& (c + 256 * r) = ((a % 256) &&& c) + 256 * ((a / 256) &&& r) := by
  have h1 : (a &&& (c + 256 * r)) % 2 ^ 8 = (a % 2 ^ 8) &&& ((c + 256 * r) % 2 ^ 8) := Nat.and_mod_two_pow
  have h2 : (a &&& (c + 256 * r)) / 2 ^ 8 = (a / 2 ^ 8) &&& ((c + 256 * r) / 2 ^ 8) := Nat.and_div_two_pow
  rw [show (c + 256 * r) % 2 ^ 8 = c by omega] at h1
  rw [show (c + 256 * r) / 2 ^ 8 = r by omega] at h2
  have h3 := Nat.div_add_mod (a &&& (c + 256 * r)) (2 ^ 8)
  rw [h1, h2] at h3
  rw [← h3]
  show 256 * (a / 256 &&& r) + (a % 256 &&& c) = _
  omega

def f1 (b : Nat) : Nat := (b / 2 &&& 85) + (b &&& 85)
def f2 (b : Nat) : Nat := (b / 4 &&& 51) + (b &&& 51)
def s1 (n x : Nat) : Nat := (x / 2 &&& rep 85 n) + (x &&& rep 85 n)
def s2 (n x : Nat) : Nat := (x / 4 &&& rep 51 n) + (x &&& rep 51 n)
def s3 (n x : Nat) : Nat := (x / 16 + x) &&& rep 15 n

theorem low1 : ∀ b : Fin 256, ∀ c : Fin 2, (b.val / 2 + 128 * c.val) &&& 85 = b.val / 2 &&& 85 := by decide +kernel
theorem low2 : ∀ b : Fin 256, ∀ c : Fin 4, (b.val / 4 + 64 * c.val) &&& 51 = b.val / 4 &&& 51 := by decide +kernel
theorem f1_lt : ∀ b : Fin 256, f1 b.val < 256 := by decide +kernel
theorem f2_le : ∀ b : Fin 256, f2 (f1 b.val) ≤ 68 ∧ f2 (f1 b.val) % 16 ≤ 4 := by decide +kernel
def p8 (b : Nat) : Nat := (f2 (f1 b) / 16 + f2 (f1 b)) % 16
theorem p8_cnt : ∀ b : Fin 256, p8 b.val = cnt (fun i => b.val.testBit i) 8 := by decide +kernel

theorem s1_succ (n x : Nat) : s1 (n + 1) x = f1 (x % 256) + 256 * s1 n (x / 256) := by
  unfold s1 f1
  rw [rep, and_split _ 85 _ (by decide), and_split _ 85 _ (by decide)]
  have h := low1 ⟨x % 256, Nat.mod_lt _ (by decide)⟩ ⟨x / 256 % 2, Nat.mod_lt _ (by decide)⟩
  simp only at h
  rw [show x / 2 % 256 = x % 256 / 2 + 128 * (x / 256 % 2) by omega, h, show x / 2 / 256 = x / 256 / 2 by omega]
  omega
theorem s2_succ (n x : Nat) : s2 (n + 1) x = f2 (x % 256) + 256 * s2 n (x / 256) := by
  unfold s2 f2
  rw [rep, and_split _ 51 _ (by decide), and_split _ 51 _ (by decide)]
  have h := low2 ⟨x % 256, Nat.mod_lt _ (by decide)⟩ ⟨x / 256 % 4, Nat.mod_lt _ (by decide)⟩
  simp only at h
  rw [show x / 4 % 256 = x % 256 / 4 + 64 * (x / 256 % 4) by omega, h, show x / 4 / 256 = x / 256 / 4 by omega]
  omega
theorem s3_succ (n lo hi : Nat) (h1 : lo ≤ 68) (h2 : hi % 16 ≤ 4) : s3 (n + 1) (lo + 256 * hi) = (lo / 16 + lo) % 16 + 256 * s3 n hi := by
  unfold s3
  have e : (lo + 256 * hi) / 16 + (lo + 256 * hi) = (lo / 16 + lo + 16 * (hi % 16)) + 256 * (hi / 16 + hi) := by omega
  rw [e, rep, and_split _ 15 _ (by decide)]
  rw [show ((lo / 16 + lo + 16 * (hi % 16)) + 256 * (hi / 16 + hi)) % 256 = lo / 16 + lo + 16 * (hi % 16) by omega,
    show ((lo / 16 + lo + 16 * (hi % 16)) + 256 * (hi / 16 + hi)) / 256 = hi / 16 + hi by omega]
  have h15 : (lo / 16 + lo + 16 * (hi % 16)) &&& 15 = (lo / 16 + lo + 16 * (hi % 16)) % 16 := Nat.and_two_pow_sub_one_eq_mod _ 4
  rw [h15]
  omega

theorem s12_low (n x : Nat) : s2 n (s1 n x) % 16 ≤ 4 := by
  cases n with
  | zero => simp [s2, rep]
  | succ n =>
    have hb := f1_lt ⟨x % 256, Nat.mod_lt _ (by decide)⟩
    have hc := (f2_le ⟨x % 256, Nat.mod_lt _ (by decide)⟩).2
    simp only at hb hc
    rw [s1_succ, s2_succ, show (f1 (x % 256) + 256 * s1 n (x / 256)) % 256 = f1 (x % 256) by omega]
    omega

def swar (n x : Nat) : Nat := s3 n (s2 n (s1 n x))
theorem swar_succ (n x : Nat) : swar (n + 1) x = p8 (x % 256) + 256 * swar n (x / 256) := by
  have hb := f1_lt ⟨x % 256, Nat.mod_lt _ (by decide)⟩
  have hc := (f2_le ⟨x % 256, Nat.mod_lt _ (by decide)⟩).1
  simp only at hb hc
  unfold swar p8
  rw [s1_succ, s2_succ, show (f1 (x % 256) + 256 * s1 n (x / 256)) % 256 = f1 (x % 256) by omega,
    show (f1 (x % 256) + 256 * s1 n (x / 256)) / 256 = s1 n (x / 256) by omega, s3_succ _ _ _ hc (s12_low n _)]

theorem p8_byte (x : Nat) : p8 (x % 256) = cnt (fun i => x.testBit i) 8 ∧ p8 (x % 256) ≤ 8 := by
  have h := p8_cnt ⟨x % 256, Nat.mod_lt _ (by decide)⟩
  simp only at h
  have e : cnt (fun i => (x % 256).testBit i) 8 = cnt (fun i => x.testBit i) 8 := by
    refine cnt_congr fun i hi => ?_
    rw [show 256 = 2 ^ 8 from rfl, Nat.testBit_mod_two_pow]
    simp [hi]
  exact ⟨h.trans e, by rw [h]; exact cnt_le _ 8⟩
theorem cnt_bytes (x n : Nat) : cnt (fun i => x.testBit i) (8 * (n + 1)) = cnt (fun i => x.testBit i) 8 + cnt (fun i => (x / 256).testBit i) (8 * n) := by
  rw [show 8 * (n + 1) = 8 + 8 * n by omega, cnt_add]
  congr 1
  refine cnt_congr fun i _ => ?_
  rw [show 256 = 2 ^ 8 from rfl, Nat.testBit_div_two_pow, Nat.add_comm]

theorem swar_cnt (x : Nat) : ∃ p0 p1 p2 p3 p4 p5 p6 p7 : Nat, p0 ≤ 8 ∧ p1 ≤ 8 ∧ p2 ≤ 8 ∧ p3 ≤ 8 ∧ p4 ≤ 8 ∧ p5 ≤ 8 ∧ p6 ≤ 8 ∧ p7 ≤ 8 ∧
    swar 8 x = p0 + 256 * (p1 + 256 * (p2 + 256 * (p3 + 256 * (p4 + 256 * (p5 + 256 * (p6 + 256 * p7)))))) ∧
    cnt (fun i => x.testBit i) 64 = p0 + p1 + p2 + p3 + p4 + p5 + p6 + p7 := by
  refine ⟨_, _, _, _, _, _, _, _, (p8_byte x).2, (p8_byte (x / 256)).2, (p8_byte (x / 256 / 256)).2, (p8_byte (x / 256 / 256 / 256)).2, (p8_byte (x / 256 / 256 / 256 / 256)).2,
    (p8_byte (x / 256 / 256 / 256 / 256 / 256)).2, (p8_byte (x / 256 / 256 / 256 / 256 / 256 / 256)).2, (p8_byte (x / 256 / 256 / 256 / 256 / 256 / 256 / 256)).2, ?_, ?_⟩
  · rw [swar_succ, swar_succ, swar_succ, swar_succ, swar_succ, swar_succ, swar_succ, swar_succ]
    simp [swar, s3, rep]
  · rw [show 64 = 8 * (7 + 1) from rfl, cnt_bytes, cnt_bytes, cnt_bytes, cnt_bytes, cnt_bytes, cnt_bytes, cnt_bytes, cnt_bytes, show ∀ y : Nat, cnt (fun i => y.testBit i) (8 * 0) = 0 from fun _ => rfl]
    simp only [(p8_byte _).1]
    omega

theorem swar_fold (x : Nat) :
    swar 8 x + swar 8 x / 256 + (swar 8 x + swar 8 x / 256) / 65536 + (swar 8 x + swar 8 x / 256 + (swar 8 x + swar 8 x / 256) / 65536) / 4294967296 < 9223372036854775808 ∧
    (swar 8 x + swar 8 x / 256 + (swar 8 x + swar 8 x / 256) / 65536 + (swar 8 x + swar 8 x / 256 + (swar 8 x + swar 8 x / 256) / 65536) / 4294967296) % 128 = cnt (fun i => x.testBit i) 64 := by
  obtain ⟨p0, p1, p2, p3, p4, p5, p6, p7, h0, h1, h2, h3, h4, h5, h6, h7, hs, hc⟩ := swar_cnt x
  rw [hc]
  generalize swar 8 x = s at *
  have e1 : s + s / 256 = (p0 + p1) + 256 * ((p1 + p2) + 256 * ((p2 + p3) + 256 * ((p3 + p4) + 256 * ((p4 + p5) + 256 * ((p5 + p6) + 256 * ((p6 + p7) + 256 * p7)))))) := by omega
  rw [e1]
  generalize s + s / 256 = t at *
  clear hs
  have e2 : (p0 + p1) + 256 * ((p1 + p2) + 256 * ((p2 + p3) + 256 * ((p3 + p4) + 256 * ((p4 + p5) + 256 * ((p5 + p6) + 256 * ((p6 + p7) + 256 * p7)))))) + ((p0 + p1) + 256 * ((p1 + p2) + 256 * ((p2 + p3) + 256 * ((p3 + p4) + 256 * ((p4 + p5) + 256 * ((p5 + p6) + 256 * ((p6 + p7) + 256 * p7))))))) / 65536 =
      (p0 + p1 + p2 + p3) + 256 * ((p1 + p2 + p3 + p4) + 256 * ((p2 + p3 + p4 + p5) + 256 * ((p3 + p4 + p5 + p6) + 256 * ((p4 + p5 + p6 + p7) + 256 * ((p5 + p6 + p7) + 256 * ((p6 + p7) + 256 * p7)))))) := by omega
  rw [e2]
  clear e1 e2
  have e3 : ((p0 + p1 + p2 + p3) + 256 * ((p1 + p2 + p3 + p4) + 256 * ((p2 + p3 + p4 + p5) + 256 * ((p3 + p4 + p5 + p6) + 256 * ((p4 + p5 + p6 + p7) + 256 * ((p5 + p6 + p7) + 256 * ((p6 + p7) + 256 * p7))))))) / 4294967296 =
      (p4 + p5 + p6 + p7) + 256 * ((p5 + p6 + p7) + 256 * ((p6 + p7) + 256 * p7)) := by omega
  rw [e3]
  clear e3
  constructor <;> omega

/-! The walk's numbers, folded from the inside out. -/
theorem and_le_right (a b : Nat) : a &&& b ≤ b := Nat.and_le_right
theorem wrapN' (a : Nat) (ha : a < 18446744073709551616) : IntKind.u64.wrap (a : Int) = (a : Int) := by rw [IntKind.wrap_u64]; omega
theorem fold1 (x : Nat) (hx : x < 18446744073709551616) :
    IntKind.u64.wrap (bits .and .u64 ((x : Int) / 2) 6148914691236517205 + bits .and .u64 (x : Int) 6148914691236517205) = (s1 8 x : Int) := by
  have h1 := bits_and_u64_nat (x / 2) 6148914691236517205 (by omega) (by omega)
  have h2 := bits_and_u64_nat x 6148914691236517205 (by omega) (by omega)
  have e0 : (x : Int) / 2 = ((x / 2 : Nat) : Int) := by omega
  have b1 := and_le_right (x / 2) 6148914691236517205
  have b2 := and_le_right x 6148914691236517205
  rw [e0]
  rw [show ((6148914691236517205 : Nat) : Int) = (6148914691236517205 : Int) from rfl] at h1 h2
  rw [h1, h2, ← Int.natCast_add, wrapN' _ (by omega)]
  rfl
theorem fold2 (x : Nat) (hx : x < 18446744073709551616) :
    IntKind.u64.wrap (bits .and .u64 ((x : Int) / 4) 3689348814741910323 + bits .and .u64 (x : Int) 3689348814741910323) = (s2 8 x : Int) := by
  have h1 := bits_and_u64_nat (x / 4) 3689348814741910323 (by omega) (by omega)
  have h2 := bits_and_u64_nat x 3689348814741910323 (by omega) (by omega)
  have e0 : (x : Int) / 4 = ((x / 4 : Nat) : Int) := by omega
  have b1 := and_le_right (x / 4) 3689348814741910323
  have b2 := and_le_right x 3689348814741910323
  rw [e0]
  rw [show ((3689348814741910323 : Nat) : Int) = (3689348814741910323 : Int) from rfl] at h1 h2
  rw [h1, h2, ← Int.natCast_add, wrapN' _ (by omega)]
  rfl
theorem fold3 (x : Nat) (hx : x < 9223372036854775808) :
    bits .and .u64 (IntKind.u64.wrap ((x : Int) / 16 + (x : Int))) 1085102592571150095 = (s3 8 x : Int) := by
  have h1 := bits_and_u64_nat (x / 16 + x) 1085102592571150095 (by omega) (by omega)
  rw [show (x : Int) / 16 + (x : Int) = ((x / 16 + x : Nat) : Int) by omega, wrapN' _ (by omega)]
  rw [show ((1085102592571150095 : Nat) : Int) = (1085102592571150095 : Int) from rfl] at h1
  rw [h1]
  rfl
theorem s1_lt (x : Nat) : s1 8 x < 18446744073709551616 := by
  have b1 := and_le_right (x / 2) (rep 85 8)
  have b2 := and_le_right x (rep 85 8)
  have : rep 85 8 = 6148914691236517205 := by decide
  unfold s1; omega
theorem s2_lt (x : Nat) : s2 8 x < 9223372036854775808 := by
  have b1 := and_le_right (x / 4) (rep 51 8)
  have b2 := and_le_right x (rep 51 8)
  have : rep 51 8 = 3689348814741910323 := by decide
  unfold s2; omega
theorem fold4 (z : Nat) (hz : z + z / 256 + (z + z / 256) / 65536 + (z + z / 256 + (z + z / 256) / 65536) / 4294967296 < 9223372036854775808) :
    bits .and .i64 (Go.RowKit.wrap64 (IntKind.u64.wrap (IntKind.u64.wrap (IntKind.u64.wrap ((z : Int) + (z : Int) / 256) + IntKind.u64.wrap ((z : Int) + (z : Int) / 256) / 65536) + IntKind.u64.wrap (IntKind.u64.wrap ((z : Int) + (z : Int) / 256) + IntKind.u64.wrap ((z : Int) + (z : Int) / 256) / 65536) / 4294967296))) 127 =
      (((z + z / 256 + (z + z / 256) / 65536 + (z + z / 256 + (z + z / 256) / 65536) / 4294967296) % 128 : Nat) : Int) := by
  rw [i64_and127]
  rw [show (z : Int) + (z : Int) / 256 = ((z + z / 256 : Nat) : Int) by omega, wrapN' (z + z / 256) (by omega)]
  generalize z + z / 256 = t at *
  rw [show (t : Int) + (t : Int) / 65536 = ((t + t / 65536 : Nat) : Int) by omega, wrapN' (t + t / 65536) (by omega)]
  generalize t + t / 65536 = u at *
  rw [show (u : Int) + (u : Int) / 4294967296 = ((u + u / 4294967296 : Nat) : Int) by omega, wrapN' (u + u / 4294967296) (by omega)]
  unfold Go.RowKit.wrap64
  omega

end Go.Proofs.YtkkodhjolgcokaaDoor
