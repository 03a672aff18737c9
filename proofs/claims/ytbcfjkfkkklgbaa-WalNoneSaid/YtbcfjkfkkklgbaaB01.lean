/-
Plain mathematics of the checksum: no program.
Plain mathematics of frames: encoding, decoding, scanning, bursts. No program.
A write-ahead log as plain data: opening, appending, synchronizing. No program.
-/
import Derived.Test.YtbcfjkfkkklgbaaB00
namespace Go.Proofs.Ytbcfjkfkkklgbaa
section
abbrev W32 := BitVec 32
def polyW : W32 := 0xEDB88320#32
def stepB (c : W32) : W32 := if c.getLsbD 0 then (c >>> 1) ^^^ polyW else c >>> 1
def stepN : Nat → W32 → W32
  | 0, c => c
  | n + 1, c => stepN n (stepB c)

theorem xor_swap (a b c d : W32) : (a ^^^ b) ^^^ (c ^^^ d) = (a ^^^ c) ^^^ (b ^^^ d) := by
  ac_rfl
theorem stepB_xor (a b : W32) : stepB (a ^^^ b) = stepB a ^^^ stepB b := by
  unfold stepB
  rw [BitVec.getLsbD_xor, BitVec.ushiftRight_xor_distrib]
  cases a.getLsbD 0 <;> cases b.getLsbD 0 <;> simp
  · ac_rfl
  · ac_rfl
  · rw [xor_swap, BitVec.xor_self]; simp
theorem stepB_zero : stepB 0#32 = 0#32 := by decide
theorem stepB_inj0 {c : W32} (h : stepB c = 0#32) : c = 0#32 := by
  unfold stepB at h
  by_cases hb : c.getLsbD 0 = true
  · rw [if_pos hb] at h
    have := congrArg (fun x : W32 => x.getLsbD 31) h
    simp [polyW, BitVec.getLsbD_ushiftRight] at this
  · rw [if_neg hb] at h
    apply BitVec.eq_of_getLsbD_eq
    intro i hi
    match i with
    | 0 => simpa using hb
    | i + 1 =>
      have := congrArg (fun x : W32 => x.getLsbD i) h
      simpa [BitVec.getLsbD_ushiftRight, Nat.add_comm] using this

theorem stepN_add (m n : Nat) : ∀ c, stepN (m + n) c = stepN n (stepN m c) := by
  induction m with
  | zero => intro c; simp [stepN]
  | succ m ih => intro c; rw [Nat.succ_add]; exact ih (stepB c)
theorem stepN_succ (n : Nat) (c : W32) : stepN (n + 1) c = stepB (stepN n c) := stepN_add n 1 c
theorem stepN_xor (n : Nat) : ∀ a b, stepN n (a ^^^ b) = stepN n a ^^^ stepN n b := by
  induction n with
  | zero => intro a b; rfl
  | succ n ih => intro a b; show stepN n (stepB (a ^^^ b)) = _; rw [stepB_xor, ih]; rfl
theorem stepN_zero (n : Nat) : stepN n 0#32 = 0#32 := by
  induction n with
  | zero => rfl
  | succ n ih => show stepN n (stepB 0#32) = 0#32; rw [stepB_zero, ih]
theorem stepN_inj0 (n : Nat) : ∀ {c}, stepN n c = 0#32 → c = 0#32 := by
  induction n with
  | zero => intro c h; exact h
  | succ n ih => intro c h; exact stepB_inj0 (ih h)
theorem xor_eq_zero {a b : W32} : a ^^^ b = 0#32 ↔ a = b := by
  constructor
  · intro h
    have := congrArg (· ^^^ b) h
    simpa [BitVec.xor_assoc] using this
  · rintro rfl; exact BitVec.xor_self
theorem stepN_inj (n : Nat) {a b : W32} (h : stepN n a = stepN n b) : a = b :=
  xor_eq_zero.1 (stepN_inj0 n (by rw [stepN_xor, h, BitVec.xor_self]))
theorem stepN_one : ∀ i < 32, stepN i (1#32 <<< i) = 1#32 := by decide +kernel

/-- A byte as a number of 32 bits. -/
def b32 (b : UInt8) : W32 := BitVec.ofNat 32 b.toNat
theorem b32_toNat (b : UInt8) : (b32 b).toNat = b.toNat := by
  have := b.toNat_lt
  simp only [b32, BitVec.toNat_ofNat]
  omega
theorem b32_xor (a b : UInt8) : b32 (a ^^^ b) = b32 a ^^^ b32 b := by
  apply BitVec.eq_of_toNat_eq
  rw [BitVec.toNat_xor, b32_toNat, b32_toNat, b32_toNat, UInt8.toNat_xor]
def updB (c : W32) (b : UInt8) : W32 := stepN 8 (c ^^^ b32 b)
def crcU (c : W32) (l : List UInt8) : W32 := l.foldl updB c
def crcUpd (s : W32) (l : List UInt8) : W32 := ~~~ crcU (~~~ s) l
def crcSum (l : List UInt8) : W32 := crcUpd 0#32 l
def crcComb (a b : W32) (n : Nat) : W32 := b ^^^ stepN (8 * n) a

theorem upd_cons (c : W32) (b : UInt8) (l : List UInt8) : crcU c (b :: l) = crcU (updB c b) l := rfl
theorem upd_append (c : W32) (l m : List UInt8) : crcU c (l ++ m) = crcU (crcU c l) m := List.foldl_append
theorem upd_take_succ (c : W32) (l : List UInt8) (k : Nat) (h : k < l.length) : crcU c (l.take (k + 1)) = updB (crcU c (l.take k)) l[k] := by
  rw [List.take_succ_eq_append_getElem h, upd_append]; rfl
theorem updB_xor (c e : W32) (b : UInt8) : updB (c ^^^ e) b = updB c b ^^^ stepN 8 e := by
  unfold updB
  rw [← stepN_xor]
  congr 1
  ac_rfl
theorem upd_xor (l : List UInt8) : ∀ (c e : W32), crcU (c ^^^ e) l = crcU c l ^^^ stepN (8 * l.length) e := by
  induction l with
  | nil => intro c e; rfl
  | cons b l ih =>
    intro c e
    rw [upd_cons, upd_cons, updB_xor, ih, List.length_cons, Nat.mul_add, Nat.add_comm (8 * l.length), Nat.mul_one, stepN_add]
theorem upd_inj (l : List UInt8) {c c' : W32} (h : crcU c l = crcU c' l) : c = c' := by
  have e : c = c' ^^^ (c' ^^^ c) := by rw [← BitVec.xor_assoc, BitVec.xor_self, BitVec.zero_xor]
  rw [e, upd_xor] at h
  have h0 : stepN (8 * l.length) (c' ^^^ c) = 0#32 := by
    have := congrArg (crcU c' l ^^^ ·) h
    simpa [← BitVec.xor_assoc] using this
  exact (xor_eq_zero.1 (stepN_inj0 _ h0)).symm

theorem crcUpd_append (s : W32) (x y : List UInt8) : crcUpd (crcUpd s x) y = crcUpd s (x ++ y) := by
  unfold crcUpd
  rw [BitVec.not_not, upd_append]
theorem not_xor_not (a b : W32) : ~~~ a ^^^ ~~~ b = a ^^^ b := by
  rw [← BitVec.not_xor_left, ← BitVec.not_xor_right, BitVec.not_not]
theorem crcComb_append (x y : List UInt8) : crcComb (crcSum x) (crcSum y) y.length = crcSum (x ++ y) := by
  have h : ~~~ crcSum x = ~~~ 0#32 ^^^ crcSum x := by
    have := not_xor_not (0#32) (~~~ crcSum x)
    rw [BitVec.not_not] at this
    rw [this]
    simp
  show crcSum y ^^^ stepN (8 * y.length) (crcSum x) = crcSum (x ++ y)
  rw [show crcSum (x ++ y) = crcUpd (crcSum x) y from (crcUpd_append 0#32 x y).symm]
  conv => rhs; unfold crcUpd; rw [h, upd_xor]
  rw [BitVec.not_xor_left]
  rfl
theorem crcComb_assoc (x y z : W32) (m n : Nat) : crcComb (crcComb x y m) z n = crcComb x (crcComb y z n) (m + n) := by
  unfold crcComb
  rw [stepN_xor, Nat.mul_add, stepN_add]
  ac_rfl

/-- The affine law: three sequences of the same length. -/
theorem upd_three (c : W32) : ∀ (x y z : List UInt8) (a b : W32), x.length = y.length → y.length = z.length →
    crcU (a ^^^ b ^^^ c) (List.zipWith (· ^^^ ·) (List.zipWith (· ^^^ ·) x y) z) = crcU a x ^^^ crcU b y ^^^ crcU c z := by
  intro x
  induction x generalizing c with
  | nil =>
    intro y z a b h1 h2
    obtain rfl : y = [] := List.eq_nil_of_length_eq_zero (by simpa using h1.symm)
    obtain rfl : z = [] := List.eq_nil_of_length_eq_zero (by simpa using h2.symm)
    rfl
  | cons p x ih =>
    intro y z a b h1 h2
    match y, z, h1, h2 with
    | q :: y, r :: z, h1, h2 =>
      simp only [List.zipWith_cons_cons, upd_cons]
      rw [← ih _ y z _ _ (by simpa using h1) (by simpa using h2)]
      congr 1
      unfold updB
      rw [← stepN_xor, ← stepN_xor, b32_xor, b32_xor]
      congr 1
      ac_rfl
theorem crcSum_three (x y z : List UInt8) (h1 : x.length = y.length) (h2 : y.length = z.length) :
    crcSum (List.zipWith (· ^^^ ·) (List.zipWith (· ^^^ ·) x y) z) = crcSum x ^^^ crcSum y ^^^ crcSum z := by
  have h := upd_three (~~~ 0#32) x y z (~~~ 0#32) (~~~ 0#32) h1 h2
  rw [BitVec.xor_self, BitVec.zero_xor] at h
  unfold crcSum crcUpd
  rw [h, not_xor_not, BitVec.not_xor_right]

/-- One bit turned. -/
theorem upd_set : ∀ (l : List UInt8) (j : Nat) (h : j < l.length) (m : UInt8) (c : W32), crcU c (l.set j (l[j] ^^^ m)) = crcU c l ^^^ stepN (8 * (l.length - j)) (b32 m) := by
  intro l
  induction l with
  | nil => intro j h; exact absurd h (by simp)
  | cons b l ih =>
    intro j h m c
    match j, h with
    | 0, h =>
      simp only [List.set_cons_zero, List.getElem_cons_zero, upd_cons, List.length_cons]
      rw [show updB c (b ^^^ m) = updB (c ^^^ b32 m) b by unfold updB; rw [b32_xor]; congr 1; ac_rfl, updB_xor, upd_xor, ← stepN_add]
      congr 2
      omega
    | j + 1, h =>
      simp only [List.set_cons_succ, List.getElem_cons_succ, upd_cons, List.length_cons]
      rw [ih j (by simpa using h) m (updB c b)]
      congr 2
      omega

/-- The mask of one bit of a byte. -/
def mask8 (k : Nat) : UInt8 := UInt8.ofNat (2 ^ k)
theorem mask8_b32 : ∀ k < 8, b32 (mask8 k) = 1#32 <<< k := by decide
theorem mask8_ne : ∀ k < 8, mask8 k ≠ 0 := by decide
/-- The bit p of l is turned. -/
def flipBit (l : List UInt8) (p : Nat) : List UInt8 := l.set (p / 8) (l.getD (p / 8) 0 ^^^ mask8 (p % 8))
theorem flipBit_length (l : List UInt8) (p : Nat) : (flipBit l p).length = l.length := by simp [flipBit]
theorem upd_flipBit (l : List UInt8) (p : Nat) (h : p / 8 < l.length) (c : W32) : crcU c (flipBit l p) = crcU c l ^^^ stepN (8 * l.length - p) 1#32 := by
  unfold flipBit
  rw [List.getD_eq_getElem?_getD, List.getElem?_eq_getElem h, Option.getD_some, upd_set l _ h, mask8_b32 _ (Nat.mod_lt _ (by omega))]
  congr 1
  rw [show 8 * (l.length - p / 8) = p % 8 + (8 * l.length - p) by omega, stepN_add, stepN_one _ (by omega)]

/-- The bits of a pattern, from the bit 'at' on, are turned: the first k of the 32. -/
def hits (n a : Nat) (pat : Nat) (k : Nat) : Bool := decide (pat / 2 ^ k % 2 = 1) && decide ((a + k) / 8 < n)
def flips (l : List UInt8) (a pat : Nat) : Nat → List UInt8
  | 0 => l
  | k + 1 => if hits l.length a pat k then flipBit (flips l a pat k) (a + k) else flips l a pat k
def turned (n a pat : Nat) : Nat → W32
  | 0 => 0#32
  | k + 1 => if hits n a pat k then turned n a pat k ^^^ 1#32 <<< k else turned n a pat k
theorem flips_length (l : List UInt8) (a pat k : Nat) : (flips l a pat k).length = l.length := by
  induction k with
  | zero => rfl
  | succ k ih => unfold flips; split <;> simp [flipBit_length, ih]
theorem turned_bit (n a pat k : Nat) : ∀ j, j < 32 → k ≤ 32 → (turned n a pat k).getLsbD j = (decide (j < k) && hits n a pat j) := by
  induction k with
  | zero => intro j _ _; simp [turned]
  | succ k ih =>
    intro j hj hk
    unfold turned
    split
    · rename_i h
      rw [BitVec.getLsbD_xor, ih j hj (by omega)]
      simp only [BitVec.getLsbD_shiftLeft, BitVec.getLsbD_one]
      by_cases hjk : j = k
      · subst hjk; simp [h, hj]
      · by_cases hlt : j < k
        · simp [hlt, hj, show j < k + 1 by omega]
        · have h1 : ¬ j < k + 1 := by omega
          have h2 : j - k ≠ 0 := by omega
          simp [hlt, hj, h1, h2]
    · rename_i h
      rw [ih j hj (by omega)]
      by_cases hjk : j = k
      · subst hjk; simp at h; simp [h]
      · by_cases hlt : j < k
        · simp [hlt, show j < k + 1 by omega]
        · simp [hlt, show ¬ j < k + 1 by omega]
theorem turned_zero (l : List UInt8) (a pat : Nat) (h : turned l.length a pat 32 = 0#32) : ∀ k, k ≤ 32 → flips l a pat k = l := by
  intro k
  induction k with
  | zero => intro _; rfl
  | succ k ih =>
    intro hk
    have := turned_bit l.length a pat 32 k (by omega) (Nat.le_refl _)
    rw [h] at this
    simp [show k < 32 by omega] at this
    unfold flips
    rw [if_neg (by simp [this]), ih (by omega)]
theorem upd_flips (l : List UInt8) (a pat : Nat) (c : W32) : ∀ k, k ≤ 32 → crcU c (flips l a pat k) = crcU c l ^^^ stepN (8 * l.length - a) (turned l.length a pat k) := by
  intro k
  induction k with
  | zero => intro _; simp [flips, turned, stepN_zero]
  | succ k ih =>
    intro hk
    unfold flips turned
    split
    · rename_i h
      have hlt : (a + k) / 8 < l.length := by simp [hits] at h; exact h.2
      rw [upd_flipBit _ _ (by rw [flips_length]; exact hlt), ih (by omega), stepN_xor, flips_length, BitVec.xor_assoc]
      congr 2
      rw [show 8 * l.length - a = k + (8 * l.length - (a + k)) by omega, stepN_add, stepN_one _ (by omega)]
    · exact ih (by omega)
/-- A burst is noticed. -/
theorem burst (l : List UInt8) (a pat : Nat) (c : W32) : crcU c (flips l a pat 32) = crcU c l ↔ flips l a pat 32 = l := by
  constructor
  · intro h
    rw [upd_flips l a pat c 32 (Nat.le_refl _)] at h
    have h0 : stepN (8 * l.length - a) (turned l.length a pat 32) = 0#32 := by
      have := congrArg (crcU c l ^^^ ·) h
      simpa [← BitVec.xor_assoc] using this
    exact turned_zero l a pat (stepN_inj0 _ h0) 32 (Nat.le_refl _)
  · intro h; rw [h]
theorem not_inj {a b : W32} (h : ~~~ a = ~~~ b) : a = b := by rw [← BitVec.not_not (b := a), h, BitVec.not_not]
theorem burst_sum (l : List UInt8) (a pat : Nat) : crcSum (flips l a pat 32) = crcSum l ↔ flips l a pat 32 = l := by
  rw [← burst l a pat (~~~ 0#32)]
  exact ⟨fun h => not_inj h, fun h => by unfold crcSum crcUpd; rw [h]⟩

/-- Four bytes, the least significant one first. -/
def fixedB (s : W32) : List UInt8 := [UInt8.ofNat s.toNat, UInt8.ofNat (s.toNat / 256), UInt8.ofNat (s.toNat / 65536), UInt8.ofNat (s.toNat / 16777216)]
def fixedW (p q r s : UInt8) : W32 := BitVec.ofNat 32 (p.toNat + q.toNat * 256 + r.toNat * 65536 + s.toNat * 16777216)
theorem fixedW_toNat (p q r s : UInt8) : (fixedW p q r s).toNat = p.toNat + q.toNat * 256 + r.toNat * 65536 + s.toNat * 16777216 := by
  have := p.toNat_lt
  have := q.toNat_lt
  have := r.toNat_lt
  have := s.toNat_lt
  simp only [fixedW, BitVec.toNat_ofNat]
  omega
theorem join_xor (i x y : Nat) (hy : y < 2 ^ i) : y ^^^ (x * 2 ^ i) = y + x * 2 ^ i := by
  have e : y + x * 2 ^ i = 2 ^ i * x ||| y := by rw [← Nat.two_pow_add_eq_or_of_lt hy]; rw [Nat.mul_comm, Nat.add_comm]
  rw [e, Nat.mul_comm]
  apply Nat.eq_of_testBit_eq
  intro j
  rw [Nat.testBit_xor, Nat.testBit_or, Nat.testBit_two_pow_mul]
  by_cases h : j ≥ i
  · have : y.testBit j = false := Nat.testBit_lt_two_pow (Nat.lt_of_lt_of_le hy (Nat.pow_le_pow_right (by omega) h))
    simp [this]
  · simp [h]
theorem shl_toNat (b : UInt8) (k : Nat) (hk : k ≤ 24) : (b32 b <<< k).toNat = b.toNat * 2 ^ k := by
  have := b.toNat_lt
  rw [BitVec.toNat_shiftLeft, b32_toNat, Nat.shiftLeft_eq, Nat.mod_eq_of_lt]
  calc b.toNat * 2 ^ k < 256 * 2 ^ k := Nat.mul_lt_mul_of_pos_right (by omega) (Nat.two_pow_pos k)
    _ ≤ 256 * 2 ^ 24 := Nat.mul_le_mul_left _ (Nat.pow_le_pow_right (by omega) hk)
    _ = 2 ^ 32 := by decide
theorem fixedW_xor (p q r s : UInt8) : fixedW p q r s = b32 p ^^^ b32 q <<< 8 ^^^ b32 r <<< 16 ^^^ b32 s <<< 24 := by
  have hp := p.toNat_lt
  have hq := q.toNat_lt
  have hr := r.toNat_lt
  apply BitVec.eq_of_toNat_eq
  rw [fixedW_toNat, BitVec.toNat_xor, BitVec.toNat_xor, BitVec.toNat_xor, shl_toNat _ _ (by omega), shl_toNat _ _ (by omega), shl_toNat _ _ (by omega), b32_toNat]
  rw [join_xor 8 _ _ (by omega), join_xor 16 _ _ (by omega), join_xor 24 _ _ (by omega)]
theorem stepN_shl : ∀ n < 256, stepN 8 (BitVec.ofNat 32 n <<< 8) = BitVec.ofNat 32 n ∧ stepN 16 (BitVec.ofNat 32 n <<< 16) = BitVec.ofNat 32 n ∧ stepN 24 (BitVec.ofNat 32 n <<< 24) = BitVec.ofNat 32 n := by
  decide +kernel
theorem stepN_shl8 (b : UInt8) : stepN 8 (b32 b <<< 8) = b32 b := (stepN_shl b.toNat b.toNat_lt).1
theorem stepN_shl16 (b : UInt8) : stepN 16 (b32 b <<< 16) = b32 b := (stepN_shl b.toNat b.toNat_lt).2.1
theorem stepN_shl24 (b : UInt8) : stepN 24 (b32 b <<< 24) = b32 b := (stepN_shl b.toNat b.toNat_lt).2.2
theorem upd_fixed (c : W32) (p q r s : UInt8) : crcU c [p, q, r, s] = stepN 32 (c ^^^ fixedW p q r s) := by
  show updB (updB (updB (updB c p) q) r) s = _
  unfold updB
  have e1 : stepN 8 (c ^^^ b32 p) ^^^ b32 q = stepN 8 (c ^^^ b32 p ^^^ b32 q <<< 8) := by rw [stepN_xor 8 (c ^^^ b32 p) (b32 q <<< 8), stepN_shl8]
  have e2 : stepN 8 (stepN 8 (c ^^^ b32 p ^^^ b32 q <<< 8)) ^^^ b32 r = stepN 16 (c ^^^ b32 p ^^^ b32 q <<< 8 ^^^ b32 r <<< 16) := by
    rw [← stepN_add, stepN_xor 16 (c ^^^ b32 p ^^^ b32 q <<< 8) (b32 r <<< 16), stepN_shl16]
  have e3 : stepN 8 (stepN 16 (c ^^^ b32 p ^^^ b32 q <<< 8 ^^^ b32 r <<< 16)) ^^^ b32 s = stepN 24 (c ^^^ b32 p ^^^ b32 q <<< 8 ^^^ b32 r <<< 16 ^^^ b32 s <<< 24) := by
    rw [← stepN_add, stepN_xor 24 (c ^^^ b32 p ^^^ b32 q <<< 8 ^^^ b32 r <<< 16) (b32 s <<< 24), stepN_shl24]
  rw [e1, e2, e3, ← stepN_add, fixedW_xor]
  simp only [BitVec.xor_assoc]
theorem fixedW_fixedB (s : W32) : fixedW (UInt8.ofNat s.toNat) (UInt8.ofNat (s.toNat / 256)) (UInt8.ofNat (s.toNat / 65536)) (UInt8.ofNat (s.toNat / 16777216)) = s := by
  have := s.isLt
  apply BitVec.eq_of_toNat_eq
  rw [fixedW_toNat]
  simp only [UInt8.toNat_ofNat']
  omega
theorem sum_eq_iff (x : List UInt8) (s : W32) : crcSum x = s ↔ crcU (~~~ 0#32) x ^^^ s = ~~~ 0#32 := by
  unfold crcSum crcUpd
  constructor
  · rintro rfl; rw [← BitVec.not_xor_right, BitVec.xor_self]
  · intro h
    have := congrArg (crcU (~~~ 0#32) x ^^^ ·) h
    simp only [← BitVec.xor_assoc, BitVec.xor_self, BitVec.zero_xor] at this
    rw [this, ← BitVec.not_xor_right, BitVec.xor_zero]
/-- Data that are followed by their checksum: a burst is noticed. -/
theorem burst_word (l : List UInt8) (a pat : Nat) (x : List UInt8) (p q r s : UInt8) (h : flips (l ++ fixedB (crcSum l)) a pat 32 = x ++ [p, q, r, s]) :
    crcSum x = fixedW p q r s ↔ flips (l ++ fixedB (crcSum l)) a pat 32 = l ++ fixedB (crcSum l) := by
  have hw : crcU (~~~ 0#32) (l ++ fixedB (crcSum l)) = stepN 32 (~~~ 0#32) := by
    rw [upd_append, fixedB, upd_fixed, fixedW_fixedB, (sum_eq_iff l (crcSum l)).1 rfl]
  rw [← burst _ a pat (~~~ 0#32), hw, h, upd_append, upd_fixed, sum_eq_iff]
  exact ⟨fun e => by rw [e], fun e => stepN_inj 32 e⟩
end

section
def hdB (n : Nat) (e q : W32) : List UInt8 := [UInt8.ofNat n, UInt8.ofNat (n / 256)] ++ fixedB e ++ fixedB q
def bodyB (e q : W32) (pl : List UInt8) : List UInt8 := hdB pl.length e q ++ pl
def frameB (e q : W32) (pl : List UInt8) : List UInt8 := bodyB e q pl ++ fixedB (crcSum (bodyB e q pl))
theorem fixedB_length (s : W32) : (fixedB s).length = 4 := rfl
theorem hdB_length (n : Nat) (e q : W32) : (hdB n e q).length = 10 := rfl
theorem bodyB_length (e q : W32) (pl : List UInt8) : (bodyB e q pl).length = 10 + pl.length := by simp [bodyB, hdB_length]
theorem frameB_length (e q : W32) (pl : List UInt8) : (frameB e q pl).length = 14 + pl.length := by simp [frameB, bodyB_length, fixedB_length]; omega

/-- The number in the first four bytes; the length in the first two. -/
def wordB (l : List UInt8) : W32 := fixedW (l.getD 0 0) (l.getD 1 0) (l.getD 2 0) (l.getD 3 0)
def lenB (l : List UInt8) : Nat := (l.getD 0 0).toNat + 256 * (l.getD 1 0).toNat
theorem wordB_fixedB (s : W32) (l : List UInt8) : wordB (fixedB s ++ l) = s := fixedW_fixedB s
theorem lenB_lt (l : List UInt8) : lenB l < 65536 := by
  have := (l.getD 0 0).toNat_lt
  have := (l.getD 1 0).toNat_lt
  unfold lenB
  omega
theorem lenB_frame (n : Nat) (hn : n < 65536) (l : List UInt8) : lenB (UInt8.ofNat n :: UInt8.ofNat (n / 256) :: l) = n := by
  show (UInt8.ofNat n).toNat + 256 * (UInt8.ofNat (n / 256)).toNat = n
  simp only [UInt8.toNat_ofNat']
  omega

/-- The error of decoding. -/
def derr (l : List UInt8) (e q : W32) : Nat :=
  if l.length < 14 then 5 else if 1024 < lenB l then 3 else if l.length < 14 + lenB l then 5
  else if wordB (l.drop (10 + lenB l)) ≠ crcSum (l.take (10 + lenB l)) then 7
  else if wordB (l.drop 2) ≠ e ∨ wordB (l.drop 6) ≠ q then 8 else 0
def dpl (l : List UInt8) (e q : W32) : List UInt8 := if derr l e q = 0 then (l.drop 10).take (lenB l) else []
def dn (l : List UInt8) (e q : W32) : Nat := if derr l e q = 0 then 14 + lenB l else 0
section
variable {l : List UInt8} {e q : W32}
theorem derr_1 (h : l.length < 14) : derr l e q = 5 := by unfold derr; rw [if_pos h]
theorem derr_2 (h : ¬ l.length < 14) (h2 : 1024 < lenB l) : derr l e q = 3 := by unfold derr; rw [if_neg h, if_pos h2]
theorem derr_3 (h : ¬ l.length < 14) (h2 : ¬ 1024 < lenB l) (h3 : l.length < 14 + lenB l) : derr l e q = 5 := by unfold derr; rw [if_neg h, if_neg h2, if_pos h3]
theorem derr_4 (h : ¬ l.length < 14) (h2 : ¬ 1024 < lenB l) (h3 : ¬ l.length < 14 + lenB l) (h4 : wordB (l.drop (10 + lenB l)) ≠ crcSum (l.take (10 + lenB l))) : derr l e q = 7 := by
  unfold derr; rw [if_neg h, if_neg h2, if_neg h3, if_pos h4]
theorem derr_5 (h : ¬ l.length < 14) (h2 : ¬ 1024 < lenB l) (h3 : ¬ l.length < 14 + lenB l) (h4 : wordB (l.drop (10 + lenB l)) = crcSum (l.take (10 + lenB l))) (h5 : wordB (l.drop 2) ≠ e ∨ wordB (l.drop 6) ≠ q) : derr l e q = 8 := by
  unfold derr; rw [if_neg h, if_neg h2, if_neg h3, if_neg (fun f => f h4), if_pos h5]
theorem derr_6 (h : ¬ l.length < 14) (h2 : ¬ 1024 < lenB l) (h3 : ¬ l.length < 14 + lenB l) (h4 : wordB (l.drop (10 + lenB l)) = crcSum (l.take (10 + lenB l))) (h5 : wordB (l.drop 2) = e) (h6 : wordB (l.drop 6) = q) : derr l e q = 0 := by
  unfold derr; rw [if_neg h, if_neg h2, if_neg h3, if_neg (fun f => f h4), if_neg (by rintro (f | f); exact f h5; exact f h6)]
theorem dpl_no (h : derr l e q ≠ 0) : dpl l e q = [] := by unfold dpl; rw [if_neg h]
theorem dn_no (h : derr l e q ≠ 0) : dn l e q = 0 := by unfold dn; rw [if_neg h]
theorem dpl_yes (h : derr l e q = 0) : dpl l e q = (l.drop 10).take (lenB l) := by unfold dpl; rw [if_pos h]
theorem dn_yes (h : derr l e q = 0) : dn l e q = 14 + lenB l := by unfold dn; rw [if_pos h]
theorem derr_fit (h : derr l e q = 0) : 14 + lenB l ≤ l.length ∧ lenB l ≤ 1024 := by
  unfold derr at h
  split at h
  · omega
  split at h
  · omega
  split at h
  · omega
  omega
theorem dn_fit (h : derr l e q = 0) : 14 ≤ dn l e q ∧ dn l e q ≤ l.length ∧ (dpl l e q).length ≤ 1024 := by
  have := derr_fit h
  rw [dn_yes h, dpl_yes h]
  refine ⟨by omega, by omega, by simp; omega⟩
theorem dn_le : dn l e q ≤ l.length := by
  by_cases h : derr l e q = 0
  · exact (dn_fit h).2.1
  · rw [dn_no h]; omega
theorem derr_le : derr l e q ≤ 8 := by
  unfold derr
  split
  · omega
  split
  · omega
  split
  · omega
  split
  · omega
  split
  · omega
  · omega
end

/-- What was encoded is decoded. -/
theorem frame_parts (e q : W32) (pl rest : List UInt8) (hp : pl.length ≤ 1024) :
    lenB (frameB e q pl ++ rest) = pl.length ∧ (frameB e q pl ++ rest).length = 14 + pl.length + rest.length ∧ wordB ((frameB e q pl ++ rest).drop 2) = e ∧ wordB ((frameB e q pl ++ rest).drop 6) = q ∧
    (frameB e q pl ++ rest).take (10 + pl.length) = bodyB e q pl ∧ (frameB e q pl ++ rest).drop (10 + pl.length) = fixedB (crcSum (bodyB e q pl)) ++ rest ∧ ((frameB e q pl ++ rest).drop 10).take pl.length = pl := by
  have e1 : frameB e q pl ++ rest = UInt8.ofNat pl.length :: UInt8.ofNat (pl.length / 256) :: (fixedB e ++ (fixedB q ++ (pl ++ (fixedB (crcSum (bodyB e q pl)) ++ rest)))) := by
    simp [frameB, bodyB, hdB]
  have e2 : frameB e q pl ++ rest = bodyB e q pl ++ (fixedB (crcSum (bodyB e q pl)) ++ rest) := by simp [frameB]
  refine ⟨?_, ?_, ?_, ?_, ?_, ?_, ?_⟩
  · rw [e1]; exact lenB_frame _ (by omega) _
  · rw [List.length_append, frameB_length]
  · rw [e1]; exact wordB_fixedB e _
  · rw [e1]
    show wordB ((fixedB e ++ _).drop 4) = q
    rw [List.drop_left' (fixedB_length e)]
    exact wordB_fixedB q _
  · rw [e2, List.take_left' (bodyB_length e q pl)]
  · rw [e2, List.drop_left' (bodyB_length e q pl)]
  · rw [e2, bodyB, List.append_assoc, List.drop_left' (hdB_length _ e q), List.take_left' rfl]
theorem derr_frame (e q : W32) (pl rest : List UInt8) (hp : pl.length ≤ 1024) : derr (frameB e q pl ++ rest) e q = 0 := by
  obtain ⟨h1, h2, h3, h4, h5, h6, _⟩ := frame_parts e q pl rest hp
  refine derr_6 (by omega) (by omega) (by omega) ?_ h3 h4
  rw [h1, h5, h6, wordB_fixedB]
theorem dpl_frame (e q : W32) (pl rest : List UInt8) (hp : pl.length ≤ 1024) : dpl (frameB e q pl ++ rest) e q = pl := by
  obtain ⟨h1, _, _, _, _, _, h7⟩ := frame_parts e q pl rest hp
  rw [dpl_yes (derr_frame e q pl rest hp), h1, h7]
theorem dn_frame (e q : W32) (pl rest : List UInt8) (hp : pl.length ≤ 1024) : dn (frameB e q pl ++ rest) e q = 14 + pl.length := by
  rw [dn_yes (derr_frame e q pl rest hp), (frame_parts e q pl rest hp).1]
theorem derr_other (e e' q : W32) (pl rest : List UInt8) (hp : pl.length ≤ 1024) (he : e ≠ e') : derr (frameB e q pl ++ rest) e' q = 8 := by
  obtain ⟨h1, h2, h3, h4, h5, h6, _⟩ := frame_parts e q pl rest hp
  refine derr_5 (by omega) (by omega) (by omega) ?_ (.inl (by rw [h3]; exact he))
  rw [h1, h5, h6, wordB_fixedB]

/-- Scanning. -/
def sq (k : Nat) : W32 := BitVec.ofNat 32 k
def scanB : Nat → List UInt8 → W32 → Nat → List (List UInt8) × Nat
  | 0, _, _, _ => ([], 0)
  | f + 1, l, e, k => if derr l e (sq k) = 0 then (dpl l e (sq k) :: (scanB f (l.drop (dn l e (sq k))) e (k + 1)).1, dn l e (sq k) + (scanB f (l.drop (dn l e (sq k))) e (k + 1)).2) else ([], 0)
theorem scanB_yes {f : Nat} {l : List UInt8} {e : W32} {k : Nat} (h : derr l e (sq k) = 0) : scanB (f + 1) l e k = (dpl l e (sq k) :: (scanB f (l.drop (dn l e (sq k))) e (k + 1)).1, dn l e (sq k) + (scanB f (l.drop (dn l e (sq k))) e (k + 1)).2) := by
  show (if _ then _ else _) = _
  rw [if_pos h]
theorem scanB_no {f : Nat} {l : List UInt8} {e : W32} {k : Nat} (h : derr l e (sq k) ≠ 0) : scanB f l e k = ([], 0) := by
  cases f with
  | zero => rfl
  | succ f => show (if _ then _ else _) = _; rw [if_neg h]
theorem scanB_end (f : Nat) : ∀ (l : List UInt8) (e : W32) (k : Nat), (scanB f l e k).2 ≤ l.length ∧ ∀ p ∈ (scanB f l e k).1, p.length ≤ 1024 := by
  induction f with
  | zero => intro l e k; exact ⟨Nat.zero_le _, fun p h => by cases h⟩
  | succ f ih =>
    intro l e k
    by_cases h : derr l e (sq k) = 0
    · rw [scanB_yes h]
      obtain ⟨i1, i2⟩ := ih (l.drop (dn l e (sq k))) e (k + 1)
      have hf := dn_fit h
      refine ⟨?_, ?_⟩
      · simp only [List.length_drop] at i1
        show _ + _ ≤ _
        omega
      · intro p hp
        rcases List.mem_cons.1 hp with rfl | hp
        · exact hf.2.2
        · exact i2 p hp
    · rw [scanB_no h]; exact ⟨Nat.zero_le _, fun p h => by cases h⟩

theorem scanB_count (f : Nat) : ∀ (l : List UInt8) (e : W32) (k : Nat), 14 * (scanB f l e k).1.length ≤ (scanB f l e k).2 := by
  induction f with
  | zero => intro l e k; exact Nat.le_refl _
  | succ f ih =>
    intro l e k
    by_cases h : derr l e (sq k) = 0
    · rw [scanB_yes h]
      have := ih (l.drop (dn l e (sq k))) e (k + 1)
      have := (dn_fit h).1
      simp only [List.length_cons]
      omega
    · rw [scanB_no h]; exact Nat.le_refl _

/-- The frames of payloads, one behind the other. -/
def framesB (e : W32) : Nat → List (List UInt8) → List UInt8
  | _, [] => []
  | k, p :: ps => frameB e (sq k) p ++ framesB e (k + 1) ps
theorem framesB_snoc (e : W32) (ps : List (List UInt8)) : ∀ k p, framesB e k (ps ++ [p]) = framesB e k ps ++ frameB e (sq (k + ps.length)) p := by
  induction ps with
  | nil => intro k p; simp [framesB]
  | cons x ps ih =>
    intro k p
    show frameB e (sq k) x ++ framesB e (k + 1) (ps ++ [p]) = frameB e (sq k) x ++ framesB e (k + 1) ps ++ _
    rw [ih, List.append_assoc, List.length_cons, show k + 1 + ps.length = k + (ps.length + 1) by omega]
theorem framesB_le (e : W32) (ps : List (List UInt8)) (hp : ∀ p ∈ ps, p.length ≤ 1024) : ∀ k, (framesB e k ps).length ≤ 1038 * ps.length ∧ 14 * ps.length ≤ (framesB e k ps).length := by
  induction ps with
  | nil => intro k; simp [framesB]
  | cons x ps ih =>
    intro k
    have := ih (fun p h => hp p (List.mem_cons_of_mem _ h)) (k + 1)
    have := hp x List.mem_cons_self
    simp only [framesB, List.length_append, frameB_length, List.length_cons]
    omega
theorem scanB_frames (e : W32) (rest : List UInt8) (ps : List (List UInt8)) : ∀ (f k : Nat), ps.length ≤ f → (∀ p ∈ ps, p.length ≤ 1024) →
    scanB f (framesB e k ps ++ rest) e k = (ps ++ (scanB (f - ps.length) rest e (k + ps.length)).1, (framesB e k ps).length + (scanB (f - ps.length) rest e (k + ps.length)).2) := by
  induction ps with
  | nil => intro f k _ _; simp [framesB]
  | cons x ps ih =>
    intro f k hf hp
    match f, hf with
    | f + 1, hf =>
      have hx := hp x List.mem_cons_self
      have e1 : framesB e k (x :: ps) ++ rest = frameB e (sq k) x ++ (framesB e (k + 1) ps ++ rest) := by simp [framesB]
      have e2 : (frameB e (sq k) x ++ (framesB e (k + 1) ps ++ rest)).drop (14 + x.length) = framesB e (k + 1) ps ++ rest := List.drop_left' (frameB_length e (sq k) x)
      rw [e1, scanB_yes (derr_frame e (sq k) x _ hx), dpl_frame _ _ _ _ hx, dn_frame _ _ _ _ hx, e2, ih f (k + 1) (by simpa using hf) (fun p h => hp p (List.mem_cons_of_mem _ h))]
      have e3 : f + 1 - (x :: ps).length = f - ps.length := by simp
      have e4 : k + (x :: ps).length = k + 1 + ps.length := by simp; omega
      rw [e3, e4]
      simp only [framesB, List.length_append, frameB_length, List.cons_append]
      congr 1
      omega
theorem scanB_other (e e' : W32) (he : e ≠ e') (ps : List (List UInt8)) (f : Nat) (hp : ∀ p ∈ ps, p.length ≤ 1024) : scanB f (framesB e 0 ps) e' 0 = ([], 0) := by
  refine scanB_no ?_
  match ps, hp with
  | [], _ => rw [show framesB e 0 [] = [] from rfl, derr_1 (by decide)]; decide
  | x :: ps, hp =>
    show derr (frameB e (sq 0) x ++ framesB e 1 ps) e' (sq 0) ≠ 0
    rw [derr_other e e' (sq 0) x _ (hp x List.mem_cons_self) he]
    decide
theorem next_ne (e : W32) : e ≠ e + 1#32 := by
  intro h
  have := congrArg BitVec.toNat h
  rw [BitVec.toNat_add, show (1#32).toNat = 1 from rfl] at this
  have := e.isLt
  omega

/-- Whether one of the first k bits of the pattern was turned. -/
def anyHit (n a pat : Nat) : Nat → Bool
  | 0 => false
  | k + 1 => anyHit n a pat k || hits n a pat k
theorem anyHit_none {n a pat : Nat} (k : Nat) (h : anyHit n a pat k = false) : ∀ j < k, hits n a pat j = false := by
  induction k with
  | zero => intro j hj; omega
  | succ k ih =>
    intro j hj
    have h' : (anyHit n a pat k || hits n a pat k) = false := h
    rw [Bool.or_eq_false_iff] at h'
    by_cases hjk : j = k
    · subst hjk; exact h'.2
    · exact ih h'.1 j (by omega)
theorem anyHit_some {n a pat : Nat} (k : Nat) (h : anyHit n a pat k = true) : ∃ j < k, hits n a pat j = true := by
  induction k with
  | zero => cases h
  | succ k ih =>
    have h' : (anyHit n a pat k || hits n a pat k) = true := h
    rcases Bool.or_eq_true_iff.1 h' with h' | h'
    · obtain ⟨j, hj, h⟩ := ih h'; exact ⟨j, by omega, h⟩
    · exact ⟨k, by omega, h'⟩
theorem flips_none {l : List UInt8} {a pat : Nat} (h : anyHit l.length a pat 32 = false) : ∀ k, k ≤ 32 → flips l a pat k = l := by
  intro k
  induction k with
  | zero => intro _; rfl
  | succ k ih =>
    intro hk
    unfold flips
    rw [if_neg (by rw [anyHit_none 32 h k (by omega)]; simp), ih (by omega)]
theorem flips_some {l : List UInt8} {a pat : Nat} (h : anyHit l.length a pat 32 = true) : flips l a pat 32 ≠ l := by
  intro hf
  obtain ⟨j, hj, hh⟩ := anyHit_some 32 h
  have hu := upd_flips l a pat 0#32 32 (Nat.le_refl _)
  rw [hf] at hu
  have h0 : stepN (8 * l.length - a) (turned l.length a pat 32) = 0#32 := by
    have := congrArg (crcU 0#32 l ^^^ ·) hu.symm
    simpa [← BitVec.xor_assoc] using this
  have ht := turned_bit l.length a pat 32 j hj (Nat.le_refl _)
  rw [stepN_inj0 _ h0, hh] at ht
  simp [hj] at ht
theorem flips_getD (l : List UInt8) (a pat : Nat) (i : Nat) (hi : i < a / 8) : ∀ k, (flips l a pat k).getD i 0 = l.getD i 0 := by
  intro k
  induction k with
  | zero => rfl
  | succ k ih =>
    unfold flips
    split
    · rw [← ih]
      unfold flipBit
      simp only [List.getD_eq_getElem?_getD]
      rw [List.getElem?_set_ne (by omega)]
    · exact ih
/-- A frame of which some bits within 32 consecutive ones are changed, but not the length. -/
theorem derr_burst (e q : W32) (pl : List UInt8) (a pat : Nat) (hp : pl.length ≤ 1024) (ha : 16 ≤ a) (h : anyHit (frameB e q pl).length a pat 32 = true) : derr (flips (frameB e q pl) a pat 32) e q = 7 := by
  have hlen : lenB (flips (frameB e q pl) a pat 32) = pl.length := by
    have h0 := (frame_parts e q pl [] hp).1
    rw [List.append_nil] at h0
    rw [← h0]
    unfold lenB
    rw [flips_getD _ _ _ 0 (by omega), flips_getD _ _ _ 1 (by omega)]
  have hl : (flips (frameB e q pl) a pat 32).length = 14 + pl.length := by rw [flips_length, frameB_length]
  have hne := flips_some h
  obtain ⟨F, hF⟩ : ∃ F, F = flips (frameB e q pl) a pat 32 := ⟨_, rfl⟩
  rw [← hF] at hlen hl hne ⊢
  refine derr_4 (by omega) (by omega) (by omega) ?_
  rw [hlen]
  have hd : (F.drop (10 + pl.length)).length = 4 := by simp; omega
  match hx : F.drop (10 + pl.length), hd with
  | [w0, w1, w2, w3], _ =>
    intro hw
    have hcut : flips (bodyB e q pl ++ fixedB (crcSum (bodyB e q pl))) a pat 32 = F.take (10 + pl.length) ++ [w0, w1, w2, w3] := by
      rw [← hx, List.take_append_drop, hF]; rfl
    have hb := (burst_word (bodyB e q pl) a pat (F.take (10 + pl.length)) w0 w1 w2 w3 hcut).1 hw.symm
    exact hne (by rw [hF]; exact hb)
end

section
open Go.RowKit

/-- A log: epoch, extent, end, number of records, number of those that are synchronized, whether it has failed. -/
structure Lg where
  e : W32
  f : Int
  c : Int
  fin : Nat
  cnt : Nat
  syn : Nat
  bad : Bool
/-- What Open makes: the disk, the error, the log, its records. -/
structure WOp where
  S : Dsk
  err : Int
  L : Option Lg
  ps : List (List UInt8)
def zeroL (l : List UInt8) : Bool := l.all fun b => b == 0
def Dsk.wclean (S : Dsk) (n : Nat) (f c : Int) (l : List UInt8) (k : Nat) : Dsk × Int := if zeroL (l.drop k) = true then (S, 0) else S.xwrite n f c k (List.replicate (l.length - k) 0)
def Dsk.woC (S : Dsk) (f c : Int) (e : W32) (K : List (List UInt8) × Nat) : WOp := if S.ans true ≠ 0 then ⟨S.synced, S.ans true, none, []⟩ else ⟨S.synced, 0, some ⟨e, f, c, K.2, K.1.length, K.1.length, false⟩, K.1⟩
def Dsk.woB (S : Dsk) (n : Nat) (f c : Int) (e : W32) (l : List UInt8) (K : List (List UInt8) × Nat) : WOp :=
  if (S.wclean n f c l K.2).2 ≠ 0 then ⟨(S.wclean n f c l K.2).1, (S.wclean n f c l K.2).2, none, []⟩ else (S.wclean n f c l K.2).1.woC f c e K
def Dsk.wopen (S : Dsk) (n : Nat) (f c : Int) (e : W32) : WOp :=
  if xvalid n f c = false then ⟨S, 1, none, []⟩
  else if (S.xread n f c 0 (xsize c)).2.1 ≠ 0 then ⟨(S.xread n f c 0 (xsize c)).1, (S.xread n f c 0 (xsize c)).2.1, none, []⟩
  else (S.xread n f c 0 (xsize c)).1.woB n f c e (S.xread n f c 0 (xsize c)).2.2 (scanB ((S.xread n f c 0 (xsize c)).2.2.length + 1) (S.xread n f c 0 (xsize c)).2.2 e 0)
/-- What Append makes: the disk, the error, the log. -/
def Dsk.wapp (S : Dsk) (n : Nat) (L : Lg) (d : List UInt8) : Dsk × Int × Lg :=
  if L.bad = true then (S, 12, L) else if 1024 < d.length then (S, 3, L) else if xsize L.c - L.fin < 14 + (d.length : Int) then (S, 11, L)
  else if (S.xwrite n L.f L.c L.fin (frameB L.e (sq L.cnt) d)).2 ≠ 0 then ((S.xwrite n L.f L.c L.fin (frameB L.e (sq L.cnt) d)).1, (S.xwrite n L.f L.c L.fin (frameB L.e (sq L.cnt) d)).2, { L with bad := true })
  else ((S.xwrite n L.f L.c L.fin (frameB L.e (sq L.cnt) d)).1, 0, { L with fin := L.fin + (14 + d.length), cnt := L.cnt + 1 })
def Dsk.wsync (S : Dsk) (L : Lg) : Dsk × Int × Lg := if L.bad = true then (S, 12, L) else if S.ans true ≠ 0 then (S.synced, S.ans true, { L with bad := true }) else (S.synced, 0, { L with syn := L.cnt })
/-- A log on a disk of n sectors. -/
structure Lg.Ok (n : Nat) (L : Lg) : Prop where
  val : xvalid n L.f L.c = true
  fin : (L.fin : Int) ≤ L.c * 64
  cnt : 14 * L.cnt ≤ L.fin
  syn : L.syn ≤ L.cnt

section
variable {S : Dsk} {n : Nat} {f c : Int} {e : W32}
theorem xvalid_parts (h : xvalid n f c = true) : 0 ≤ f ∧ 1 ≤ c ∧ f + c ≤ n := by simp [xvalid] at h; omega
theorem xsize_valid (hn : n ≤ 4096) (h : xvalid n f c = true) : xsize c = c * 64 := by
  have := xvalid_parts h
  unfold xsize
  rw [if_neg (by omega)]
theorem wopen_1 (h : xvalid n f c = false) : S.wopen n f c e = ⟨S, 1, none, []⟩ := by unfold Dsk.wopen; rw [if_pos h]
theorem wopen_2 (h : xvalid n f c = true) (h2 : (S.xread n f c 0 (xsize c)).2.1 ≠ 0) : S.wopen n f c e = ⟨(S.xread n f c 0 (xsize c)).1, (S.xread n f c 0 (xsize c)).2.1, none, []⟩ := by
  unfold Dsk.wopen; rw [if_neg (by rw [h]; simp), if_pos h2]
theorem wopen_3 (h : xvalid n f c = true) (h2 : (S.xread n f c 0 (xsize c)).2.1 = 0) : S.wopen n f c e = (S.xread n f c 0 (xsize c)).1.woB n f c e (S.xread n f c 0 (xsize c)).2.2 (scanB ((S.xread n f c 0 (xsize c)).2.2.length + 1) (S.xread n f c 0 (xsize c)).2.2 e 0) := by
  unfold Dsk.wopen; rw [if_neg (by rw [h]; simp), if_neg (fun g => g h2)]
theorem woB_bad {l : List UInt8} {K : List (List UInt8) × Nat} (h : (S.wclean n f c l K.2).2 ≠ 0) : S.woB n f c e l K = ⟨(S.wclean n f c l K.2).1, (S.wclean n f c l K.2).2, none, []⟩ := by unfold Dsk.woB; rw [if_pos h]
theorem woB_ok {l : List UInt8} {K : List (List UInt8) × Nat} (h : (S.wclean n f c l K.2).2 = 0) : S.woB n f c e l K = (S.wclean n f c l K.2).1.woC f c e K := by unfold Dsk.woB; rw [if_neg (fun g => g h)]
theorem wclean_yes {l : List UInt8} {k : Nat} (h : zeroL (l.drop k) = true) : S.wclean n f c l k = (S, 0) := by unfold Dsk.wclean; rw [if_pos h]
theorem wclean_no {l : List UInt8} {k : Nat} (h : zeroL (l.drop k) = false) : S.wclean n f c l k = S.xwrite n f c k (List.replicate (l.length - k) 0) := by unfold Dsk.wclean; rw [if_neg (by rw [h]; simp)]
theorem woC_bad {K : List (List UInt8) × Nat} (h : S.ans true ≠ 0) : S.woC f c e K = ⟨S.synced, S.ans true, none, []⟩ := by unfold Dsk.woC; rw [if_pos h]
theorem woC_ok {K : List (List UInt8) × Nat} (h : S.ans true = 0) : S.woC f c e K = ⟨S.synced, 0, some ⟨e, f, c, K.2, K.1.length, K.1.length, false⟩, K.1⟩ := by unfold Dsk.woC; rw [if_neg (fun g => g h)]

theorem rdc_len (f n fu : Nat) : ∀ (off m : Nat) (S : Dsk) (acc : List UInt8), m ≤ fu → 64 * f + off + m ≤ 64 * n → S.Ok n → (rdc f (chs fu off m) S acc).2.1 = 0 → (rdc f (chs fu off m) S acc).2.2.length = acc.length + m := by
  induction fu with
  | zero =>
    intro off m S acc h1 _ _ _
    obtain rfl : m = 0 := by omega
    rfl
  | succ fu ih =>
    intro off m S acc h1 h3 hok h0
    by_cases hm : m = 0
    · subst hm
      rw [chs_nil]
      rfl
    · have k1 := cklen_pos (off := off) (m := m) (by omega)
      have k2 := cklen_le off m
      have k3 := cklen_64 off m
      simp only [chs, if_neg hm, rdc] at h0 ⊢
      by_cases ha : S.ans true ≠ 0
      · rw [if_pos ha] at h0
        exact absurd h0 ha
      · rw [if_neg ha] at h0 ⊢
        rw [ih _ _ _ _ (by omega) (by omega) (hok.done true) h0, List.length_append, List.length_take, List.length_drop, hok.sec (by omega)]
        omega
theorem xread_len (hok : S.Ok n) (hv : xvalid n f c = true) (h0 : (S.xread n f c 0 (xsize c)).2.1 = 0) : ((S.xread n f c 0 (xsize c)).2.2.length : Int) = c * 64 := by
  obtain ⟨hf, hc, hfc⟩ := xvalid_parts hv
  have hs := xsize_valid hok.n4 hv
  have he : xerr n f c 0 (xsize c) = 0 := by
    unfold xerr
    rw [if_neg (by rw [hv]; simp), if_neg (by rw [hs]; omega)]
  have hx : S.xread n f c 0 (xsize c) = rdc f.toNat (ck 0 (xsize c).toNat) S [] := by simp [Dsk.xread, he]
  rw [hx] at h0 ⊢
  have := rdc_len f.toNat n (xsize c).toNat 0 (xsize c).toNat S [] (Nat.le_refl _) (by rw [hs]; have := hok.n4; omega) hok h0
  unfold ck
  rw [this, hs]
  simp
  omega
/-- The log that Open answers is one on this disk. -/
theorem wopen_ok (hok : S.Ok n) {L : Lg} (h : (S.wopen n f c e).L = some L) : L.Ok n ∧ L.f = f ∧ L.c = c ∧ L.e = e := by
  cases hv : xvalid n f c with
  | false => rw [wopen_1 hv] at h; cases h
  | true =>
    by_cases h2 : (S.xread n f c 0 (xsize c)).2.1 = 0
    · have hl := xread_len hok hv h2
      rw [wopen_3 hv h2] at h
      obtain ⟨l, hle⟩ : ∃ l, l = (S.xread n f c 0 (xsize c)).2.2 := ⟨_, rfl⟩
      rw [← hle] at h hl
      obtain ⟨K, hK⟩ : ∃ K, K = scanB (l.length + 1) l e 0 := ⟨_, rfl⟩
      have h1 := (scanB_end (l.length + 1) l e 0).1
      have h3 := scanB_count (l.length + 1) l e 0
      rw [← hK] at h h1 h3
      generalize (S.xread n f c 0 (xsize c)).1 = T at h
      by_cases h4 : (T.wclean n f c l K.2).2 = 0
      · rw [woB_ok h4] at h
        by_cases h5 : (T.wclean n f c l K.2).1.ans true = 0
        · rw [woC_ok h5] at h
          injection h with h
          subst h
          exact ⟨⟨hv, by show (K.2 : Int) ≤ c * 64; omega, h3, Nat.le_refl _⟩, rfl, rfl, rfl⟩
        · rw [woC_bad h5] at h; cases h
      · rw [woB_bad h4] at h; cases h
    · rw [wopen_2 hv h2] at h; cases h
theorem wapp_ok {L : Lg} (hn : n ≤ 4096) (h : L.Ok n) (d : List UInt8) : (S.wapp n L d).2.2.Ok n := by
  unfold Dsk.wapp
  split
  · exact h
  split
  · exact h
  split
  · exact h
  rename_i h3
  split
  · exact ⟨h.val, h.fin, h.cnt, h.syn⟩
  · refine ⟨h.val, ?_, ?_, ?_⟩
    · have := xsize_valid hn h.val
      show ((L.fin + (14 + d.length) : Nat) : Int) ≤ L.c * 64
      omega
    · have := h.cnt
      show 14 * (L.cnt + 1) ≤ L.fin + (14 + d.length)
      omega
    · have := h.syn
      show L.syn ≤ L.cnt + 1
      omega
theorem wsync_ok {L : Lg} (h : L.Ok n) : (S.wsync L).2.2.Ok n := by
  unfold Dsk.wsync
  split
  · exact h
  split
  · exact ⟨h.val, h.fin, h.cnt, h.syn⟩
  · exact ⟨h.val, h.fin, h.cnt, Nat.le_refl _⟩
end

/-- A byte more of the rest is looked at. -/
theorem zero_next (l : List UInt8) (s k : Nat) (hs : s ≤ k) (hk : k < l.length) : zeroL ((l.drop s).take (k + 1 - s)) = (zeroL ((l.drop s).take (k - s)) && (l[k] == 0)) := by
  have h1 : k - s < (l.drop s).length := by simp; omega
  rw [show k + 1 - s = k - s + 1 by omega, List.take_succ_eq_append_getElem h1]
  unfold zeroL
  rw [List.all_append, List.getElem_drop]
  simp only [List.all_cons, List.all_nil, Bool.and_true]
  congr 2
  have : s + (k - s) = k := by omega
  simp [this]
theorem zero_start (l : List UInt8) (s : Nat) : zeroL ((l.drop s).take (s - s)) = true := by simp [zeroL]
theorem zero_all (l : List UInt8) (s : Nat) : zeroL ((l.drop s).take (l.length - s)) = zeroL (l.drop s) := by
  rw [List.take_of_length_le (by simp)]

theorem lg_small {n : Nat} {L : Lg} (hn : n ≤ 4096) (h : L.Ok n) : xsize L.c = L.c * 64 ∧ 64 ≤ xsize L.c ∧ xsize L.c ≤ 262144 ∧ (L.fin : Int) ≤ xsize L.c ∧ 14 * L.cnt ≤ L.fin ∧ L.c ≤ 4096 := by
  have h1 := xsize_valid hn h.val
  have h2 := xvalid_parts h.val
  have h3 := h.fin
  have h4 := h.cnt
  refine ⟨h1, ?_, ?_, ?_, h4, ?_⟩ <;> omega
section
variable {S : Dsk} {n : Nat} {L : Lg} {d : List UInt8}
theorem wapp_bad (h : L.bad = true) : S.wapp n L d = (S, 12, L) := by unfold Dsk.wapp; rw [if_pos h]
theorem wapp_lim (h : L.bad = false) (h2 : 1024 < d.length) : S.wapp n L d = (S, 3, L) := by unfold Dsk.wapp; rw [if_neg (by rw [h]; simp), if_pos h2]
theorem wapp_full (h : L.bad = false) (h2 : ¬ 1024 < d.length) (h3 : xsize L.c - L.fin < 14 + (d.length : Int)) : S.wapp n L d = (S, 11, L) := by unfold Dsk.wapp; rw [if_neg (by rw [h]; simp), if_neg h2, if_pos h3]
theorem wapp_err {T : Dsk} {x : Int} (h : L.bad = false) (h2 : ¬ 1024 < d.length) (h3 : ¬ xsize L.c - L.fin < 14 + (d.length : Int)) (hw : S.xwrite n L.f L.c L.fin (frameB L.e (sq L.cnt) d) = (T, x)) (hx : x ≠ 0) : S.wapp n L d = (T, x, { L with bad := true }) := by
  unfold Dsk.wapp; rw [if_neg (by rw [h]; simp), if_neg h2, if_neg h3, hw, if_pos hx]
theorem wapp_yes {T : Dsk} (h : L.bad = false) (h2 : ¬ 1024 < d.length) (h3 : ¬ xsize L.c - L.fin < 14 + (d.length : Int)) (hw : S.xwrite n L.f L.c L.fin (frameB L.e (sq L.cnt) d) = (T, 0)) : S.wapp n L d = (T, 0, { L with fin := L.fin + (14 + d.length), cnt := L.cnt + 1 }) := by
  unfold Dsk.wapp; rw [if_neg (by rw [h]; simp), if_neg h2, if_neg h3, hw, if_neg (fun g => g rfl)]
end
end

end Go.Proofs.Ytbcfjkfkkklgbaa
