/-
  Plain mathematics of the checksum: no program.
-/
import Derived.Test.YtdahnkampjkelaaBase
namespace Go.Proofs.Ytdahnkampjkelaa

abbrev W32 := BitVec 32
def polyW : W32 := 0xEDB88320#32
def stepB (c : W32) : W32 := if c.getLsbD 0 then (c >>> 1) ^^^ polyW else c >>> 1
def stepN : Nat → W32 → W32
  | 0, c => c
  | n + 1, c => stepN n (stepB c)

theorem xor_swap (a b c d : W32) : (a ^^^ b) ^^^ (c ^^^ d) = (a ^^^ c) ^^^ (b ^^^ d) := by
  ac_rfl
theorem stepB_xor (a b : W32) : stepB (a ^^^ b) = stepB a ^^^ stepB b := by
  unfold stepB
  rw [BitVec.getLsbD_xor, BitVec.ushiftRight_xor_distrib]
  cases a.getLsbD 0 <;> cases b.getLsbD 0 <;> simp
  · ac_rfl
  · ac_rfl
  · rw [xor_swap, BitVec.xor_self]; simp
theorem stepB_zero : stepB 0#32 = 0#32 := by decide
theorem stepB_inj0 {c : W32} (h : stepB c = 0#32) : c = 0#32 := by
  unfold stepB at h
  by_cases hb : c.getLsbD 0 = true
  · rw [if_pos hb] at h
    have := congrArg (fun x : W32 => x.getLsbD 31) h
    simp [polyW, BitVec.getLsbD_ushiftRight] at this
  · rw [if_neg hb] at h
    apply BitVec.eq_of_getLsbD_eq
    intro i hi
    match i with
    | 0 => simpa using hb
    | i + 1 =>
      have := congrArg (fun x : W32 => x.getLsbD i) h
      simpa [BitVec.getLsbD_ushiftRight, Nat.add_comm] using this

theorem stepN_add (m n : Nat) : ∀ c, stepN (m + n) c = stepN n (stepN m c) := by
  induction m with
  | zero => intro c; simp [stepN]
  | succ m ih => intro c; rw [Nat.succ_add]; exact ih (stepB c)
theorem stepN_succ (n : Nat) (c : W32) : stepN (n + 1) c = stepB (stepN n c) := stepN_add n 1 c
theorem stepN_xor (n : Nat) : ∀ a b, stepN n (a ^^^ b) = stepN n a ^^^ stepN n b := by
  induction n with
  | zero => intro a b; rfl
  | succ n ih => intro a b; show stepN n (stepB (a ^^^ b)) = _; rw [stepB_xor, ih]; rfl
theorem stepN_zero (n : Nat) : stepN n 0#32 = 0#32 := by
  induction n with
  | zero => rfl
  | succ n ih => show stepN n (stepB 0#32) = 0#32; rw [stepB_zero, ih]
theorem stepN_inj0 (n : Nat) : ∀ {c}, stepN n c = 0#32 → c = 0#32 := by
  induction n with
  | zero => intro c h; exact h
  | succ n ih => intro c h; exact stepB_inj0 (ih h)
theorem xor_eq_zero {a b : W32} : a ^^^ b = 0#32 ↔ a = b := by
  constructor
  · intro h
    have := congrArg (· ^^^ b) h
    simpa [BitVec.xor_assoc] using this
  · rintro rfl; exact BitVec.xor_self
theorem stepN_inj (n : Nat) {a b : W32} (h : stepN n a = stepN n b) : a = b :=
  xor_eq_zero.1 (stepN_inj0 n (by rw [stepN_xor, h, BitVec.xor_self]))
theorem stepN_one : ∀ i < 32, stepN i (1#32 <<< i) = 1#32 := by decide +kernel

/-- A byte as a number of 32 bits. -/
def b32 (b : UInt8) : W32 := BitVec.ofNat 32 b.toNat
theorem b32_toNat (b : UInt8) : (b32 b).toNat = b.toNat := by
  have := b.toNat_lt
  simp only [b32, BitVec.toNat_ofNat]
  omega
theorem b32_xor (a b : UInt8) : b32 (a ^^^ b) = b32 a ^^^ b32 b := by
  apply BitVec.eq_of_toNat_eq
  rw [BitVec.toNat_xor, b32_toNat, b32_toNat, b32_toNat, UInt8.toNat_xor]
def updB (c : W32) (b : UInt8) : W32 := stepN 8 (c ^^^ b32 b)
def crcU (c : W32) (l : List UInt8) : W32 := l.foldl updB c
def crcUpd (s : W32) (l : List UInt8) : W32 := ~~~ crcU (~~~ s) l
def crcSum (l : List UInt8) : W32 := crcUpd 0#32 l
def crcComb (a b : W32) (n : Nat) : W32 := b ^^^ stepN (8 * n) a

theorem upd_cons (c : W32) (b : UInt8) (l : List UInt8) : crcU c (b :: l) = crcU (updB c b) l := rfl
theorem upd_append (c : W32) (l m : List UInt8) : crcU c (l ++ m) = crcU (crcU c l) m := List.foldl_append
theorem upd_take_succ (c : W32) (l : List UInt8) (k : Nat) (h : k < l.length) : crcU c (l.take (k + 1)) = updB (crcU c (l.take k)) l[k] := by
  rw [List.take_succ_eq_append_getElem h, upd_append]; rfl
theorem updB_xor (c e : W32) (b : UInt8) : updB (c ^^^ e) b = updB c b ^^^ stepN 8 e := by
  unfold updB
  rw [← stepN_xor]
  congr 1
  ac_rfl
theorem upd_xor (l : List UInt8) : ∀ (c e : W32), crcU (c ^^^ e) l = crcU c l ^^^ stepN (8 * l.length) e := by
  induction l with
  | nil => intro c e; rfl
  | cons b l ih =>
    intro c e
    rw [upd_cons, upd_cons, updB_xor, ih, List.length_cons, Nat.mul_add, Nat.add_comm (8 * l.length), Nat.mul_one, stepN_add]
theorem upd_inj (l : List UInt8) {c c' : W32} (h : crcU c l = crcU c' l) : c = c' := by
  have e : c = c' ^^^ (c' ^^^ c) := by rw [← BitVec.xor_assoc, BitVec.xor_self, BitVec.zero_xor]
  rw [e, upd_xor] at h
  have h0 : stepN (8 * l.length) (c' ^^^ c) = 0#32 := by
    have := congrArg (crcU c' l ^^^ ·) h
    simpa [← BitVec.xor_assoc] using this
  exact (xor_eq_zero.1 (stepN_inj0 _ h0)).symm

theorem crcUpd_append (s : W32) (x y : List UInt8) : crcUpd (crcUpd s x) y = crcUpd s (x ++ y) := by
  unfold crcUpd
  rw [BitVec.not_not, upd_append]
theorem not_xor_not (a b : W32) : ~~~ a ^^^ ~~~ b = a ^^^ b := by
  rw [← BitVec.not_xor_left, ← BitVec.not_xor_right, BitVec.not_not]
theorem crcComb_append (x y : List UInt8) : crcComb (crcSum x) (crcSum y) y.length = crcSum (x ++ y) := by
  have h : ~~~ crcSum x = ~~~ 0#32 ^^^ crcSum x := by
    have := not_xor_not (0#32) (~~~ crcSum x)
    rw [BitVec.not_not] at this
    rw [this]
    simp
  show crcSum y ^^^ stepN (8 * y.length) (crcSum x) = crcSum (x ++ y)
  rw [show crcSum (x ++ y) = crcUpd (crcSum x) y from (crcUpd_append 0#32 x y).symm]
  conv => rhs; unfold crcUpd; rw [h, upd_xor]
  rw [BitVec.not_xor_left]
  rfl
theorem crcComb_assoc (x y z : W32) (m n : Nat) : crcComb (crcComb x y m) z n = crcComb x (crcComb y z n) (m + n) := by
  unfold crcComb
  rw [stepN_xor, Nat.mul_add, stepN_add]
  ac_rfl

/-- The affine law: three sequences of the same length. -/
theorem upd_three (c : W32) : ∀ (x y z : List UInt8) (a b : W32), x.length = y.length → y.length = z.length →
    crcU (a ^^^ b ^^^ c) (List.zipWith (· ^^^ ·) (List.zipWith (· ^^^ ·) x y) z) = crcU a x ^^^ crcU b y ^^^ crcU c z := by
  intro x
  induction x generalizing c with
  | nil =>
    intro y z a b h1 h2
    obtain rfl : y = [] := List.eq_nil_of_length_eq_zero (by simpa using h1.symm)
    obtain rfl : z = [] := List.eq_nil_of_length_eq_zero (by simpa using h2.symm)
    rfl
  | cons p x ih =>
    intro y z a b h1 h2
    match y, z, h1, h2 with
    | q :: y, r :: z, h1, h2 =>
      simp only [List.zipWith_cons_cons, upd_cons]
      rw [← ih _ y z _ _ (by simpa using h1) (by simpa using h2)]
      congr 1
      unfold updB
      rw [← stepN_xor, ← stepN_xor, b32_xor, b32_xor]
      congr 1
      ac_rfl
theorem crcSum_three (x y z : List UInt8) (h1 : x.length = y.length) (h2 : y.length = z.length) :
    crcSum (List.zipWith (· ^^^ ·) (List.zipWith (· ^^^ ·) x y) z) = crcSum x ^^^ crcSum y ^^^ crcSum z := by
  have h := upd_three (~~~ 0#32) x y z (~~~ 0#32) (~~~ 0#32) h1 h2
  rw [BitVec.xor_self, BitVec.zero_xor] at h
  unfold crcSum crcUpd
  rw [h, not_xor_not, BitVec.not_xor_right]

/-- One bit turned. -/
theorem upd_set : ∀ (l : List UInt8) (j : Nat) (h : j < l.length) (m : UInt8) (c : W32), crcU c (l.set j (l[j] ^^^ m)) = crcU c l ^^^ stepN (8 * (l.length - j)) (b32 m) := by
  intro l
  induction l with
  | nil => intro j h; exact absurd h (by simp)
  | cons b l ih =>
    intro j h m c
    match j, h with
    | 0, h =>
      simp only [List.set_cons_zero, List.getElem_cons_zero, upd_cons, List.length_cons]
      rw [show updB c (b ^^^ m) = updB (c ^^^ b32 m) b by unfold updB; rw [b32_xor]; congr 1; ac_rfl, updB_xor, upd_xor, ← stepN_add]
      congr 2
      omega
    | j + 1, h =>
      simp only [List.set_cons_succ, List.getElem_cons_succ, upd_cons, List.length_cons]
      rw [ih j (by simpa using h) m (updB c b)]
      congr 2
      omega

/-- The mask of one bit of a byte. -/
def mask8 (k : Nat) : UInt8 := UInt8.ofNat (2 ^ k)
theorem mask8_b32 : ∀ k < 8, b32 (mask8 k) = 1#32 <<< k := by decide
theorem mask8_ne : ∀ k < 8, mask8 k ≠ 0 := by decide
/-- The bit p of l is turned. -/
def flipBit (l : List UInt8) (p : Nat) : List UInt8 := l.set (p / 8) (l.getD (p / 8) 0 ^^^ mask8 (p % 8))
theorem flipBit_length (l : List UInt8) (p : Nat) : (flipBit l p).length = l.length := by simp [flipBit]
theorem upd_flipBit (l : List UInt8) (p : Nat) (h : p / 8 < l.length) (c : W32) : crcU c (flipBit l p) = crcU c l ^^^ stepN (8 * l.length - p) 1#32 := by
  unfold flipBit
  rw [List.getD_eq_getElem?_getD, List.getElem?_eq_getElem h, Option.getD_some, upd_set l _ h, mask8_b32 _ (Nat.mod_lt _ (by omega))]
  congr 1
  rw [show 8 * (l.length - p / 8) = p % 8 + (8 * l.length - p) by omega, stepN_add, stepN_one _ (by omega)]

/-- The bits of a pattern, from the bit 'at' on, are turned: the first k of the 32. -/
def hits (n a : Nat) (pat : Nat) (k : Nat) : Bool := decide (pat / 2 ^ k % 2 = 1) && decide ((a + k) / 8 < n)
def flips (l : List UInt8) (a pat : Nat) : Nat → List UInt8
  | 0 => l
  | k + 1 => if hits l.length a pat k then flipBit (flips l a pat k) (a + k) else flips l a pat k
def turned (n a pat : Nat) : Nat → W32
  | 0 => 0#32
  | k + 1 => if hits n a pat k then turned n a pat k ^^^ 1#32 <<< k else turned n a pat k
theorem flips_length (l : List UInt8) (a pat k : Nat) : (flips l a pat k).length = l.length := by
  induction k with
  | zero => rfl
  | succ k ih => unfold flips; split <;> simp [flipBit_length, ih]
theorem turned_bit (n a pat k : Nat) : ∀ j, j < 32 → k ≤ 32 → (turned n a pat k).getLsbD j = (decide (j < k) && hits n a pat j) := by
  induction k with
  | zero => intro j _ _; simp [turned]
  | succ k ih =>
    intro j hj hk
    unfold turned
    split
    · rename_i h
      rw [BitVec.getLsbD_xor, ih j hj (by omega)]
      simp only [BitVec.getLsbD_shiftLeft, BitVec.getLsbD_one]
      by_cases hjk : j = k
      · subst hjk; simp [h, hj]
      · by_cases hlt : j < k
        · simp [hlt, hj, show j < k + 1 by omega]
        · have h1 : ¬ j < k + 1 := by omega
          have h2 : j - k ≠ 0 := by omega
          simp [hlt, hj, h1, h2]
    · rename_i h
      rw [ih j hj (by omega)]
      by_cases hjk : j = k
      · subst hjk; simp at h; simp [h]
      · by_cases hlt : j < k
        · simp [hlt, show j < k + 1 by omega]
        · simp [hlt, show ¬ j < k + 1 by omega]
theorem turned_zero (l : List UInt8) (a pat : Nat) (h : turned l.length a pat 32 = 0#32) : ∀ k, k ≤ 32 → flips l a pat k = l := by
  intro k
  induction k with
  | zero => intro _; rfl
  | succ k ih =>
    intro hk
    have := turned_bit l.length a pat 32 k (by omega) (Nat.le_refl _)
    rw [h] at this
    simp [show k < 32 by omega] at this
    unfold flips
    rw [if_neg (by simp [this]), ih (by omega)]
theorem upd_flips (l : List UInt8) (a pat : Nat) (c : W32) : ∀ k, k ≤ 32 → crcU c (flips l a pat k) = crcU c l ^^^ stepN (8 * l.length - a) (turned l.length a pat k) := by
  intro k
  induction k with
  | zero => intro _; simp [flips, turned, stepN_zero]
  | succ k ih =>
    intro hk
    unfold flips turned
    split
    · rename_i h
      have hlt : (a + k) / 8 < l.length := by simp [hits] at h; exact h.2
      rw [upd_flipBit _ _ (by rw [flips_length]; exact hlt), ih (by omega), stepN_xor, flips_length, BitVec.xor_assoc]
      congr 2
      rw [show 8 * l.length - a = k + (8 * l.length - (a + k)) by omega, stepN_add, stepN_one _ (by omega)]
    · exact ih (by omega)
/-- A burst is noticed. -/
theorem burst (l : List UInt8) (a pat : Nat) (c : W32) : crcU c (flips l a pat 32) = crcU c l ↔ flips l a pat 32 = l := by
  constructor
  · intro h
    rw [upd_flips l a pat c 32 (Nat.le_refl _)] at h
    have h0 : stepN (8 * l.length - a) (turned l.length a pat 32) = 0#32 := by
      have := congrArg (crcU c l ^^^ ·) h
      simpa [← BitVec.xor_assoc] using this
    exact turned_zero l a pat (stepN_inj0 _ h0) 32 (Nat.le_refl _)
  · intro h; rw [h]
theorem not_inj {a b : W32} (h : ~~~ a = ~~~ b) : a = b := by rw [← BitVec.not_not (b := a), h, BitVec.not_not]
theorem burst_sum (l : List UInt8) (a pat : Nat) : crcSum (flips l a pat 32) = crcSum l ↔ flips l a pat 32 = l := by
  rw [← burst l a pat (~~~ 0#32)]
  exact ⟨fun h => not_inj h, fun h => by unfold crcSum crcUpd; rw [h]⟩

/-- Four bytes, the least significant one first. -/
def fixedB (s : W32) : List UInt8 := [UInt8.ofNat s.toNat, UInt8.ofNat (s.toNat / 256), UInt8.ofNat (s.toNat / 65536), UInt8.ofNat (s.toNat / 16777216)]
def fixedW (p q r s : UInt8) : W32 := BitVec.ofNat 32 (p.toNat + q.toNat * 256 + r.toNat * 65536 + s.toNat * 16777216)
theorem fixedW_toNat (p q r s : UInt8) : (fixedW p q r s).toNat = p.toNat + q.toNat * 256 + r.toNat * 65536 + s.toNat * 16777216 := by
  have := p.toNat_lt
  have := q.toNat_lt
  have := r.toNat_lt
  have := s.toNat_lt
  simp only [fixedW, BitVec.toNat_ofNat]
  omega
theorem join_xor (i x y : Nat) (hy : y < 2 ^ i) : y ^^^ (x * 2 ^ i) = y + x * 2 ^ i := by
  have e : y + x * 2 ^ i = 2 ^ i * x ||| y := by rw [← Nat.two_pow_add_eq_or_of_lt hy]; rw [Nat.mul_comm, Nat.add_comm]
  rw [e, Nat.mul_comm]
  apply Nat.eq_of_testBit_eq
  intro j
  rw [Nat.testBit_xor, Nat.testBit_or, Nat.testBit_two_pow_mul]
  by_cases h : j ≥ i
  · have : y.testBit j = false := Nat.testBit_lt_two_pow (Nat.lt_of_lt_of_le hy (Nat.pow_le_pow_right (by omega) h))
    simp [this]
  · simp [h]
theorem shl_toNat (b : UInt8) (k : Nat) (hk : k ≤ 24) : (b32 b <<< k).toNat = b.toNat * 2 ^ k := by
  have := b.toNat_lt
  rw [BitVec.toNat_shiftLeft, b32_toNat, Nat.shiftLeft_eq, Nat.mod_eq_of_lt]
  calc b.toNat * 2 ^ k < 256 * 2 ^ k := Nat.mul_lt_mul_of_pos_right (by omega) (Nat.two_pow_pos k)
    _ ≤ 256 * 2 ^ 24 := Nat.mul_le_mul_left _ (Nat.pow_le_pow_right (by omega) hk)
    _ = 2 ^ 32 := by decide
theorem fixedW_xor (p q r s : UInt8) : fixedW p q r s = b32 p ^^^ b32 q <<< 8 ^^^ b32 r <<< 16 ^^^ b32 s <<< 24 := by
  have hp := p.toNat_lt
  have hq := q.toNat_lt
  have hr := r.toNat_lt
  apply BitVec.eq_of_toNat_eq
  rw [fixedW_toNat, BitVec.toNat_xor, BitVec.toNat_xor, BitVec.toNat_xor, shl_toNat _ _ (by omega), shl_toNat _ _ (by omega), shl_toNat _ _ (by omega), b32_toNat]
  rw [join_xor 8 _ _ (by omega), join_xor 16 _ _ (by omega), join_xor 24 _ _ (by omega)]
theorem stepN_shl : ∀ n < 256, stepN 8 (BitVec.ofNat 32 n <<< 8) = BitVec.ofNat 32 n ∧ stepN 16 (BitVec.ofNat 32 n <<< 16) = BitVec.ofNat 32 n ∧ stepN 24 (BitVec.ofNat 32 n <<< 24) = BitVec.ofNat 32 n := by
  decide +kernel
theorem stepN_shl8 (b : UInt8) : stepN 8 (b32 b <<< 8) = b32 b := (stepN_shl b.toNat b.toNat_lt).1
theorem stepN_shl16 (b : UInt8) : stepN 16 (b32 b <<< 16) = b32 b := (stepN_shl b.toNat b.toNat_lt).2.1
theorem stepN_shl24 (b : UInt8) : stepN 24 (b32 b <<< 24) = b32 b := (stepN_shl b.toNat b.toNat_lt).2.2
theorem upd_fixed (c : W32) (p q r s : UInt8) : crcU c [p, q, r, s] = stepN 32 (c ^^^ fixedW p q r s) := by
  show updB (updB (updB (updB c p) q) r) s = _
  unfold updB
  have e1 : stepN 8 (c ^^^ b32 p) ^^^ b32 q = stepN 8 (c ^^^ b32 p ^^^ b32 q <<< 8) := by rw [stepN_xor 8 (c ^^^ b32 p) (b32 q <<< 8), stepN_shl8]
  have e2 : stepN 8 (stepN 8 (c ^^^ b32 p ^^^ b32 q <<< 8)) ^^^ b32 r = stepN 16 (c ^^^ b32 p ^^^ b32 q <<< 8 ^^^ b32 r <<< 16) := by
    rw [← stepN_add, stepN_xor 16 (c ^^^ b32 p ^^^ b32 q <<< 8) (b32 r <<< 16), stepN_shl16]
  have e3 : stepN 8 (stepN 16 (c ^^^ b32 p ^^^ b32 q <<< 8 ^^^ b32 r <<< 16)) ^^^ b32 s = stepN 24 (c ^^^ b32 p ^^^ b32 q <<< 8 ^^^ b32 r <<< 16 ^^^ b32 s <<< 24) := by
    rw [← stepN_add, stepN_xor 24 (c ^^^ b32 p ^^^ b32 q <<< 8 ^^^ b32 r <<< 16) (b32 s <<< 24), stepN_shl24]
  rw [e1, e2, e3, ← stepN_add, fixedW_xor]
  simp only [BitVec.xor_assoc]
theorem fixedW_fixedB (s : W32) : fixedW (UInt8.ofNat s.toNat) (UInt8.ofNat (s.toNat / 256)) (UInt8.ofNat (s.toNat / 65536)) (UInt8.ofNat (s.toNat / 16777216)) = s := by
  have := s.isLt
  apply BitVec.eq_of_toNat_eq
  rw [fixedW_toNat]
  simp only [UInt8.toNat_ofNat']
  omega
theorem sum_eq_iff (x : List UInt8) (s : W32) : crcSum x = s ↔ crcU (~~~ 0#32) x ^^^ s = ~~~ 0#32 := by
  unfold crcSum crcUpd
  constructor
  · rintro rfl; rw [← BitVec.not_xor_right, BitVec.xor_self]
  · intro h
    have := congrArg (crcU (~~~ 0#32) x ^^^ ·) h
    simp only [← BitVec.xor_assoc, BitVec.xor_self, BitVec.zero_xor] at this
    rw [this, ← BitVec.not_xor_right, BitVec.xor_zero]
/-- Data that are followed by their checksum: a burst is noticed. -/
theorem burst_word (l : List UInt8) (a pat : Nat) (x : List UInt8) (p q r s : UInt8) (h : flips (l ++ fixedB (crcSum l)) a pat 32 = x ++ [p, q, r, s]) :
    crcSum x = fixedW p q r s ↔ flips (l ++ fixedB (crcSum l)) a pat 32 = l ++ fixedB (crcSum l) := by
  have hw : crcU (~~~ 0#32) (l ++ fixedB (crcSum l)) = stepN 32 (~~~ 0#32) := by
    rw [upd_append, fixedB, upd_fixed, fixedW_fixedB, (sum_eq_iff l (crcSum l)).1 rfl]
  rw [← burst _ a pat (~~~ 0#32), hw, h, upd_append, upd_fixed, sum_eq_iff]
  exact ⟨fun e => by rw [e], fun e => stepN_inj 32 e⟩

end Go.Proofs.Ytdahnkampjkelaa
