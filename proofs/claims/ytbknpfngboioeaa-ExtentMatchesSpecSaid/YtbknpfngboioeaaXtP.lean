/-
  Ranges of bytes in a range of sectors, as plain data: chunks, reading, writing. No program.
-/
import Derived.Test.YtbknpfngboioeaaDkP
namespace Go.Proofs.Ytbknpfngboioeaa
open Go.RowKit

def xvalid (n : Nat) (f c : Int) : Bool := decide (0 ≤ f) && decide (1 ≤ c) && decide (f + c ≤ n)
def xsize (c : Int) : Int := if c < 0 ∨ 4096 < c then 0 else c * 64
/-- The error of a range that needs no operation. -/
def xerr (n : Nat) (f c off m : Int) : Int := if xvalid n f c = false then 1 else if off < 0 ∨ m < 0 ∨ c * 64 - off < m then 2 else 0

/-- How many of m bytes from off on lie in the first sector. -/
def cklen (off m : Nat) : Nat := min m (64 - off % 64)
theorem cklen_pos {off m : Nat} (h : 0 < m) : 0 < cklen off m := by unfold cklen; omega
theorem cklen_le (off m : Nat) : cklen off m ≤ m := by unfold cklen; omega
theorem cklen_64 (off m : Nat) : off % 64 + cklen off m ≤ 64 := by unfold cklen; omega
/-- The parts of sectors in which m bytes from off on lie: sector, first byte, number of bytes. -/
def chs : Nat → Nat → Nat → List (Nat × Nat × Nat)
  | 0, _, _ => []
  | fu + 1, off, m => if m = 0 then [] else (off / 64, off % 64, cklen off m) :: chs fu (off + cklen off m) (m - cklen off m)
theorem chs_nil (fu off : Nat) : chs fu off 0 = [] := by cases fu <;> simp [chs]
theorem chs_fuel (fu : Nat) : ∀ fv off m, m ≤ fu → m ≤ fv → chs fu off m = chs fv off m := by
  induction fu with
  | zero => intro fv off m h _; obtain rfl : m = 0 := by omega
            rw [chs_nil, chs_nil]
  | succ fu ih =>
    intro fv off m h1 h2
    by_cases hm : m = 0
    · subst hm; rw [chs_nil, chs_nil]
    · cases fv with
      | zero => omega
      | succ fv =>
        have := cklen_pos (off := off) (m := m) (by omega)
        simp only [chs, if_neg hm]
        rw [ih fv _ _ (by omega) (by omega)]
def ck (off m : Nat) : List (Nat × Nat × Nat) := chs m off m
theorem ck_zero (off : Nat) : ck off 0 = [] := rfl
theorem ck_pos {off m : Nat} (h : 0 < m) : ck off m = (off / 64, off % 64, cklen off m) :: ck (off + cklen off m) (m - cklen off m) := by
  unfold ck
  obtain ⟨k, rfl⟩ : ∃ k, m = k + 1 := ⟨m - 1, by omega⟩
  have := cklen_pos (off := off) (m := k + 1) (by omega)
  simp only [chs, if_neg (show ¬ k + 1 = 0 by omega)]
  rw [chs_fuel k (k + 1 - cklen off (k + 1)) _ _ (by omega) (Nat.le_refl _)]
/-- The parts, counted by sectors. -/
def cki (off m i : Nat) : List (Nat × Nat × Nat) := ck (max off (64 * i)) (off + m - max off (64 * i))
theorem cki_start (off m : Nat) : cki off m (off / 64) = ck off m := by
  unfold cki
  have : max off (64 * (off / 64)) = off := by omega
  rw [this, show off + m - off = m by omega]
theorem cki_none (off : Nat) : cki off 0 0 = [] := by
  unfold cki
  have : off + 0 - max off (64 * 0) = 0 := by omega
  rw [this, ck_zero]
theorem cki_end {off m i : Nat} (h : off + m ≤ 64 * i) : cki off m i = [] := by
  unfold cki
  have : off + m - max off (64 * i) = 0 := by omega
  rw [this, ck_zero]
def pfrom (off i : Nat) : Nat := off - 64 * i
def pto (off m i : Nat) : Nat := min (off + m - 64 * i) 64
theorem cki_step {off m i : Nat} (h0 : off / 64 ≤ i) (hm : 0 < m) (h1 : 64 * i < off + m) : cki off m i = (i, pfrom off i, pto off m i - pfrom off i) :: cki off m (i + 1) := by
  unfold cki
  have hr : 0 < off + m - max off (64 * i) := by omega
  rw [ck_pos hr]
  have e1 : max off (64 * i) / 64 = i := by omega
  have e2 : max off (64 * i) % 64 = pfrom off i := by unfold pfrom; omega
  have e3 : cklen (max off (64 * i)) (off + m - max off (64 * i)) = pto off m i - pfrom off i := by unfold cklen pto; rw [e2]; unfold pfrom; omega
  rw [e1, e3, e2]
  congr 1
  by_cases hc : 64 * (i + 1) ≤ off + m
  · have g1 : max off (64 * i) + (pto off m i - pfrom off i) = max off (64 * (i + 1)) := by unfold pto pfrom; omega
    rw [g1, show off + m - max off (64 * i) - (pto off m i - pfrom off i) = off + m - max off (64 * (i + 1)) by unfold pto pfrom; omega]
  · have g1 : off + m - max off (64 * i) - (pto off m i - pfrom off i) = 0 := by unfold pto pfrom; omega
    have g2 : off + m - max off (64 * (i + 1)) = 0 := by omega
    rw [g1, g2, ck_zero, ck_zero]
theorem pfrom_le {off m i : Nat} (h0 : off / 64 ≤ i) (hm : 0 < m) (h1 : 64 * i < off + m) : pfrom off i < pto off m i ∧ pto off m i ≤ 64 := by unfold pfrom pto; omega

/-- Reading parts. -/
def rdc (f : Nat) : List (Nat × Nat × Nat) → Dsk → List UInt8 → Dsk × Int × List UInt8
  | [], S, acc => (S, 0, acc)
  | c :: cs, S, acc => if S.ans true ≠ 0 then (S.done true, S.ans true, []) else rdc f cs (S.done true) (acc ++ ((S.sec (f + c.1)).drop c.2.1).take c.2.2)
/-- Replacing bytes of a sector. -/
def Dsk.repl (S : Dsk) (i p : Nat) (xs : List UInt8) : Dsk × Int :=
  if xs.length = 64 then (S.wrote true i xs, S.ans true)
  else if S.ans true ≠ 0 then (S.done true, S.ans true)
  else ((S.done true).wrote true i (splice (S.sec i) p xs), (S.done true).ans true)
/-- Writing parts. -/
def wrc (f : Nat) : List (Nat × Nat × Nat) → Dsk → List UInt8 → Dsk × Int
  | [], S, _ => (S, 0)
  | c :: cs, S, d => if (S.repl (f + c.1) c.2.1 (d.take c.2.2)).2 ≠ 0 then S.repl (f + c.1) c.2.1 (d.take c.2.2) else wrc f cs (S.repl (f + c.1) c.2.1 (d.take c.2.2)).1 (d.drop c.2.2)
def Dsk.xread (S : Dsk) (n : Nat) (f c off m : Int) : Dsk × Int × List UInt8 := if xerr n f c off m ≠ 0 then (S, xerr n f c off m, []) else rdc f.toNat (ck off.toNat m.toNat) S []
def Dsk.xwrite (S : Dsk) (n : Nat) (f c off : Int) (d : List UInt8) : Dsk × Int := if xerr n f c off d.length ≠ 0 then (S, xerr n f c off d.length) else wrc f.toNat (ck off.toNat d.length) S d
theorem Dsk.Ok.wrote {n : Nat} {S : Dsk} (h : S.Ok n) (ok : Bool) {i : Nat} (hi : i < n) {xs : List UInt8} (hx : xs.length = 64) : (S.wrote ok i xs).Ok n := by
  unfold Dsk.wrote
  split
  · exact h.begun ok
  · exact (h.done ok).put hi hx
theorem splice_len {α : Type} {L cs : List α} {off : Nat} (h : off + cs.length ≤ L.length) : (splice L off cs).length = L.length := by
  unfold splice
  simp
  omega
theorem sec_done (S : Dsk) (ok : Bool) (i : Nat) : (S.done ok).sec i = S.sec i := by
  unfold Dsk.done Dsk.begun Dsk.tick Dsk.cut Dsk.sec
  repeat' split
  all_goals rfl
theorem xerr_fine {n : Nat} {f c off m : Int} (h : xerr n f c off m = 0) : ∃ f' c' off' m' : Nat, f = f' ∧ c = c' ∧ off = off' ∧ m = m' ∧ 1 ≤ c' ∧ f' + c' ≤ n ∧ off' + m' ≤ 64 * c' := by
  unfold xerr at h
  split at h
  · cases h
  · rename_i hv
    split at h
    · cases h
    · rename_i h2
      simp [xvalid] at hv
      exact ⟨f.toNat, c.toNat, off.toNat, m.toNat, by omega, by omega, by omega, by omega, by omega, by omega, by omega⟩

end Go.Proofs.Ytbknpfngboioeaa
