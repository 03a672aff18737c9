/-
  Contracts of wire.Fixed and of the reference's DecodeFixed (layer 3), over any bytes.
-/
import Derived.Test.YtealjcpgcghfpaaWir5
import Derived.BigQuiet
import Derived.Deep.QuietTactic
import Derived.WalkSmall
namespace Go.Proofs.Ytealjcpgcghfpaa
open Go.RowKit

/-- What decoding a fixed number gives, as the walk's numbers. -/
def dx (l : List UInt8) : Int := ((decX l).1 : Int)
def dxe (l : List UInt8) : Int := ((decX l).2 : Int)
theorem x_short {l : List UInt8} (h : l.length < 4) : dx l = 0 ∧ dxe l = 5 := by unfold dx dxe decX; rw [if_pos h]; exact ⟨rfl, rfl⟩
theorem x_long {l : List UInt8} (h : ¬ l.length < 4) : dx l = (fixV l : Int) ∧ dxe l = 0 := by unfold dx dxe decX; rw [if_neg h]; exact ⟨rfl, rfl⟩
theorem x_enc {x : Int} (h0 : 0 ≤ x) (h1 : x < 4294967296) (rest : List UInt8) : dx (fixE x.toNat ++ rest) = x ∧ dxe (fixE x.toNat ++ rest) = 0 := by
  have h := decX_fixE (v := x.toNat) (by omega) rest
  unfold dx dxe
  rw [h]
  exact ⟨by simp only; omega, rfl⟩
attribute [irreducible] dx dxe

theorem cell_byte {w : World} {B n b off : Nat} {l : List UInt8} (h : Has w B (some ⟨b, off, none⟩) n (l.map bv)) (k : Nat) (hk : k < n) : w.cell? ⟨b, off + k, none⟩ = some (.int .u8 ((l.getD k 0).toNat : Int)) := by
  have hl : l.length = n := by simpa using h.1
  obtain ⟨b', off', e, _, hc⟩ := h.at_ hk
  injection e with e
  injection e with e1 e2 _
  subst e1 e2
  rw [hc, List.getElem_map, bv_eq, getD_at l k (by omega)]
theorem or32 (a b : Int) (k : Nat) (ha0 : 0 ≤ a) (ha : a.toNat < 2 ^ k) (ha2 : a < 4294967296) (hb0 : 0 ≤ b) (hb : b * 2 ^ k < 4294967296) : bits .or .u32 a (b * 2 ^ k) = a + b * 2 ^ k := by
  obtain ⟨m, rfl⟩ := Int.eq_ofNat_of_zero_le ha0
  obtain ⟨n, rfl⟩ := Int.eq_ofNat_of_zero_le hb0
  have hp : (n : Int) * 2 ^ k = ((2 ^ k * n : Nat) : Int) := by push_cast; exact Int.mul_comm _ _
  rw [hp] at hb ⊢
  have hm : m < 2 ^ k := by simpa using ha
  rw [u32_or_nat _ _ (by omega) (by omega), Nat.or_comm, ← Nat.two_pow_add_eq_or_of_lt hm]
  push_cast
  omega

set_option maxHeartbeats 1000000 in
theorem fixed_any (A : Option Addr) (len cap B : Nat) (l : List UInt8) (w : World) (hA : Has w B A len (l.map bv)) (hlen : len ≤ 1000000000) :
    Calls Try.prog 21 #[.slice A len cap] w fun e w' => e = .returned (.tuple #[.int .u32 (dx l), .int .i64 (dxe l)]) ∧ Below w.heap.size w w' := by
  have hL : l.length = len := by simpa using hA.1
  by_cases hsh : len < 4
  · have HD := Lib.hid (x_short (l := l) (by omega))
    have hsh' : (len : Int) < 4 := by omega
    clear hL hA
    go_enter Try.func21, Try.ntmps21
    go_wp2
    go_ret2
    exact ⟨by rw [HD.out.1, HD.out.2]; rfl, Below.refl _ _⟩
  · have HD := Lib.hid (x_long (l := l) (by omega))
    have hsh' : ¬ (len : Int) < 4 := by omega
    obtain ⟨b, off, rfl, _, _⟩ := hA.2 (by omega)
    have c0 : w.cell? ⟨b, off, none⟩ = some (.int .u8 ((l.getD 0 0).toNat : Int)) := cell_byte hA 0 (by omega)
    have c1 : w.cell? ⟨b, off + 1, none⟩ = some (.int .u8 ((l.getD 1 0).toNat : Int)) := cell_byte hA 1 (by omega)
    have c2 : w.cell? ⟨b, off + 2, none⟩ = some (.int .u8 ((l.getD 2 0).toNat : Int)) := cell_byte hA 2 (by omega)
    have c3 : w.cell? ⟨b, off + 3, none⟩ = some (.int .u8 ((l.getD 3 0).toNat : Int)) := cell_byte hA 3 (by omega)
    have hv : (fixV l : Int) = ((l.getD 0 0).toNat : Int) + ((l.getD 1 0).toNat : Int) * 256 + ((l.getD 2 0).toNat : Int) * 65536 + ((l.getD 3 0).toNat : Int) * 16777216 := by unfold fixV; omega
    have k0 := byte_lt (l.getD 0 0)
    have k1 := byte_lt (l.getD 1 0)
    have k2 := byte_lt (l.getD 2 0)
    have k3 := byte_lt (l.getD 3 0)
    obtain ⟨y0, hy0⟩ : ∃ v : Int, v = ((l.getD 0 0).toNat : Int) := ⟨_, rfl⟩
    obtain ⟨y1, hy1⟩ : ∃ v : Int, v = ((l.getD 1 0).toNat : Int) := ⟨_, rfl⟩
    obtain ⟨y2, hy2⟩ : ∃ v : Int, v = ((l.getD 2 0).toNat : Int) := ⟨_, rfl⟩
    obtain ⟨y3, hy3⟩ : ∃ v : Int, v = ((l.getD 3 0).toNat : Int) := ⟨_, rfl⟩
    have g00 : 0 ≤ y0 := by omega
    have g10 : 0 ≤ y1 := by omega
    have g20 : 0 ≤ y2 := by omega
    have g30 : 0 ≤ y3 := by omega
    rw [← hy0] at c0 k0
    rw [← hy1] at c1 k1
    rw [← hy2] at c2 k2
    rw [← hy3] at c3 k3
    rw [← hy0, ← hy1, ← hy2, ← hy3] at hv
    have HV := Lib.hid hv
    have o1 := or32 y0 y1 8 g00 (by omega) (by omega) g10 (by omega)
    have o2 := or32 (y0 + y1 * 2 ^ 8) y2 16 (by omega) (by omega) (by omega) g20 (by omega)
    have o3 := or32 (y0 + y1 * 2 ^ 8 + y2 * 2 ^ 16) y3 24 (by omega) (by omega) (by omega) g30 (by omega)
    have p8 : (2 : Int) ^ 8 = 256 := by decide
    have p16 : (2 : Int) ^ 16 = 65536 := by decide
    have p24 : (2 : Int) ^ 24 = 16777216 := by decide
    rw [p8] at o1
    rw [p8, p16] at o2
    rw [p8, p16, p24] at o3
    clear p8 p16 p24
    clear hv hy0 hy1 hy2 hy3 hA hL
    go_enter Try.func21, Try.ntmps21
    go_wp2
    go_quiet (fail)
    go_wp2
    go_ret2
    exact ⟨by rw [HD.out.1, HD.out.2, HV.out]; rfl, below_drewN (Below.refl _ _) _⟩

set_option maxHeartbeats 1000000 in
theorem refDecFixed_any (A : Option Addr) (len cap B : Nat) (l : List UInt8) (w : World) (hA : Has w B A len (l.map bv)) (hlen : len ≤ 1000000000) :
    Calls Try.prog 22 #[.slice A len cap] w fun e w' => e = .returned (.tuple #[.int .u32 (dx l), .int .i64 (dxe l)]) ∧ Below w.heap.size w w' := by
  have hL : l.length = len := by simpa using hA.1
  by_cases hsh : len < 4
  · have HD := Lib.hid (x_short (l := l) (by omega))
    have hsh' : (len : Int) < 4 := by omega
    clear hL hA
    go_enter Try.func22, Try.ntmps22
    go_wp2
    go_ret2
    exact ⟨by rw [HD.out.1, HD.out.2]; rfl, Below.refl _ _⟩
  · have HD := Lib.hid (x_long (l := l) (by omega))
    have hsh' : ¬ (len : Int) < 4 := by omega
    obtain ⟨b, off, rfl, _, _⟩ := hA.2 (by omega)
    have c0 : w.cell? ⟨b, off, none⟩ = some (.int .u8 ((l.getD 0 0).toNat : Int)) := cell_byte hA 0 (by omega)
    have c1 : w.cell? ⟨b, off + 1, none⟩ = some (.int .u8 ((l.getD 1 0).toNat : Int)) := cell_byte hA 1 (by omega)
    have c2 : w.cell? ⟨b, off + 2, none⟩ = some (.int .u8 ((l.getD 2 0).toNat : Int)) := cell_byte hA 2 (by omega)
    have c3 : w.cell? ⟨b, off + 3, none⟩ = some (.int .u8 ((l.getD 3 0).toNat : Int)) := cell_byte hA 3 (by omega)
    have hv : (fixV l : Int) = ((l.getD 0 0).toNat : Int) + ((l.getD 1 0).toNat : Int) * 256 + ((l.getD 2 0).toNat : Int) * 65536 + ((l.getD 3 0).toNat : Int) * 16777216 := by unfold fixV; omega
    have k0 := byte_lt (l.getD 0 0)
    have k1 := byte_lt (l.getD 1 0)
    have k2 := byte_lt (l.getD 2 0)
    have k3 := byte_lt (l.getD 3 0)
    obtain ⟨y0, hy0⟩ : ∃ v : Int, v = ((l.getD 0 0).toNat : Int) := ⟨_, rfl⟩
    obtain ⟨y1, hy1⟩ : ∃ v : Int, v = ((l.getD 1 0).toNat : Int) := ⟨_, rfl⟩
    obtain ⟨y2, hy2⟩ : ∃ v : Int, v = ((l.getD 2 0).toNat : Int) := ⟨_, rfl⟩
    obtain ⟨y3, hy3⟩ : ∃ v : Int, v = ((l.getD 3 0).toNat : Int) := ⟨_, rfl⟩
    have g00 : 0 ≤ y0 := by omega
    have g10 : 0 ≤ y1 := by omega
    have g20 : 0 ≤ y2 := by omega
    have g30 : 0 ≤ y3 := by omega
    rw [← hy0] at c0 k0
    rw [← hy1] at c1 k1
    rw [← hy2] at c2 k2
    rw [← hy3] at c3 k3
    rw [← hy0, ← hy1, ← hy2, ← hy3] at hv
    have HV := Lib.hid hv
    clear hv hy0 hy1 hy2 hy3 hA hL
    go_enter Try.func22, Try.ntmps22
    go_wp2
    go_quiet (fail)
    go_wp2
    go_ret2
    exact ⟨by rw [HD.out.1, HD.out.2, HV.out]; rfl, below_drewN (Below.refl _ _) _⟩

end Go.Proofs.Ytealjcpgcghfpaa
