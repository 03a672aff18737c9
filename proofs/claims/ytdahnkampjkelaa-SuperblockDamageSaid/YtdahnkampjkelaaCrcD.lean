/-
  Contracts of the reference's Fixed and DecodeFixed (layer 3), as the statements of layer 2 use them.
-/
import Derived.Test.YtdahnkampjkelaaCrc2
import Derived.Test.YtdahnkampjkelaaMkB
namespace Go.Proofs.Ytdahnkampjkelaa
open Go.RowKit

theorem byte_of (c : W32) (d : Nat) : (((UInt8.ofNat (c.toNat / d)).toNat : Nat) : Int) = nv c / (d : Int) % 256 := by
  rw [UInt8.toNat_ofNat']
  unfold nv
  simp
theorem byte_of0 (c : W32) : (((UInt8.ofNat c.toNat).toNat : Nat) : Int) = nv c % 256 := by
  rw [UInt8.toNat_ofNat']
  unfold nv
  simp

set_option maxHeartbeats 1000000 in
theorem fixed_any (s : W32) (w : World) : Calls Try.prog 16 #[.int .u32 (nv s)] w fun e w' => (∃ g, e = .returned (.slice (some ⟨g, 0, none⟩) 4 4) ∧ Has w' w'.heap.size (some ⟨g, 0, none⟩) 4 ((fixedB s).map bv)) ∧ Below w.heap.size w w' := by
  have hge := nv_ge s
  have hlt := nv_lt s
  obtain ⟨v0, hv0⟩ : ∃ v, nv s % 256 = v := ⟨_, rfl⟩
  obtain ⟨v1, hv1⟩ : ∃ v, nv s / 256 % 256 = v := ⟨_, rfl⟩
  obtain ⟨v2, hv2⟩ : ∃ v, nv s / 65536 % 256 = v := ⟨_, rfl⟩
  obtain ⟨v3, hv3⟩ : ∃ v, nv s / 16777216 = v := ⟨_, rfl⟩
  have HV := Lib.hid (show (fixedB s).map bv = [.int .u8 v0, .int .u8 v1, .int .u8 v2, .int .u8 v3] by
    rw [← hv0, ← hv1, ← hv2, ← hv3]
    have e1 := byte_of s 256
    have e2 := byte_of s 65536
    have e3 : (((UInt8.ofNat (s.toNat / 16777216)).toNat : Nat) : Int) = nv s / 16777216 := by rw [byte_of s 16777216]; omega
    simp only [fixedB, List.map_cons, List.map_nil, bv_eq, byte_of0, e1, e2, e3]
    rfl)
  go_enter Try.func16, Try.ntmps16
  go_wp2
  go_ret
  refine ⟨⟨w.heap.size, rfl, ?_⟩, (Below.refl _ _).alloc (Nat.le_refl _) _⟩
  rw [HV.out]
  have hh := Has.laid w 5 #[.int .u8 v0, .int .u8 v1, .int .u8 v2, .int .u8 v3] (0, 0) 4 _ rfl rfl
  exact hh.more (by show w.heap.size + 1 ≤ (w.heap.push _).size; simp)

theorem fixedW_nv (p q r s : UInt8) : nv (fixedW p q r s) = (p.toNat : Int) + (q.toNat : Int) * 256 + (r.toNat : Int) * 65536 + (s.toNat : Int) * 16777216 := by
  unfold nv
  rw [fixedW_toNat]
  omega

set_option maxHeartbeats 1000000 in
theorem decodeFixed_any (A : Option Addr) (cap B : Nat) (p q r s : UInt8) (w : World) (hA : Has w B A 4 ([p, q, r, s].map bv)) :
    Calls Try.prog 25 #[.slice A 4 cap] w fun e w' => e = .returned (.tuple #[.int .u32 (nv (fixedW p q r s)), .int .i64 0]) ∧ Below w.heap.size w w' := by
  obtain ⟨b, off, rfl, _, hc⟩ := hA.2 (by decide)
  obtain ⟨y0, hy0⟩ : ∃ v : Int, v = (p.toNat : Int) := ⟨_, rfl⟩
  obtain ⟨y1, hy1⟩ : ∃ v : Int, v = (q.toNat : Int) := ⟨_, rfl⟩
  obtain ⟨y2, hy2⟩ : ∃ v : Int, v = (r.toNat : Int) := ⟨_, rfl⟩
  obtain ⟨y3, hy3⟩ : ∃ v : Int, v = (s.toNat : Int) := ⟨_, rfl⟩
  have hc0 : w.cell? ⟨b, off, none⟩ = some (.int .u8 y0) := by rw [hy0]; exact hc 0 (by simp)
  have hc1 : w.cell? ⟨b, off + 1, none⟩ = some (.int .u8 y1) := by rw [hy1]; exact hc 1 (by simp)
  have hc2 : w.cell? ⟨b, off + 2, none⟩ = some (.int .u8 y2) := by rw [hy2]; exact hc 2 (by simp)
  have hc3 : w.cell? ⟨b, off + 3, none⟩ = some (.int .u8 y3) := by rw [hy3]; exact hc 3 (by simp)
  have hv := fixedW_nv p q r s
  rw [← hy0, ← hy1, ← hy2, ← hy3] at hv
  have HV := Lib.hid hv
  have g0 : 0 ≤ y0 ∧ y0 < 256 := by have := byte_lt p; omega
  have g1 : 0 ≤ y1 ∧ y1 < 256 := by have := byte_lt q; omega
  have g2 : 0 ≤ y2 ∧ y2 < 256 := by have := byte_lt r; omega
  have g3 : 0 ≤ y3 ∧ y3 < 256 := by have := byte_lt s; omega
  obtain ⟨g00, g01⟩ := g0
  obtain ⟨g10, g11⟩ := g1
  obtain ⟨g20, g21⟩ := g2
  obtain ⟨g30, g31⟩ := g3
  clear hv hy0 hy1 hy2 hy3 hc hA
  go_enter Try.func25, Try.ntmps25
  go_wp2
  go_quiet (fail)
  go_wp2
  go_ret2
  exact ⟨by rw [HV.out]; rfl, below_drewN (Below.refl _ _) _⟩

end Go.Proofs.Ytdahnkampjkelaa
