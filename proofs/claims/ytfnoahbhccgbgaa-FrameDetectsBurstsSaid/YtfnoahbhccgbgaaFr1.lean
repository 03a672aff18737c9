/-
  Contracts of the small functions of package frame: number, appendNumber, Size (and the reference's Size); parts of slices of bytes.
-/
import Derived.Test.YtfnoahbhccgbgaaFrP
import Derived.Test.YtfnoahbhccgbgaaCrcD
import Derived.Test.YtfnoahbhccgbgaaMkR
import Derived.Test.YtfnoahbhccgbgaaYes
namespace Go.Proofs.Ytfnoahbhccgbgaa
open Go.RowKit

theorem Has.tail8 {w : World} {B n b off : Nat} {l : List UInt8} (h : Has w B (some ⟨b, off, none⟩) n (l.map bv)) (s : Nat) (hs : s ≤ n) : Has w B (some ⟨b, off + s, none⟩) (n - s) ((l.drop s).map bv) := by
  have h1 := h.part s (n - s) (by omega)
  have hl : l.length = n := by simpa using h.1
  rwa [← List.map_drop, ← List.map_take, List.take_of_length_le (by simp; omega)] at h1
theorem Has.sub8 {w : World} {B n b off : Nat} {l : List UInt8} (h : Has w B (some ⟨b, off, none⟩) n (l.map bv)) (s k : Nat) (hs : s + k ≤ n) : Has w B (some ⟨b, off + s, none⟩) k (((l.drop s).take k).map bv) := by
  have h1 := h.part s k hs
  rwa [← List.map_drop, ← List.map_take] at h1
theorem Has.head8 {w : World} {B n : Nat} {A : Option Addr} {l : List UInt8} (h : Has w B A n (l.map bv)) (k : Nat) (hs : k ≤ n) : Has w B A k ((l.take k).map bv) := by
  have h1 := h.take k hs
  rwa [← List.map_take] at h1
theorem cell_bt {w : World} {B n b off : Nat} {l : List UInt8} (h : Has w B (some ⟨b, off, none⟩) n (l.map bv)) (k : Nat) (hk : k < n) : w.cell? ⟨b, off + k, none⟩ = some (.int .u8 ((l.getD k 0).toNat : Int)) := by
  have hl : l.length = n := by simpa using h.1
  obtain ⟨b', off', e, _, hc⟩ := h.at_ hk
  injection e with e
  injection e with e1 e2 _
  subst e1 e2
  rw [hc, List.getElem_map, bv_eq, List.getD_eq_getElem?_getD, List.getElem?_eq_getElem (by omega), Option.getD_some]
theorem or_32 (a b : Int) (k : Nat) (ha0 : 0 ≤ a) (ha : a.toNat < 2 ^ k) (ha2 : a < 4294967296) (hb0 : 0 ≤ b) (hb : b * 2 ^ k < 4294967296) : bits .or .u32 a (b * 2 ^ k) = a + b * 2 ^ k := by
  obtain ⟨m, rfl⟩ := Int.eq_ofNat_of_zero_le ha0
  obtain ⟨n, rfl⟩ := Int.eq_ofNat_of_zero_le hb0
  have hp : (n : Int) * 2 ^ k = ((2 ^ k * n : Nat) : Int) := by push_cast; exact Int.mul_comm _ _
  rw [hp] at hb ⊢
  have hm : m < 2 ^ k := by simpa using ha
  rw [u32_or_nat _ _ (by omega) (by omega), Nat.or_comm, ← Nat.two_pow_add_eq_or_of_lt hm]
  push_cast
  omega
theorem wordB_nv (l : List UInt8) : nv (wordB l) = ((l.getD 0 0).toNat : Int) + ((l.getD 1 0).toNat : Int) * 256 + ((l.getD 2 0).toNat : Int) * 65536 + ((l.getD 3 0).toNat : Int) * 16777216 := fixedW_nv _ _ _ _

set_option maxHeartbeats 1000000 in
theorem number_any (b off len cap B : Nat) (l : List UInt8) (w : World) (hA : Has w B (some ⟨b, off, none⟩) len (l.map bv)) (h4 : 4 ≤ len) :
    Calls Try.prog 25 #[.slice (some ⟨b, off, none⟩) len cap] w fun e w' => e = .returned (.int .u32 (nv (wordB l))) ∧ ∃ m, w' = w.drewN m := by
  have c0 : w.cell? ⟨b, off, none⟩ = some (.int .u8 ((l.getD 0 0).toNat : Int)) := cell_bt hA 0 (by omega)
  have c1 : w.cell? ⟨b, off + 1, none⟩ = some (.int .u8 ((l.getD 1 0).toNat : Int)) := cell_bt hA 1 (by omega)
  have c2 : w.cell? ⟨b, off + 2, none⟩ = some (.int .u8 ((l.getD 2 0).toNat : Int)) := cell_bt hA 2 (by omega)
  have c3 : w.cell? ⟨b, off + 3, none⟩ = some (.int .u8 ((l.getD 3 0).toNat : Int)) := cell_bt hA 3 (by omega)
  have hv := wordB_nv l
  have k0 := byte_lt (l.getD 0 0)
  have k1 := byte_lt (l.getD 1 0)
  have k2 := byte_lt (l.getD 2 0)
  have k3 := byte_lt (l.getD 3 0)
  obtain ⟨y0, hy0⟩ : ∃ v : Int, v = ((l.getD 0 0).toNat : Int) := ⟨_, rfl⟩
  obtain ⟨y1, hy1⟩ : ∃ v : Int, v = ((l.getD 1 0).toNat : Int) := ⟨_, rfl⟩
  obtain ⟨y2, hy2⟩ : ∃ v : Int, v = ((l.getD 2 0).toNat : Int) := ⟨_, rfl⟩
  obtain ⟨y3, hy3⟩ : ∃ v : Int, v = ((l.getD 3 0).toNat : Int) := ⟨_, rfl⟩
  have g00 : 0 ≤ y0 := by omega
  have g10 : 0 ≤ y1 := by omega
  have g20 : 0 ≤ y2 := by omega
  have g30 : 0 ≤ y3 := by omega
  rw [← hy0] at c0 k0
  rw [← hy1] at c1 k1
  rw [← hy2] at c2 k2
  rw [← hy3] at c3 k3
  rw [← hy0, ← hy1, ← hy2, ← hy3] at hv
  have HV := Lib.hid hv
  have o1 := or_32 y0 y1 8 g00 (by omega) (by omega) g10 (by omega)
  have o2 := or_32 (y0 + y1 * 2 ^ 8) y2 16 (by omega) (by omega) (by omega) g20 (by omega)
  have o3 := or_32 (y0 + y1 * 2 ^ 8 + y2 * 2 ^ 16) y3 24 (by omega) (by omega) (by omega) g30 (by omega)
  have p8 : (2 : Int) ^ 8 = 256 := by decide
  have p16 : (2 : Int) ^ 16 = 65536 := by decide
  have p24 : (2 : Int) ^ 24 = 16777216 := by decide
  rw [p8] at o1
  rw [p8, p16] at o2
  rw [p8, p16, p24] at o3
  have h4' : (4 : Int) ≤ (len : Int) := by omega
  clear p8 p16 p24
  clear hv hy0 hy1 hy2 hy3 hA
  go_enter Try.func25, Try.ntmps25
  go_wp2
  go_quiet (fail)
  go_wp2
  go_ret
  exact ⟨ret_int (by rw [HV.out]), _, rfl⟩

theorem fixedB_bv (s : W32) : (fixedB s).map bv = [.int .u8 (nv s % 256), .int .u8 (nv s / 256 % 256), .int .u8 (nv s / 65536 % 256), .int .u8 (nv s / 16777216)] := by
  have hge := nv_ge s
  have hlt := nv_lt s
  have e1 := byte_of s 256
  have e2 := byte_of s 65536
  have e3 : (((UInt8.ofNat (s.toNat / 16777216)).toNat : Nat) : Int) = nv s / 16777216 := by rw [byte_of s 16777216]; omega
  simp only [fixedB, List.map_cons, List.map_nil, bv_eq, byte_of0, e1, e2, e3]
  rfl

set_option maxHeartbeats 1000000 in
theorem frNum_any (base n : Nat) (vs : Value) (l : List UInt8) (s : W32) (w : World) (hown : w.ownsRow base 5 1 vs n (l.map bv)) (hbase : base ≤ w.heap.size) (hn : n ≤ 1000000000) :
    Calls Try.prog 21 #[vs, .int .u32 (nv s)] w fun e w' => (∃ v', e = .returned v' ∧ w'.ownsRow base 5 1 v' (n + 4) ((l ++ fixedB s).map bv)) ∧ Below base w w' := by
  obtain ⟨i5, hi5, hz0, hz1, hz2⟩ := info_parts infoU8
  have hge := nv_ge s
  have hlt := nv_lt s
  have hfix := fixedB_bv s
  obtain ⟨v0, hv0⟩ : ∃ v, nv s % 256 = v := ⟨_, rfl⟩
  obtain ⟨v1, hv1⟩ : ∃ v, nv s / 256 % 256 = v := ⟨_, rfl⟩
  obtain ⟨v2, hv2⟩ : ∃ v, nv s / 65536 % 256 = v := ⟨_, rfl⟩
  obtain ⟨v3, hv3⟩ : ∃ v, nv s / 16777216 = v := ⟨_, rfl⟩
  rw [hv0, hv1, hv2, hv3] at hfix
  have HV := Lib.hid hfix
  clear hfix
  have hb := (Below.refl base w).alloc hbase (.cells #[.int .u8 v0, .int .u8 v1, .int .u8 v2, .int .u8 v3] 5)
  have hown1 := hown.alloc (.cells #[.int .u8 v0, .int .u8 v1, .int .u8 v2, .int .u8 v3] 5)
  have hh := Has.laid w 5 #[.int .u8 v0, .int .u8 v1, .int .u8 v2, .int .u8 v3] (0, 0) 4 _ rfl rfl
  go_enter Try.func21, Try.ntmps21
  go_wp2_with (at_builtin; refine wpList_app_has _ rfl _ _ 23 rfl base 5 i5 (.int .u8 0) 1 tyBs hi5 hz0 hz1 hz2 rfl _ _ _ (by exact rfl) hown1 _ 4 4 _ [.int .u8 v0, .int .u8 v1, .int .u8 v2, .int .u8 v3] (by exact rfl) (by intro e; cases e) hh (by rw [← HV.out]; exact one_bytes _) (by unfold maxLen; omega) (by omega) hb hbase ?_; intro v' w' hown' hb' _)
  go_ret
  rw [← HV.out, ← List.map_append] at hown'
  exact ⟨⟨v', rfl, hown'⟩, hb'⟩

/-- The size of a frame. -/
def szB (n : Int) : Int := if n < 0 ∨ 1024 < n then 0 else 14 + n
theorem szB_no {n : Int} (h : n < 0 ∨ 1024 < n) : szB n = 0 := by unfold szB; rw [if_pos h]
theorem szB_yes {n : Int} (h0 : 0 ≤ n) (h1 : n ≤ 1024) : szB n = 14 + n := by unfold szB; rw [if_neg (by omega)]
attribute [irreducible] szB
set_option maxHeartbeats 400000 in
theorem size_any (n : Int) (w : World) : Calls Try.prog 13 #[.int .i64 n] w fun e w' => e = .returned (.int .i64 (szB n)) ∧ w = w' := by
  by_cases h0 : n < 0
  · have H := Lib.hid (szB_no (.inl h0))
    go_enter Try.func13, Try.ntmps13
    go_wp2
    go_ret
    exact ⟨ret_int H.out.symm, rfl⟩
  · by_cases h1 : 1024 < n
    · have H := Lib.hid (szB_no (.inr h1))
      go_enter Try.func13, Try.ntmps13
      go_wp2
      go_ret
      exact ⟨ret_int H.out.symm, rfl⟩
    · have H := Lib.hid (szB_yes (by omega) (by omega : n ≤ 1024))
      go_enter Try.func13, Try.ntmps13
      go_wp2
      go_ret
      exact ⟨ret_int H.out.symm, rfl⟩
set_option maxHeartbeats 400000 in
theorem refSize_any (n : Int) (w : World) : Calls Try.prog 14 #[.int .i64 n] w fun e w' => e = .returned (.int .i64 (szB n)) ∧ w = w' := by
  by_cases h0 : n < 0
  · have H := Lib.hid (szB_no (.inl h0))
    go_enter Try.func14, Try.ntmps14
    go_wp2
    go_ret
    exact ⟨ret_int H.out.symm, rfl⟩
  · by_cases h1 : 1024 < n
    · have H := Lib.hid (szB_no (.inr h1))
      go_enter Try.func14, Try.ntmps14
      go_wp2
      go_ret
      exact ⟨ret_int H.out.symm, rfl⟩
    · have H := Lib.hid (szB_yes (by omega) (by omega : n ≤ 1024))
      go_enter Try.func14, Try.ntmps14
      go_wp2
      go_ret
      exact ⟨ret_int H.out.symm, rfl⟩

end Go.Proofs.Ytfnoahbhccgbgaa
