/-
  The walk of CrcAffine: it returns true.
-/
import Derived.Test.YtpbdcljpcchihaaCrc8
import Derived.Test.YtpbdcljpcchihaaMkB
import Derived.Test.YtpbdcljpcchihaaMin
import Derived.StillTailTactics
namespace Go.Proofs.Ytpbdcljpcchihaa
open Go.RowKit

theorem xor_u8 (a b : UInt8) : bits .xor .u8 (a.toNat : Int) (b.toNat : Int) = ((a ^^^ b).toNat : Int) := by
  rw [u8_xor_nat _ _ a.toNat_lt b.toNat_lt, UInt8.toNat_xor]
theorem Arg8.cut {w : World} {A : Option Addr} {len cap : Nat} {l : List UInt8} (h : Arg8 w A len cap l) (n : Nat) (hn : n ≤ len) : Has w w.heap.size A n ((l.take n).map bv) := by
  have := h.1.take n hn
  rwa [← List.map_take] at this

theorem zip3_get {xs m1 m2 m3 : List UInt8} (h : xs = List.zipWith (· ^^^ ·) (List.zipWith (· ^^^ ·) m1 m2) m3) (k : Nat) (hx : k < xs.length) (h1 : k < m1.length) (h2 : k < m2.length) (h3 : k < m3.length) : xs[k] = m1[k] ^^^ m2[k] ^^^ m3[k] := by
  subst h
  rw [List.getElem_zipWith, List.getElem_zipWith]

set_option maxHeartbeats 4000000 in
theorem crcAffine_walk (A1 : Option Addr) (n1 c1 : Nat) (z1 : List Int) (A2 : Option Addr) (n2 c2 : Nat) (z2 : List Int) (A3 : Option Addr) (n3 c3 : Nat) (z3 : List Int) (w : World) (h1 : In8 w A1 n1 c1 z1) (h2 : In8 w A2 n2 c2 z2) (h3 : In8 w A3 n3 c3 z3) :
    Calls Try.prog 8 #[.slice A1 n1 c1, .slice A2 n2 c2, .slice A3 n3 c3] w (Yes w) := by
  obtain ⟨l1, g1⟩ := arg8_of h1
  obtain ⟨l2, g2⟩ := arg8_of h2
  obtain ⟨l3, g3⟩ := arg8_of h3
  have H1 := Lib.hid g1
  have H2 := Lib.hid g2
  have H3 := Lib.hid g3
  clear g1 g2 g3 h1 h2 h3
  obtain ⟨n, hn⟩ : ∃ n : Nat, n = min (min (min n1 n2) n3) 2000 := ⟨_, rfl⟩
  have hb1 : n ≤ n1 := by omega
  have hb2 : n ≤ n2 := by omega
  have hb3 : n ≤ n3 := by omega
  have hb4 : n ≤ 2000 := by omega
  have hmin := fun w => run_min4 (P := Try.prog) w #[3, 3, 3, 3] 3 n1 n2 n3 2000 n (by omega)
  clear hn
  have hd1 : n ≤ c1 := Nat.le_trans hb1 H1.out.2.1
  have hd2 : n ≤ c2 := Nat.le_trans hb2 H2.out.2.1
  have hd3 : n ≤ c3 := Nat.le_trans hb3 H3.out.2.1
  obtain ⟨m1, hm1⟩ : ∃ m, m = l1.take n := ⟨_, rfl⟩
  obtain ⟨m2, hm2⟩ : ∃ m, m = l2.take n := ⟨_, rfl⟩
  obtain ⟨m3, hm3⟩ : ∃ m, m = l3.take n := ⟨_, rfl⟩
  have Q1 := Lib.hid (show Has w w.heap.size A1 n (m1.map bv) by rw [hm1]; exact H1.out.cut n hb1)
  have Q2 := Lib.hid (show Has w w.heap.size A2 n (m2.map bv) by rw [hm2]; exact H2.out.cut n hb2)
  have Q3 := Lib.hid (show Has w w.heap.size A3 n (m3.map bv) by rw [hm3]; exact H3.out.cut n hb3)
  clear hm1 hm2 hm3
  obtain ⟨xs, hxs⟩ : ∃ xs, xs = List.zipWith (· ^^^ ·) (List.zipWith (· ^^^ ·) m1 m2) m3 := ⟨_, rfl⟩
  have L1 := Lib.hid (show m1.length = n by simpa using Q1.out.1)
  have L2 := Lib.hid (show m2.length = n by simpa using Q2.out.1)
  have L3 := Lib.hid (show m3.length = n by simpa using Q3.out.1)
  have LX := Lib.hid (show xs.length = n by rw [hxs, List.length_zipWith, List.length_zipWith, L1.out, L2.out, L3.out]; omega)
  have hsx := crcSum_three m1 m2 m3 (by rw [L1.out, L2.out]) (by rw [L2.out, L3.out])
  rw [← hxs] at hsx
  have HX := Lib.hid hxs
  have hy1 := nv_xor (crcSum m1) (crcSum m2)
  have hy2 := nv_xor (crcSum m1 ^^^ crcSum m2) (crcSum m3)
  obtain ⟨t12, ht12⟩ : ∃ x, x = crcSum m1 ^^^ crcSum m2 := ⟨_, rfl⟩
  rw [← ht12] at hy1
  rw [← hsx, ← ht12] at hy2
  clear hxs hsx ht12
  go_enter Try.func8, Try.ntmps8
  go_wp2_with (at_make; refine wpList_make_bytes _ rfl _ _ rfl n (by exact rfl) (by exact rfl) (by omega) ?_; intro w1 g hg hl hr hgr)
  have HO := Lib.hid (show Own8 w1 g n n (filled xs 0) ∧ Below w.heap.size w w1 from ⟨by rw [filled_zero, LX.out]; exact Own8.zeros hr, below_row0 (Below.refl w.heap.size w) hgr (Nat.le_refl _)⟩)
  clear hmin hr hgr hl
  go_loopw [9] (fun i wr => ∃ k : Nat, k ≤ n ∧ i = .int .i64 k ∧ Hid (Own8 wr g n n (filled xs k) ∧ Below w.heap.size w wr)) (fun i _ => n - (intOf i).toNat)
  case atStart => exact ⟨0, Nat.zero_le _, rfl, HO.out⟩
  case round =>
    obtain ⟨k, hk, rfl, HR⟩ := hrel
    by_cases hlt : k < n
    · obtain ⟨b1, o1, rfl, q1, hc1⟩ := Q1.out.at_ hlt
      obtain ⟨b2, o2, rfl, q2, hc2⟩ := Q2.out.at_ hlt
      obtain ⟨b3, o3, rfl, q3, hc3⟩ := Q3.out.at_ hlt
      rw [List.getElem_map, bv_eq, ← HR.out.2.cell q1] at hc1
      rw [List.getElem_map, bv_eq, ← HR.out.2.cell q2] at hc2
      rw [List.getElem_map, bv_eq, ← HR.out.2.cell q3] at hc3
      have hk1 : k < m1.length := by rw [L1.out]; exact hlt
      have hk2 : k < m2.length := by rw [L2.out]; exact hlt
      have hk3 : k < m3.length := by rw [L3.out]; exact hlt
      have hkx : k < xs.length := by rw [LX.out]; exact hlt
      have hv := zip3_get HX.out k hkx hk1 hk2 hk3
      have hfs := filled_set xs k hkx
      obtain ⟨xk, hxk⟩ : ∃ b : UInt8, b = xs[k] := ⟨_, rfl⟩
      rw [← hxk] at hv hfs
      have HF := Lib.hid hfs
      have hx1 := xor_u8 m1[k] m2[k]
      have hx2 := xor_u8 (m1[k] ^^^ m2[k]) m3[k]
      rw [← hv] at hx2
      obtain ⟨y1, hy1⟩ : ∃ v : Int, v = (m1[k].toNat : Int) := ⟨_, rfl⟩
      obtain ⟨y2, hy2⟩ : ∃ v : Int, v = (m2[k].toNat : Int) := ⟨_, rfl⟩
      obtain ⟨y3, hy3⟩ : ∃ v : Int, v = (m3[k].toNat : Int) := ⟨_, rfl⟩
      obtain ⟨y12, hy12⟩ : ∃ v : Int, v = ((m1[k] ^^^ m2[k]).toNat : Int) := ⟨_, rfl⟩
      obtain ⟨z, hz⟩ : ∃ v : Int, v = (xk.toNat : Int) := ⟨_, rfl⟩
      rw [← hy1] at hc1
      rw [← hy2] at hc2
      rw [← hy3] at hc3
      rw [← hy1, ← hy2, ← hy12] at hx1
      rw [← hy12, ← hy3, ← hz] at hx2
      have HZ := Lib.hid hz
      have hcell := HR.out.1.cell hlt
      obtain ⟨yo, hyo⟩ : ∃ v : Int, v = (((filled xs k).getD k 0).toNat : Int) := ⟨_, rfl⟩
      rw [← hyo] at hcell
      have hfro := HR.out.1.frozen k
      clear hfs hxk hk1 hk2 hk3 hkx hv hy1 hy2 hy3 hy12 hz hyo q1 q2 q3
      go_wp2
      go_region
      go_wp2
      go_roundw
      case rel => exact ⟨k + 1, by omega, by go_num, by rw [← HF.out]; exact ⟨HR.out.1.set_cell hlt _ _ HZ.out, (HR.out.2.setCell hg _).drew⟩⟩
      case measure => simp [intOf]; omega
    · obtain rfl : k = n := by omega
      go_wp2
      have hS := HR.out.1.has
      rw [← LX.out, filled_all, LX.out] at hS
      have HS := Lib.hid hS
      clear hS
      go_still_tail 18, (by kernel_rfl)
      still_call ((sum_any _ k k _ xs { wr with drawn := wr.drawn + 1 } HS.out (by omega)).mono fun e w' h => ⟨h.1, h.2.symm⟩)
      repeat still_step
      still_call ((sum_any A1 k c1 _ m1 { wr with drawn := wr.drawn + 1 } (Q1.out.below HR.out.2.drew) (by omega)).mono fun e w' h => ⟨h.1, h.2.symm⟩)
      repeat still_step
      still_call ((sum_any A2 k c2 _ m2 { wr with drawn := wr.drawn + 1 } (Q2.out.below HR.out.2.drew) (by omega)).mono fun e w' h => ⟨h.1, h.2.symm⟩)
      repeat still_step
      still_call ((sum_any A3 k c3 _ m3 { wr with drawn := wr.drawn + 1 } (Q3.out.below HR.out.2.drew) (by omega)).mono fun e w' h => ⟨h.1, h.2.symm⟩)
      repeat still_step
      try refine wpStill_nil ?_
      change wpList _ _ _ _ _ (World.drew _)
      have hbd := HR.out.2.drew
      generalize World.drew wr = w2 at *
      go_wp2_with (go_at_call 9; refine (awake2_any _).mono ?_; rintro e w3 ⟨rfl, hb3⟩)
      go_ret
      exact ⟨rfl, hbd.trans (hb3.mono hbd.size)⟩

end Go.Proofs.Ytpbdcljpcchihaa
