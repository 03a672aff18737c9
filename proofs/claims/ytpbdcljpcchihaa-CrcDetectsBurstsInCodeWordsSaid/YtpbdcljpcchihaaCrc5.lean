/-
  Contracts of Combine, of package crc and of its reference.
-/
import Derived.Test.YtpbdcljpcchihaaCrc4
namespace Go.Proofs.Ytpbdcljpcchihaa
open Go.RowKit

theorem i64_and_one (r : Int) (h0 : 0 ≤ r) (h1 : r ≤ 9223372036854775807) : bits .and .i64 r 1 = r % 2 := by
  obtain ⟨a, rfl⟩ := Int.eq_ofNat_of_zero_le h0
  have ho : ∀ a : Nat, a < 9223372036854775808 → (BitVec.ofInt 64 (a : Int)).toNat = a := fun a ha => by
    rw [BitVec.ofInt_natCast, BitVec.toNat_ofNat]; exact Nat.mod_eq_of_lt (by omega)
  have hx : a &&& 1 = a % 2 := Nat.and_one_is_mod a
  show IntKind.i64.wrap ((BitVec.ofInt 64 (a : Int) &&& BitVec.ofInt 64 ((1 : Nat) : Int)).toNat : Int) = _
  rw [BitVec.toNat_and, ho a (by omega), ho 1 (by omega), hx, IntKind.wrap_i64]
  omega
theorem lin_double {m : Nat} {c : Array Value} (h : IsMat (fun x => stepN (8 * m) (stepN (8 * m) x)) c) : IsMat (stepN (8 * (2 * m))) c := by
  have : (fun x => stepN (8 * m) (stepN (8 * m) x)) = stepN (8 * (2 * m)) := by
    funext x
    rw [← stepN_add]
    congr 1
    omega
  rwa [this] at h
theorem done_odd {d m N : Nat} {r : Int} (h : d + m * r.toNat = N) (h0 : 0 < r) (h2 : r % 2 = 1) : (d + m) + 2 * m * (r / 2).toNat = N := by
  have e : r.toNat = 2 * (r / 2).toNat + 1 := by omega
  rw [e] at h
  rw [← h, Nat.mul_add, Nat.mul_one, Nat.mul_comm 2 m, Nat.mul_assoc]
  omega
theorem done_even {d m N : Nat} {r : Int} (h : d + m * r.toNat = N) (h0 : 0 < r) (h2 : ¬ r % 2 = 1) : d + 2 * m * (r / 2).toNat = N := by
  have e : r.toNat = 2 * (r / 2).toNat := by omega
  rw [e] at h
  rw [← h, Nat.mul_comm 2 m, Nat.mul_assoc]
theorem done_all {d m N : Nat} {r : Int} (h : d + m * r.toNat = N) (h0 : ¬ 0 < r) : d = N := by
  have e : r.toNat = 0 := by omega
  rw [e] at h
  omega

set_option maxHeartbeats 1000000 in
theorem combine_any (a b : W32) (n : Int) (h0 : -9223372036854775808 ≤ n) (h1 : n ≤ 9223372036854775807) (w : World) :
    Calls Try.prog 16 #[.int .u32 (nv a), .int .u32 (nv b), .int .i64 n] w fun e w' => e = .returned (.int .u32 (nv (crcComb a b n.toNat))) ∧ Below w.heap.size w w' := by
  go_enter Try.func16, Try.ntmps16
  go_wp2_with fail
  refine (oneByte_any _).mono ?_
  rintro e w1 ⟨⟨c0, rfl, hc0⟩, hb1⟩
  have HC0 := Lib.hid hc0
  clear hc0
  go_wp2_with (first | (refine wpList_alloc_arr _ rfl 8 rfl _ rfl _ zero42 ?_; intro w2 g hg hl hr2 hgr2) | (refine wpList_store_arr _ rfl rfl _ _ _ rfl g (by exact rfl) c0 (by exact rfl) _ _ hr2 (size42' HC0.out.1) (by rw [HC0.out.1]; rfl) HC0.out.one ?_; intro w3 hr3 hgr3))
  have hgw : w.heap.size ≤ g := by have := hb1.size; omega
  have HB := Lib.hid (show Below w.heap.size w w3 ∧ Row w3 g 42 c0 from ⟨below_row (below_row0 hb1 hgr2 (Nat.le_refl _)) hgr3 (Nat.le_refl _) hgw, hr3⟩)
  clear hb1 hg hl hr2 hgr2 hr3 hgr3
  go_loopw [7, 9] (fun v i wr => ∃ (m d : Nat) (r : Int) (x : W32) (c : Array Value), i = .int .i64 r ∧ v = .int .u32 (nv x) ∧ -9223372036854775808 ≤ r ∧ r ≤ 9223372036854775807 ∧ Hid (d + m * r.toNat = n.toNat ∧ x = stepN (8 * d) a ∧ IsMat (stepN (8 * m)) c ∧ Below w.heap.size w wr ∧ Row wr g 42 c)) (fun _ i _ => (intOf i).toNat)
  case atStart => exact ⟨1, 0, n, a, c0, rfl, rfl, h0, h1, ⟨by omega, rfl, HC0.out, HB.out⟩⟩
  case round =>
    obtain ⟨m, d, r, x, c, rfl, rfl, hr0, hr1, HR⟩ := hrel
    have hrow := HR.out.2.2.2.2
    by_cases hpos : 0 < r
    · have hand := i64_and_one r (by omega) hr1
      by_cases hodd : r % 2 = 1
      · rw [hodd] at hand
        have HD := Lib.hid (done_odd HR.out.1 hpos hodd)
        clear hodd
        go_wp2_with (refine wpList_load_arr _ rfl _ _ rfl _ (by exact rfl) _ c hrow 32 _ ty42 (size42' HR.out.2.2.1.1) ?_)
        refine (apply_any _ (Lin.step (8 * m)) c HR.out.2.2.1 x _).mono ?_
        rintro e w4 ⟨rfl, hb4⟩
        have hrow4 := hrow.below hb4 hrow.lt
        go_wp2_with (refine wpList_load_arr _ rfl _ _ rfl _ (by exact rfl) _ c hrow4 32 _ ty42 (size42' HR.out.2.2.1.1) ?_)
        refine (times_any _ _ (Lin.step (8 * m)) c c HR.out.2.2.1 HR.out.2.2.1 _).mono ?_
        rintro e w5 ⟨⟨c', rfl, hc'⟩, hb5⟩
        have hrow5 := hrow4.below hb5 hrow4.lt
        have HC := Lib.hid (lin_double hc')
        clear hc'
        go_wp2_with (refine wpList_store_arr _ rfl rfl _ _ _ rfl g (by exact rfl) c' (by exact rfl) _ _ hrow5 (size42' HC.out.1) (by rw [HC.out.1, HR.out.2.2.1.1]) HC.out.one ?_; intro w6 hr6 hgr6)
        go_roundw
        case rel => exact ⟨2 * m, d + m, r / 2, _, c', by go_num, rfl, by omega, by omega, ⟨HD.out, by rw [HR.out.2.1, ← stepN_add]; congr 1; omega, HC.out, below_row ((HR.out.2.2.2.1.trans (hb4.mono HR.out.2.2.2.1.size)).trans (hb5.mono (Nat.le_trans HR.out.2.2.2.1.size hb4.size))) hgr6 (Nat.le_refl _) hgw, hr6⟩⟩
        case measure => simp [intOf]; omega
      · have hand0 : r % 2 = 0 := by omega
        rw [hand0] at hand
        have HD := Lib.hid (done_even HR.out.1 hpos hodd)
        clear hodd hand0
        go_wp2_with (refine wpList_load_arr _ rfl _ _ rfl _ (by exact rfl) _ c hrow 32 _ ty42 (size42' HR.out.2.2.1.1) ?_)
        refine (times_any _ _ (Lin.step (8 * m)) c c HR.out.2.2.1 HR.out.2.2.1 _).mono ?_
        rintro e w5 ⟨⟨c', rfl, hc'⟩, hb5⟩
        have hrow5 := hrow.below hb5 hrow.lt
        have HC := Lib.hid (lin_double hc')
        clear hc'
        go_wp2_with (refine wpList_store_arr _ rfl rfl _ _ _ rfl g (by exact rfl) c' (by exact rfl) _ _ hrow5 (size42' HC.out.1) (by rw [HC.out.1, HR.out.2.2.1.1]) HC.out.one ?_; intro w6 hr6 hgr6)
        go_roundw
        case rel => exact ⟨2 * m, d, r / 2, _, c', by go_num, rfl, by omega, by omega, ⟨HD.out, HR.out.2.1, HC.out, below_row (HR.out.2.2.2.1.trans (hb5.mono HR.out.2.2.2.1.size)) hgr6 (Nat.le_refl _) hgw, hr6⟩⟩
        case measure => simp [intOf]; omega
    · have HD := Lib.hid (done_all HR.out.1 hpos)
      have hx := nv_xor b x
      go_wp2
      go_ret
      exact ⟨ret_int (by rw [HR.out.2.1, HD.out]; rfl), HR.out.2.2.2.1⟩

end Go.Proofs.Ytpbdcljpcchihaa
