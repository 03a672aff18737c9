/-
  Contract of the statement's digits of layer 10 (written by tools/gen-IpC.py).
-/
import Derived.Test.YtmgmepikgccmcaaDoorIpA
import Derived.Test.YtmgmepikgccmcaaDoorIpT
import Derived.Test.YtmgmepikgccmcaaDoorDigS
import Derived.Test.YtmgmepikgccmcaaDoorRfL
import Derived.Test.YtmgmepikgccmcaaDoorMod
namespace Go.Proofs.YtmgmepikgccmcaaDoor
open Go.RowKit

theorem pow8 : (8 : Nat) ^ (10 + 1) = 8589934592 := by decide

set_option maxRecDepth 20000 in
set_option maxHeartbeats 4000000 in
theorem digits8_any (n : Nat) (hn : n < 4294967296) (w : World) :
    Calls Tryd.prog 17 #[.int .i64 (n : Int), .int .i64 8] w fun e w' => e = .returned (.string (bs (spellL 8 n))) ∧ Below w.heap.size w w' := by
  have hn40 : n < 1099511627776 := by omega
  have hlenn : (digsB 8 n).length ≤ 11 := digs_length (by omega) 10 n hn40 (by rw [pow8]; omega)
  go_enter Tryd.func17, Tryd.ntmps17
  go_wp2
  go_loopw [5, 6] (fun v i wr => ∃ (m : Nat) (L : List UInt8) (X : ByteArray), m < 4294967296 ∧ i = .int .i64 m ∧ v = .string X ∧ Hid (X = bs L) ∧ Hid (Digs 8 n m L) ∧ Below w.heap.size w wr) (fun v i _ => 2 * (intOf i).toNat + strE v)
  case atStart => exact ⟨n, [], _, hn, rfl, rfl, Lib.hid rfl, Lib.hid (.inl ⟨rfl, rfl⟩), Below.refl _ _⟩
  case round =>
    obtain ⟨m, L, X, hm, rfl, rfl, HX, HD, hb⟩ := hrel
    by_cases h0 : 0 < m
    · have hd : decide ((0 : Int) < (m : Int)) = true := decide_eq_true (by omega)
      have HC : Hid (0 < m ∨ L = []) := Lib.hid (.inl h0)
      have hm40 : m < 1099511627776 := by omega
      obtain ⟨q, hq⟩ : ∃ q, q = m / 8 := ⟨_, rfl⟩
      obtain ⟨r, hr⟩ : ∃ r, r = m % 8 := ⟨_, rfl⟩
      have hqi : (m : Int) / 8 = (q : Int) := by omega
      have hri : (m : Int) % 8 = (r : Int) := by omega
      have hr16 : r < 16 := by omega
      have hrb : r < 8 := by omega
      have hri2 : (r : Int) < 16 := by omega
      have hx := hex_lit ⟨r, hr16⟩
      simp only at hx
      have HNX : Hid (Digs 8 n q (hexc r :: L)) := by rw [hq, hr]; exact Lib.hid (HD.out.next (by omega) hn40 hm40 HC.out)
      have hlen := HD.out.len hlenn
      have hsz : ¬ (9223372036854775807 < ((⟨#[48, 49, 50, 51, 52, 53, 54, 55, 56, 57, 97, 98, 99, 100, 101, 102]⟩ : ByteArray).extract r (r + 1)).size + X.size) := by rw [hx, HX.out, bs_size, bs_size]; simp; omega
      have HS : Hid ((⟨#[48, 49, 50, 51, 52, 53, 54, 55, 56, 57, 97, 98, 99, 100, 101, 102]⟩ : ByteArray).extract r (r + 1) ++ X = bs (hexc r :: L)) := by show _ = _; rw [hx, HX.out]; exact bs_add [hexc r] L
      have HQ := Lib.hid hq
      clear hq hr hx hlen
      go_wp2
      go_quiet (fail)
      go_wp2
      go_roundw
      case rel => exact ⟨q, hexc r :: L, _, by have := HQ.out; omega, rfl, rfl, Lib.hid HS.out, HNX, below_drewN hb _⟩
      case measure =>
        have h1 := HQ.out
        have h2 : ((⟨#[48, 49, 50, 51, 52, 53, 54, 55, 56, 57, 97, 98, 99, 100, 101, 102]⟩ : ByteArray).extract r (r + 1) ++ X).size ≠ 0 := by rw [HS.out, bs_size]; simp
        simp only [intOf, strE, if_neg h2]
        omega
    · have hd : decide ((0 : Int) < (m : Int)) = false := decide_eq_false (by omega)
      have HM0 : Hid (m = 0) := Lib.hid (by omega)
      by_cases hL : L = []
      · have he : (X.toList == ([] : List UInt8)) = true := by rw [HX.out, bs_empty, decide_eq_true hL]
        have HC : Hid (0 < m ∨ L = []) := Lib.hid (.inr hL)
        have HL0 := Lib.hid hL
        obtain rfl : m = 0 := HM0.out
        have hw1 : IntKind.i64.wrap 1 = 1 := by decide
        have hsz : ¬ (9223372036854775807 < ((⟨#[48, 49, 50, 51, 52, 53, 54, 55, 56, 57, 97, 98, 99, 100, 101, 102]⟩ : ByteArray).extract 0 1).size + X.size) := by rw [HX.out, HL0.out, bs_size, ByteArray.size_extract]; simp; omega
        have HS : Hid ((⟨#[48, 49, 50, 51, 52, 53, 54, 55, 56, 57, 97, 98, 99, 100, 101, 102]⟩ : ByteArray).extract 0 1 ++ X = bs [hexc 0]) := by show _ = _; rw [HX.out, HL0.out, hex_lit ⟨0, by omega⟩]; exact bs_add [hexc 0] []
        have HNX : Hid (Digs 8 n 0 [hexc 0]) := by
          have h := HD.out.next (b := 8) (by omega) hn40 (by omega) HC.out
          rw [HL0.out, Nat.zero_mod, Nat.zero_div] at h
          exact Lib.hid h
        clear hL h0 HM0 hd
        go_wp2
        go_quiet (fail)
        go_wp2
        go_roundw
        case rel => exact ⟨0, [hexc 0], _, by omega, rfl, rfl, Lib.hid HS.out, HNX, below_drewN hb _⟩
        case measure =>
          have h2 : ((⟨#[48, 49, 50, 51, 52, 53, 54, 55, 56, 57, 97, 98, 99, 100, 101, 102]⟩ : ByteArray).extract 0 1 ++ X).size ≠ 0 := by rw [HS.out, bs_size]; simp
          have h3 : X.size = 0 := by rw [HX.out, HL0.out]; rfl
          simp only [intOf, strE, if_neg h2, h3, if_true]
          omega
      · have he : (X.toList == ([] : List UInt8)) = false := by rw [HX.out, bs_empty, decide_eq_false hL]
        have hfin : L = digsB 8 n := by have h := HD.out; rw [HM0.out] at h; exact h.fin hL
        have HXL : Hid (X = bs (digsB 8 n)) := by show _ = _; rw [HX.out, hfin]
        have hXs : X.size ≤ 11 := by rw [HX.out, bs_size]; exact HD.out.len hlenn
        clear h0 hL
        have hq1 : ¬ (9223372036854775807 < (⟨#[48]⟩ : ByteArray).size + X.size) := by have : (⟨#[48]⟩ : ByteArray).size = 1 := rfl; omega
        have HR : Hid ((⟨#[48]⟩ : ByteArray) ++ X = bs (spellL 8 n)) := by
          show _ = _
          rw [HXL.out]
          exact bs_add [48] _
        clear HXL hfin
        go_wp2
        go_ret
        exact ⟨ret_str HR.out, hb⟩

set_option maxRecDepth 20000 in
set_option maxHeartbeats 4000000 in
theorem digits10_any (n : Nat) (hn : n < 4294967296) (w : World) :
    Calls Tryd.prog 17 #[.int .i64 (n : Int), .int .i64 10] w fun e w' => e = .returned (.string (bs (spellL 10 n))) ∧ Below w.heap.size w w' := by
  have hn40 : n < 1099511627776 := by omega
  have hlenn : (digsB 10 n).length ≤ 11 := digs_length (by omega) 10 n hn40 (by rw [pow8]; omega)
  go_enter Tryd.func17, Tryd.ntmps17
  go_wp2
  go_loopw [5, 6] (fun v i wr => ∃ (m : Nat) (L : List UInt8) (X : ByteArray), m < 4294967296 ∧ i = .int .i64 m ∧ v = .string X ∧ Hid (X = bs L) ∧ Hid (Digs 10 n m L) ∧ Below w.heap.size w wr) (fun v i _ => 2 * (intOf i).toNat + strE v)
  case atStart => exact ⟨n, [], _, hn, rfl, rfl, Lib.hid rfl, Lib.hid (.inl ⟨rfl, rfl⟩), Below.refl _ _⟩
  case round =>
    obtain ⟨m, L, X, hm, rfl, rfl, HX, HD, hb⟩ := hrel
    by_cases h0 : 0 < m
    · have hd : decide ((0 : Int) < (m : Int)) = true := decide_eq_true (by omega)
      have HC : Hid (0 < m ∨ L = []) := Lib.hid (.inl h0)
      have hm40 : m < 1099511627776 := by omega
      obtain ⟨q, hq⟩ : ∃ q, q = m / 10 := ⟨_, rfl⟩
      obtain ⟨r, hr⟩ : ∃ r, r = m % 10 := ⟨_, rfl⟩
      have hqi : (m : Int) / 10 = (q : Int) := by omega
      have hri : (m : Int) % 10 = (r : Int) := by omega
      have hr16 : r < 16 := by omega
      have hrb : r < 10 := by omega
      have hri2 : (r : Int) < 16 := by omega
      have hx := hex_lit ⟨r, hr16⟩
      simp only at hx
      have HNX : Hid (Digs 10 n q (hexc r :: L)) := by rw [hq, hr]; exact Lib.hid (HD.out.next (by omega) hn40 hm40 HC.out)
      have hlen := HD.out.len hlenn
      have hsz : ¬ (9223372036854775807 < ((⟨#[48, 49, 50, 51, 52, 53, 54, 55, 56, 57, 97, 98, 99, 100, 101, 102]⟩ : ByteArray).extract r (r + 1)).size + X.size) := by rw [hx, HX.out, bs_size, bs_size]; simp; omega
      have HS : Hid ((⟨#[48, 49, 50, 51, 52, 53, 54, 55, 56, 57, 97, 98, 99, 100, 101, 102]⟩ : ByteArray).extract r (r + 1) ++ X = bs (hexc r :: L)) := by show _ = _; rw [hx, HX.out]; exact bs_add [hexc r] L
      have HQ := Lib.hid hq
      clear hq hr hx hlen
      go_wp2
      go_quiet (fail)
      go_wp2
      go_roundw
      case rel => exact ⟨q, hexc r :: L, _, by have := HQ.out; omega, rfl, rfl, Lib.hid HS.out, HNX, below_drewN hb _⟩
      case measure =>
        have h1 := HQ.out
        have h2 : ((⟨#[48, 49, 50, 51, 52, 53, 54, 55, 56, 57, 97, 98, 99, 100, 101, 102]⟩ : ByteArray).extract r (r + 1) ++ X).size ≠ 0 := by rw [HS.out, bs_size]; simp
        simp only [intOf, strE, if_neg h2]
        omega
    · have hd : decide ((0 : Int) < (m : Int)) = false := decide_eq_false (by omega)
      have HM0 : Hid (m = 0) := Lib.hid (by omega)
      by_cases hL : L = []
      · have he : (X.toList == ([] : List UInt8)) = true := by rw [HX.out, bs_empty, decide_eq_true hL]
        have HC : Hid (0 < m ∨ L = []) := Lib.hid (.inr hL)
        have HL0 := Lib.hid hL
        obtain rfl : m = 0 := HM0.out
        have hw1 : IntKind.i64.wrap 1 = 1 := by decide
        have hsz : ¬ (9223372036854775807 < ((⟨#[48, 49, 50, 51, 52, 53, 54, 55, 56, 57, 97, 98, 99, 100, 101, 102]⟩ : ByteArray).extract 0 1).size + X.size) := by rw [HX.out, HL0.out, bs_size, ByteArray.size_extract]; simp; omega
        have HS : Hid ((⟨#[48, 49, 50, 51, 52, 53, 54, 55, 56, 57, 97, 98, 99, 100, 101, 102]⟩ : ByteArray).extract 0 1 ++ X = bs [hexc 0]) := by show _ = _; rw [HX.out, HL0.out, hex_lit ⟨0, by omega⟩]; exact bs_add [hexc 0] []
        have HNX : Hid (Digs 10 n 0 [hexc 0]) := by
          have h := HD.out.next (b := 10) (by omega) hn40 (by omega) HC.out
          rw [HL0.out, Nat.zero_mod, Nat.zero_div] at h
          exact Lib.hid h
        clear hL h0 HM0 hd
        go_wp2
        go_quiet (fail)
        go_wp2
        go_roundw
        case rel => exact ⟨0, [hexc 0], _, by omega, rfl, rfl, Lib.hid HS.out, HNX, below_drewN hb _⟩
        case measure =>
          have h2 : ((⟨#[48, 49, 50, 51, 52, 53, 54, 55, 56, 57, 97, 98, 99, 100, 101, 102]⟩ : ByteArray).extract 0 1 ++ X).size ≠ 0 := by rw [HS.out, bs_size]; simp
          have h3 : X.size = 0 := by rw [HX.out, HL0.out]; rfl
          simp only [intOf, strE, if_neg h2, h3, if_true]
          omega
      · have he : (X.toList == ([] : List UInt8)) = false := by rw [HX.out, bs_empty, decide_eq_false hL]
        have hfin : L = digsB 10 n := by have h := HD.out; rw [HM0.out] at h; exact h.fin hL
        have HXL : Hid (X = bs (digsB 10 n)) := by show _ = _; rw [HX.out, hfin]
        have hXs : X.size ≤ 11 := by rw [HX.out, bs_size]; exact HD.out.len hlenn
        clear h0 hL
        have HR : Hid (X = bs (spellL 10 n)) := HXL
        clear HXL hfin
        go_wp2
        go_ret
        exact ⟨ret_str HR.out, hb⟩

set_option maxRecDepth 20000 in
set_option maxHeartbeats 4000000 in
theorem digits16_any (n : Nat) (hn : n < 4294967296) (w : World) :
    Calls Tryd.prog 17 #[.int .i64 (n : Int), .int .i64 16] w fun e w' => e = .returned (.string (bs (spellL 16 n))) ∧ Below w.heap.size w w' := by
  have hn40 : n < 1099511627776 := by omega
  have hlenn : (digsB 16 n).length ≤ 11 := digs_length (by omega) 10 n hn40 (by rw [pow8]; omega)
  go_enter Tryd.func17, Tryd.ntmps17
  go_wp2
  go_loopw [5, 6] (fun v i wr => ∃ (m : Nat) (L : List UInt8) (X : ByteArray), m < 4294967296 ∧ i = .int .i64 m ∧ v = .string X ∧ Hid (X = bs L) ∧ Hid (Digs 16 n m L) ∧ Below w.heap.size w wr) (fun v i _ => 2 * (intOf i).toNat + strE v)
  case atStart => exact ⟨n, [], _, hn, rfl, rfl, Lib.hid rfl, Lib.hid (.inl ⟨rfl, rfl⟩), Below.refl _ _⟩
  case round =>
    obtain ⟨m, L, X, hm, rfl, rfl, HX, HD, hb⟩ := hrel
    by_cases h0 : 0 < m
    · have hd : decide ((0 : Int) < (m : Int)) = true := decide_eq_true (by omega)
      have HC : Hid (0 < m ∨ L = []) := Lib.hid (.inl h0)
      have hm40 : m < 1099511627776 := by omega
      obtain ⟨q, hq⟩ : ∃ q, q = m / 16 := ⟨_, rfl⟩
      obtain ⟨r, hr⟩ : ∃ r, r = m % 16 := ⟨_, rfl⟩
      have hqi : (m : Int) / 16 = (q : Int) := by omega
      have hri : (m : Int) % 16 = (r : Int) := by omega
      have hr16 : r < 16 := by omega
      have hrb : r < 16 := by omega
      have hri2 : (r : Int) < 16 := by omega
      have hx := hex_lit ⟨r, hr16⟩
      simp only at hx
      have HNX : Hid (Digs 16 n q (hexc r :: L)) := by rw [hq, hr]; exact Lib.hid (HD.out.next (by omega) hn40 hm40 HC.out)
      have hlen := HD.out.len hlenn
      have hsz : ¬ (9223372036854775807 < ((⟨#[48, 49, 50, 51, 52, 53, 54, 55, 56, 57, 97, 98, 99, 100, 101, 102]⟩ : ByteArray).extract r (r + 1)).size + X.size) := by rw [hx, HX.out, bs_size, bs_size]; simp; omega
      have HS : Hid ((⟨#[48, 49, 50, 51, 52, 53, 54, 55, 56, 57, 97, 98, 99, 100, 101, 102]⟩ : ByteArray).extract r (r + 1) ++ X = bs (hexc r :: L)) := by show _ = _; rw [hx, HX.out]; exact bs_add [hexc r] L
      have HQ := Lib.hid hq
      clear hq hr hx hlen
      go_wp2
      go_quiet (fail)
      go_wp2
      go_roundw
      case rel => exact ⟨q, hexc r :: L, _, by have := HQ.out; omega, rfl, rfl, Lib.hid HS.out, HNX, below_drewN hb _⟩
      case measure =>
        have h1 := HQ.out
        have h2 : ((⟨#[48, 49, 50, 51, 52, 53, 54, 55, 56, 57, 97, 98, 99, 100, 101, 102]⟩ : ByteArray).extract r (r + 1) ++ X).size ≠ 0 := by rw [HS.out, bs_size]; simp
        simp only [intOf, strE, if_neg h2]
        omega
    · have hd : decide ((0 : Int) < (m : Int)) = false := decide_eq_false (by omega)
      have HM0 : Hid (m = 0) := Lib.hid (by omega)
      by_cases hL : L = []
      · have he : (X.toList == ([] : List UInt8)) = true := by rw [HX.out, bs_empty, decide_eq_true hL]
        have HC : Hid (0 < m ∨ L = []) := Lib.hid (.inr hL)
        have HL0 := Lib.hid hL
        obtain rfl : m = 0 := HM0.out
        have hw1 : IntKind.i64.wrap 1 = 1 := by decide
        have hsz : ¬ (9223372036854775807 < ((⟨#[48, 49, 50, 51, 52, 53, 54, 55, 56, 57, 97, 98, 99, 100, 101, 102]⟩ : ByteArray).extract 0 1).size + X.size) := by rw [HX.out, HL0.out, bs_size, ByteArray.size_extract]; simp; omega
        have HS : Hid ((⟨#[48, 49, 50, 51, 52, 53, 54, 55, 56, 57, 97, 98, 99, 100, 101, 102]⟩ : ByteArray).extract 0 1 ++ X = bs [hexc 0]) := by show _ = _; rw [HX.out, HL0.out, hex_lit ⟨0, by omega⟩]; exact bs_add [hexc 0] []
        have HNX : Hid (Digs 16 n 0 [hexc 0]) := by
          have h := HD.out.next (b := 16) (by omega) hn40 (by omega) HC.out
          rw [HL0.out, Nat.zero_mod, Nat.zero_div] at h
          exact Lib.hid h
        clear hL h0 HM0 hd
        go_wp2
        go_quiet (fail)
        go_wp2
        go_roundw
        case rel => exact ⟨0, [hexc 0], _, by omega, rfl, rfl, Lib.hid HS.out, HNX, below_drewN hb _⟩
        case measure =>
          have h2 : ((⟨#[48, 49, 50, 51, 52, 53, 54, 55, 56, 57, 97, 98, 99, 100, 101, 102]⟩ : ByteArray).extract 0 1 ++ X).size ≠ 0 := by rw [HS.out, bs_size]; simp
          have h3 : X.size = 0 := by rw [HX.out, HL0.out]; rfl
          simp only [intOf, strE, if_neg h2, h3, if_true]
          omega
      · have he : (X.toList == ([] : List UInt8)) = false := by rw [HX.out, bs_empty, decide_eq_false hL]
        have hfin : L = digsB 16 n := by have h := HD.out; rw [HM0.out] at h; exact h.fin hL
        have HXL : Hid (X = bs (digsB 16 n)) := by show _ = _; rw [HX.out, hfin]
        have hXs : X.size ≤ 11 := by rw [HX.out, bs_size]; exact HD.out.len hlenn
        clear h0 hL
        have hlow := fun W => refLower_any X W (by omega)
        have hls : (lowS X).size = X.size := lowS_size X
        have HR : Hid ((⟨#[48, 88]⟩ : ByteArray) ++ lowS X = bs (spellL 16 n)) := by
          show _ = _
          rw [HXL.out, lowS, ls_bs]
          exact bs_add [48, 88] _
        generalize lowS X = Y at *
        have hq1 : ¬ (9223372036854775807 < (⟨#[48, 88]⟩ : ByteArray).size + Y.size) := by have : (⟨#[48, 88]⟩ : ByteArray).size = 2 := rfl; omega
        clear HXL hfin
        go_wp2_with (go_at_call 31; refine (hlow _).mono ?_; rintro e w2 ⟨rfl, hb2⟩)
        go_ret
        exact ⟨ret_str HR.out, hb.trans (hb2.mono hb.size)⟩

theorem digits_any (n b : Nat) (hb : b = 8 ∨ b = 10 ∨ b = 16) (hn : n < 4294967296) (w : World) :
    Calls Tryd.prog 17 #[.int .i64 (n : Int), .int .i64 (b : Int)] w fun e w' => e = .returned (.string (bs (spellL b n))) ∧ Below w.heap.size w w' := by
  rcases hb with rfl | rfl | rfl
  · exact digits8_any n hn w
  · exact digits10_any n hn w
  · exact digits16_any n hn w

end Go.Proofs.YtmgmepikgccmcaaDoor
