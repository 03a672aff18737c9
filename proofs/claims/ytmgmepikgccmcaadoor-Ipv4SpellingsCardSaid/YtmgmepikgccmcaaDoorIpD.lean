/-
  The walk of Ipv4TooLarge: it returns true.
-/
import Derived.Test.YtmgmepikgccmcaaDoorIpB
import Derived.Test.YtmgmepikgccmcaaDoorIpC
namespace Go.Proofs.YtmgmepikgccmcaaDoor
open Go.RowKit

theorem wf_i64 {v : Int} (h : (Lit.int .i64 v).wf = true) : -9223372036854775808 ≤ v ∧ v ≤ 9223372036854775807 := by
  have h1 : IntKind.i64.min = -9223372036854775808 := rfl
  have h2 : IntKind.i64.max = 9223372036854775807 := rfl
  simp [Lit.wf, h1, h2] at h
  exact h
/-- The facts of the four strings. -/
theorem too_facts (j N z : Nat) (L : Nat) (hj : j ≤ 3) (hL : L = 256 ^ (4 - j)) (hN : L ≤ N) :
    aK (pnL (onesL j ++ Lib.decDigits (L - 1))) = true ∧ aK (pnL (onesL j ++ Lib.decDigits N)) = false ∧ aK (pnL (onesL j ++ (Lib.decDigits N ++ List.replicate z 48))) = false ∧ aK (pnL ([50, 53, 54, 46] ++ onesL j ++ [49])) = false := by
  have hp : 0 < L := by rw [hL]; exact Nat.pow_pos (by decide)
  refine ⟨?_, ?_, ?_, pn_256 j⟩
  · have := pn_ones _ _ (dec_noB (L - 1)) (numL_dec (L - 1)) j hj
    rw [← hL, decide_eq_true (by omega)] at this
    exact this
  · have := pn_ones _ _ (dec_noB N) (numL_dec N) j hj
    rw [← hL, decide_eq_false (by omega)] at this
    exact this
  · have := pn_ones _ _ (noB_zeros N z) (numL_zeros N (by omega) z) j hj
    have h10 : 1 ≤ 10 ^ z := Nat.pow_pos (by decide)
    have : N * 1 ≤ N * 10 ^ z := Nat.mul_le_mul_left _ h10
    rename_i this'
    rw [← hL, decide_eq_false (by omega)] at this'
    exact this'

set_option maxRecDepth 20000 in
set_option maxHeartbeats 4000000 in
theorem walkIpTL (hP : IpPar 8) (hQ : IpPn 10) (hN : IpNum 12) (hF : IpFmt 14)
    (a b c : Int) (ha : (Lit.int .i64 a).wf = true) (hb : (Lit.int .i64 b).wf = true) (hc : (Lit.int .i64 c).wf = true) (w : World) (hpw : Pow w) :
    Calls Tryd.prog 6 #[.int .i64 a, .int .i64 b, .int .i64 c] w (Yes w) := by
  have ha := wf_i64 ha
  have hb := wf_i64 hb
  have hc := wf_i64 hc
  have m1 := fun W => mod_any a 4 (by omega) (by omega) ha.1 ha.2 W
  have m2 := fun W => mod_any b 1073741824 (by omega) (by omega) hb.1 hb.2 W
  have m3 := fun W => mod_any c 40 (by omega) (by omega) hc.1 hc.2 W
  obtain ⟨j, hj⟩ : ∃ j : Nat, a % 4 = (j : Int) := ⟨(a % 4).toNat, by omega⟩
  obtain ⟨x, hx⟩ : ∃ x : Nat, b % 1073741824 = (x : Int) := ⟨(b % 1073741824).toNat, by omega⟩
  obtain ⟨Z, hZ⟩ : ∃ z : Nat, c % 40 = (z : Int) := ⟨(c % 40).toNat, by omega⟩
  have hj3 : j ≤ 3 := by omega
  have hxb : x < 1073741824 := by omega
  have hZb : Z < 40 := by omega
  rw [hj] at m1
  rw [hx] at m2
  rw [hZ] at m3
  clear hj hx hZ ha hb hc
  obtain ⟨n, hn⟩ : ∃ n, n = j + 1 := ⟨_, rfl⟩
  have e1 : 1 + (j : Int) = (n : Int) := by omega
  have e2 : (n : Int) - 1 = (j : Int) := by omega
  obtain ⟨K, hK⟩ : ∃ K, K = 8 * (4 - j) := ⟨_, rfl⟩
  have e3 : 8 * (5 - (n : Int)) = (K : Int) := by omega
  have hK32 : K ≤ 32 := by omega
  obtain ⟨L, hL⟩ : ∃ L : Nat, L = 256 ^ (4 - j) := ⟨_, rfl⟩
  have hLK : L = 2 ^ K := by rw [hL, hK, Nat.pow_mul]
  have hL1 : 256 ≤ L ∧ L ≤ 4294967296 := by
    rw [hL]
    have : j = 0 ∨ j = 1 ∨ j = 2 ∨ j = 3 := by omega
    rcases this with rfl | rfl | rfl | rfl <;> decide
  obtain ⟨hL0, hL2⟩ := hL1
  have e4 : (2 : Int) ^ K = (L : Int) := by rw [hLK, Int.natCast_pow]; rfl
  obtain ⟨N, hNN⟩ : ∃ N, N = L + x := ⟨_, rfl⟩
  have e5 : (L : Int) + (x : Int) = (N : Int) := by omega
  obtain ⟨M, hM⟩ : ∃ M, M = L - 1 := ⟨_, rfl⟩
  have e6 : (L : Int) - 1 = (M : Int) := by omega
  have f1 := fun W => refFromInt_any (N : Int) (by omega) (by omega) W
  have f2 := fun W => refFromInt_any (M : Int) (by omega) (by omega) W
  have s1 := dec_size15 N (by omega)
  have s2 := dec_size15 M (by omega)
  rw [show ((N : Int)).toNat = N from rfl] at f1
  rw [show ((M : Int)).toNat = M from rfl] at f2
  have HT := Lib.hid (too_facts j N Z L hj3 hL (by omega))
  rw [← hM] at HT
  have hones := onesL_length j
  have c9 := awake10_any hP hQ hN hF
  have HN1 : Hid (N ≤ 10000000000 ∧ M ≤ 10000000000 ∧ n = j + 1) := Lib.hid ⟨by omega, by omega, hn⟩
  have hNb : N ≤ 10000000000 := by omega
  have hMb : M ≤ 10000000000 := by omega
  have hLb : L ≤ 4294967296 := by omega
  have hnb : n ≤ 4 := by omega
  clear hn hK hL hLK hNN hM
  go_enter Tryd.func6, Tryd.ntmps6
  go_wp2_with fail
  refine (m1 _).mono ?_
  rintro r w' ⟨rfl, rfl⟩
  go_wp2_with fail
  go_loop [8, 9] (fun v i => ∃ (k : Nat) (X : ByteArray), k ≤ j ∧ i = .int .i64 k ∧ v = .string X ∧ Hid (X = bs (onesL k))) (fun _ i => j - (intOf i).toNat)
  case atStart => exact ⟨0, _, Nat.zero_le _, rfl, rfl, Lib.hid rfl⟩
  case round =>
    obtain ⟨k, X, hk, rfl, rfl, HX⟩ := hrel
    by_cases hlt : k < j
    · have hXs : X.size ≤ 6 := by rw [HX.out, bs_size, onesL_length]; omega
      have hadd : ¬ (9223372036854775807 < X.size + (⟨#[49, 46]⟩ : ByteArray).size) := by have : (⟨#[49, 46]⟩ : ByteArray).size = 2 := rfl; omega
      have HX2 : Hid (X ++ (⟨#[49, 46]⟩ : ByteArray) = bs (onesL (k + 1))) := by
        show _ = _
        rw [HX.out]
        exact bs_add _ [49, 46]
      go_wp2
      go_round
      case rel => exact ⟨k + 1, _, by omega, by go_num, rfl, Lib.hid HX2.out⟩
      case measure => simp [intOf]; omega
    · obtain rfl : k = j := by omega
      have hXs : X.size = 2 * k := by rw [HX.out, bs_size, onesL_length]
      have q1 := fun W => hQ (X ++ bs (Lib.decDigits M)) W (by rw [ByteArray.size_append]; omega)
      have q2 := fun W => hQ (X ++ bs (Lib.decDigits N)) W (by rw [ByteArray.size_append]; omega)
      have q4 := fun W => hQ ((⟨#[50, 53, 54, 46]⟩ : ByteArray) ++ X ++ (⟨#[49]⟩ : ByteArray)) W (by rw [ByteArray.size_append, ByteArray.size_append]; have : (⟨#[50, 53, 54, 46]⟩ : ByteArray).size = 4 := rfl; have : (⟨#[49]⟩ : ByteArray).size = 1 := rfl; omega)
      have HXL : Hid (ls X = onesL k) := by show _ = _; rw [HX.out, ls_bs]
      have l1 : ls (X ++ bs (Lib.decDigits M)) = onesL k ++ Lib.decDigits M := by rw [ls_append, ls_bs, HXL.out]
      have l2 : ls (X ++ bs (Lib.decDigits N)) = onesL k ++ Lib.decDigits N := by rw [ls_append, ls_bs, HXL.out]
      have l4 : ls ((⟨#[50, 53, 54, 46]⟩ : ByteArray) ++ X ++ (⟨#[49]⟩ : ByteArray)) = [50, 53, 54, 46] ++ onesL k ++ [49] := by rw [ls_append, ls_append, HXL.out]; rfl
      rw [l1, HT.out.1] at q1
      rw [l2, HT.out.2.1] at q2
      rw [l4, HT.out.2.2.2] at q4
      generalize aV (pnL (onesL k ++ Lib.decDigits M)) = y1 at *
      generalize aV (pnL (onesL k ++ Lib.decDigits N)) = y2 at *
      generalize aV (pnL ([50, 53, 54, 46] ++ onesL k ++ [49])) = y4 at *
      obtain ⟨D1, hD1⟩ : ∃ D, D = bs (Lib.decDigits M) := ⟨_, rfl⟩
      obtain ⟨D2, hD2⟩ : ∃ D, D = bs (Lib.decDigits N) := ⟨_, rfl⟩
      rw [← hD1] at f2 s2 q1
      rw [← hD2] at f1 s1 q2
      have HD2 := Lib.hid hD2
      have a1 : ¬ (9223372036854775807 < X.size + D1.size) := by omega
      have a2 : ¬ (9223372036854775807 < X.size + D2.size) := by omega
      have a4 : ¬ (9223372036854775807 < (⟨#[50, 53, 54, 46]⟩ : ByteArray).size + X.size) := by have : (⟨#[50, 53, 54, 46]⟩ : ByteArray).size = 4 := rfl; omega
      have a5 : ¬ (9223372036854775807 < ((⟨#[50, 53, 54, 46]⟩ : ByteArray) ++ X).size + (⟨#[49]⟩ : ByteArray).size) := by
        rw [ByteArray.size_append]
        have : (⟨#[50, 53, 54, 46]⟩ : ByteArray).size = 4 := rfl
        have : (⟨#[49]⟩ : ByteArray).size = 1 := rfl
        omega
      clear l1 l2 l4 hD1 hD2 hones
      go_wp2_with fail
      refine (m2 _).mono ?_
      rintro r w' ⟨rfl, rfl⟩
      go_wp2_with fail
      refine (f1 _).mono ?_
      rintro r w1 ⟨rfl, hb1⟩
      go_wp2_with fail
      refine (f2 _).mono ?_
      rintro r w2 ⟨rfl, hb2⟩
      replace hb2 := hb1.trans (hb2.mono hb1.size)
      go_wp2_with fail
      refine (q1 _).mono ?_
      rintro r w3 ⟨rfl, hb3⟩
      replace hb3 := hb2.trans (hb3.mono hb2.size)
      go_wp2_with fail
      refine (q2 _).mono ?_
      rintro r w4 ⟨rfl, hb4⟩
      replace hb4 := hb3.trans (hb4.mono hb3.size)
      go_wp2_with fail
      refine (m3 _).mono ?_
      rintro r w' ⟨rfl, rfl⟩
      clear m1 m2 m3 f1 f2 q1 q2 hb1 hb2 hb3 a1 a2 s2
      go_wp2_with fail
      go_loop [11, 16] (fun v i => ∃ (z : Nat) (Y : ByteArray), z ≤ Z ∧ i = .int .i64 z ∧ v = .string Y ∧ Hid (Y = bs (Lib.decDigits N ++ List.replicate (Z - z) 48))) (fun _ i => (intOf i).toNat)
      case atStart => exact ⟨Z, _, Nat.le_refl _, rfl, rfl, Lib.hid (by rw [HD2.out, Nat.sub_self]; simp)⟩
      case round =>
        obtain ⟨z, Y, hz, rfl, rfl, HY⟩ := hrel
        have HLN : Hid ((Lib.decDigits N).length ≤ 16) := by show _ ≤ _; have := s1; rw [HD2.out, bs_size] at this; exact this
        by_cases hz0 : 0 < z
        · have hd : decide ((0 : Int) < (z : Int)) = true := decide_eq_true (by omega)
          obtain ⟨z', hz'⟩ : ∃ z', z = z' + 1 := ⟨z - 1, by omega⟩
          have hzz : (z : Int) - 1 = (z' : Int) := by omega
          have hYs : Y.size ≤ 60 := by rw [HY.out, bs_size, List.length_append, List.length_replicate]; have := HLN.out; omega
          have hadd : ¬ (9223372036854775807 < Y.size + (⟨#[48]⟩ : ByteArray).size) := by have : (⟨#[48]⟩ : ByteArray).size = 1 := rfl; omega
          have HY2 : Hid (Y ++ (⟨#[48]⟩ : ByteArray) = bs (Lib.decDigits N ++ List.replicate (Z - z') 48)) := by
            show _ = _
            rw [HY.out, show Z - z' = (Z - z) + 1 by omega, List.replicate_succ', ← List.append_assoc]
            exact bs_add _ [48]
          have HZ' := Lib.hid hz'
          clear hz'
          go_wp2
          go_round
          case rel => exact ⟨z', _, by have := HZ'.out; omega, by go_num, rfl, Lib.hid HY2.out⟩
          case measure => simp [intOf]; have := HZ'.out; omega
        · have hd : decide ((0 : Int) < (z : Int)) = false := decide_eq_false (by omega)
          have HY0 : Hid (Y = bs (Lib.decDigits N ++ List.replicate Z 48)) := by show _ = _; rw [HY.out, show Z - z = Z by omega]
          have hYs : Y.size ≤ 60 := by rw [HY0.out, bs_size, List.length_append, List.length_replicate]; have := HLN.out; omega
          have q3 := fun W => hQ (X ++ Y) W (by rw [ByteArray.size_append]; omega)
          have l3 : ls (X ++ Y) = onesL k ++ (Lib.decDigits N ++ List.replicate Z 48) := by rw [ls_append, HXL.out, HY0.out, ls_bs]
          rw [l3, HT.out.2.2.1] at q3
          generalize aV (pnL (onesL k ++ (Lib.decDigits N ++ List.replicate Z 48))) = y3 at *
          have a3 : ¬ (9223372036854775807 < X.size + Y.size) := by omega
          clear l3
          go_wp2_with fail
          refine (q3 _).mono ?_
          rintro r w5 ⟨rfl, hb5⟩
          replace hb5 := hb4.trans (hb5.mono hb4.size)
          go_wp2_with fail
          refine (q4 _).mono ?_
          rintro r w6 ⟨rfl, hb6⟩
          replace hb6 := hb5.trans (hb6.mono hb5.size)
          go_wp2_with fail
          refine (c9 _ (pow_below hpw hb6)).mono ?_
          rintro r w7 ⟨rfl, hb7⟩
          replace hb7 := hb6.trans (hb7.mono hb6.size)
          go_wp2
          go_ret
          exact ⟨rfl, hb7⟩

end Go.Proofs.YtmgmepikgccmcaaDoor
