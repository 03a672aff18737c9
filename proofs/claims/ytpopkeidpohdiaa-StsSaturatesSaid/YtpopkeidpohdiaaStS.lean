/-
  The walk of StsSaturates: the call returns true.
-/
import Derived.Test.YtpopkeidpohdiaaStN
import Derived.Test.YtpopkeidpohdiaaStD
import Derived.Test.YtpopkeidpohdiaaMod
namespace Go.Proofs.Ytpopkeidpohdiaa
open Go.RowKit

theorem wf_i64s {v : Int} (h : (Lit.int .i64 v).wf = true) : -9223372036854775808 ≤ v ∧ v ≤ 9223372036854775807 := by
  have h1 : IntKind.i64.min = -9223372036854775808 := rfl
  have h2 : IntKind.i64.max = 9223372036854775807 := rfl
  simp [Lit.wf, h1, h2] at h
  exact h

set_option maxRecDepth 20000 in
set_option maxHeartbeats 8000000 in
theorem walkStS (n z : Int) (sub : Bool) (w : World) (hn : (Lit.int .i64 n).wf = true) (hz : (Lit.int .i64 z).wf = true) :
    Calls Try.prog 6 #[.int .i64 n, .int .i64 z, .bool sub] w (Yes w) := by
  have hn := wf_i64s hn
  have hz := wf_i64s hz
  have cm1 := fun W => mod_any n 8589934592 (by decide) (by decide) hn.1 hn.2 W
  have cm2 := fun W => mod_any z 50 (by decide) (by decide) hz.1 hz.2 W
  obtain ⟨k, hk⟩ : ∃ k : Nat, n % 8589934592 = (k : Int) := ⟨(n % 8589934592).toNat, by omega⟩
  obtain ⟨Z, hZ⟩ : ∃ Z : Nat, z % 50 = (Z : Int) := ⟨(z % 50).toNat, by omega⟩
  have hk33 : k < 8589934592 := by omega
  have hZ50 : Z < 50 := by omega
  rw [hk] at cm1
  rw [hZ] at cm2
  have HS1 := Lib.hid (sat_age k Z hk33 hZ50)
  have HS2 := Lib.hid (sat_front k Z hk33 hZ50)
  have hdl := dec_len33 k hk33
  clear hn hz hk hZ
  go_enter Try.func6, Try.ntmps6
  go_wp2_with fail
  refine (cm1 _).mono ?_
  rintro e w1 ⟨rfl, rfl⟩
  clear cm1
  go_wp2
  go_loop [8, 9] (fun v i => ∃ (m : Nat) (L : List UInt8) (X : ByteArray), m < 8589934592 ∧ i = .int .i64 m ∧ v = .string X ∧ Hid (X = bs L) ∧ Hid (DigT k m L)) (fun v i => 2 * (intOf i).toNat + emS v)
  case atStart => exact ⟨k, [], _, hk33, rfl, rfl, Lib.hid rfl, Lib.hid (.inl ⟨rfl, rfl⟩)⟩
  case round =>
    obtain ⟨m, L, X, hm, rfl, rfl, HX, HD⟩ := hrel
    have hlen : X.size ≤ 10 := by rw [HX.out, bs_size]; exact Nat.le_trans HD.out.len hdl
    by_cases hgo : 0 < m ∨ L = []
    · have HN0 := HD.out.next hgo
      obtain ⟨q, hq⟩ : ∃ q, q = m / 10 := ⟨_, rfl⟩
      obtain ⟨r, hr⟩ : ∃ r, r = m % 10 := ⟨_, rfl⟩
      rw [← hq, ← hr] at HN0
      have HN := Lib.hid HN0
      have hqi : (m : Int) / 10 = (q : Int) := by omega
      have hri : (m : Int) % 10 = (r : Int) := by omega
      have hr10 : r < 10 := by omega
      have hr2 : (r : Int) < 10 := by omega
      have hx := dec_lit ⟨r, hr10⟩
      simp only at hx
      have hsz : ¬ (9223372036854775807 < ((⟨#[48, 49, 50, 51, 52, 53, 54, 55, 56, 57]⟩ : ByteArray).extract r (r + 1)).size + X.size) := by rw [hx, bs_size]; simp; omega
      have HS : Hid ((⟨#[48, 49, 50, 51, 52, 53, 54, 55, 56, 57]⟩ : ByteArray).extract r (r + 1) ++ X = bs (UInt8.ofNat (48 + r) :: L)) := by show _ = _; rw [hx, HX.out]; exact bsA [_] L
      have HQ := Lib.hid hq
      have HG := Lib.hid hgo
      by_cases h0 : 0 < m
      · have hd : decide ((0 : Int) < (m : Int)) = true := decide_eq_true (by omega)
        clear hq hr hx HN0 hgo
        go_wp2
        go_round
        case rel => exact ⟨q, _, _, by have := HQ.out; omega, rfl, rfl, Lib.hid HS.out, HN⟩
        case measure =>
          have h1 := HQ.out
          have h2 : ((⟨#[48, 49, 50, 51, 52, 53, 54, 55, 56, 57]⟩ : ByteArray).extract r (r + 1) ++ X).size ≠ 0 := by rw [HS.out, bs_size]; simp
          simp only [intOf, emS, if_neg h2]
          omega
      · have hd : decide ((0 : Int) < (m : Int)) = false := decide_eq_false (by omega)
        have hL : L = [] := hgo.resolve_left h0
        have he : (X.toList == ([] : List UInt8)) = true := by rw [HX.out, bsE, decide_eq_true hL]
        have hX0 : Hid (X.size = 0) := by show _ = _; rw [HX.out, hL]; rfl
        clear hq hr hx HN0 hgo hL
        go_wp2
        go_round
        case rel => exact ⟨q, _, _, by have := HQ.out; omega, rfl, rfl, Lib.hid HS.out, HN⟩
        case measure =>
          have h1 := HQ.out
          have h2 : ((⟨#[48, 49, 50, 51, 52, 53, 54, 55, 56, 57]⟩ : ByteArray).extract r (r + 1) ++ X).size ≠ 0 := by rw [HS.out, bs_size]; simp
          simp only [intOf, emS, if_neg h2, hX0.out, if_true]
          omega
    · obtain rfl : m = 0 := by omega
      have hL : L ≠ [] := fun e => hgo (.inr e)
      have he : (X.toList == ([] : List UInt8)) = false := by rw [HX.out, bsE, decide_eq_false hL]
      have HXD : Hid (X = bs (List.replicate (Z - Z) 48 ++ Lib.decDigits k)) := by
        show _ = _
        have h := HD.out
        rw [HX.out, h.fin hL, Nat.sub_self]
        rfl
      clear hgo hL HX HD
      go_wp2_with fail
      refine (cm2 _).mono ?_
      rintro e w2 ⟨rfl, rfl⟩
      clear cm2
      go_wp2
      go_loop [8, 10] (fun v i => ∃ (m : Nat) (X : ByteArray), m ≤ Z ∧ i = .int .i64 m ∧ v = .string X ∧ Hid (X = bs (List.replicate (Z - m) 48 ++ Lib.decDigits k))) (fun _ i => (intOf i).toNat)
      case atStart => exact ⟨Z, _, Nat.le_refl _, rfl, rfl, HXD⟩
      case round =>
        clear HXD hlen he
        obtain ⟨m2, Y, hm2, rfl, rfl, HY⟩ := hrel
        have hlen : Y.size ≤ 60 := by rw [HY.out, bs_size]; simp; omega
        by_cases h0 : 0 < m2
        · have hd2 : decide ((0 : Int) < (m2 : Int)) = true := decide_eq_true (by omega)
          have HS : Hid ((⟨#[48]⟩ : ByteArray) ++ Y = bs (List.replicate (Z - (m2 - 1)) 48 ++ Lib.decDigits k)) := by
            show _ = _
            rw [HY.out, show Z - (m2 - 1) = (Z - m2) + 1 by omega, List.replicate_succ, List.cons_append]
            exact bsA [48] _
          have hsz : ¬ (9223372036854775807 < (⟨#[48]⟩ : ByteArray).size + Y.size) := by have : (⟨#[48]⟩ : ByteArray).size = 1 := rfl; omega
          have hmi : (m2 : Int) - 1 = ((m2 - 1 : Nat) : Int) := by omega
          go_wp2
          go_round
          case rel => exact ⟨m2 - 1, _, by omega, by go_num, rfl, Lib.hid HS.out⟩
          case measure => simp [intOf]; omega
        · obtain rfl : m2 = 0 := by omega
          have HT1 : Hid ((⟨#[109, 97, 120, 45, 97, 103, 101, 61]⟩ : ByteArray) ++ Y = bs (nmA ++ 61 :: (List.replicate Z 48 ++ Lib.decDigits k))) := by
            show _ = _
            rw [HY.out, Nat.sub_zero]
            exact bsA [109, 97, 120, 45, 97, 103, 101, 61] _
          have hs1 : ¬ (9223372036854775807 < (⟨#[109, 97, 120, 45, 97, 103, 101, 61]⟩ : ByteArray).size + Y.size) := by have : (⟨#[109, 97, 120, 45, 97, 103, 101, 61]⟩ : ByteArray).size = 8 := rfl; omega
          have hs2 : ((⟨#[109, 97, 120, 45, 97, 103, 101, 61]⟩ : ByteArray) ++ Y).size ≤ 100 := by
            rw [ByteArray.size_append]
            have : (⟨#[109, 97, 120, 45, 97, 103, 101, 61]⟩ : ByteArray).size = 8 := rfl
            omega
          have hmin : ∀ W ts t, (Builtin.min_ ts t #[.int .i64 (k : Int), .int .i64 2147483647]).run Try.prog W = .ok (.int .i64 (min (k : Int) 2147483647)) W := fun W ts t => min_two W ts t _ _ _ rfl
          obtain ⟨x, hx⟩ : ∃ x, x = min (k : Int) 2147483647 := ⟨_, rfl⟩
          rw [← hx] at hmin
          cases sub with
          | false =>
            have c1 : ∀ W, Calls Try.prog 8 #[.string ((⟨#[109, 97, 120, 45, 97, 103, 101, 61]⟩ : ByteArray) ++ Y)] W (PolPost (⟨x, false⟩, 0) W) := pol_known (fun W => stsParse_any _ (by omega) W) (by rw [HT1.out, ls_bs, HS1.out, hx])
            clear hx HS1 HS2 HT1 HY hs2
            go_wp2_with fail
            refine (c1 _).mono ?_
            rintro e w3 ⟨rfl, hb⟩
            go_wp2_with (first
              | (refine wpList_alloc_arr _ rfl 12 rfl _ rfl #[.int .i64 0, .bool false] zeroPv ?_; intro W2 p3 hp3 hq3 hR3 hG3)
              | (refine wpList_store_pv rfl rfl _ _ rfl p3 (by exact rfl) x false (by exact rfl) _ _ hR3 ?_
                 intro W3 hr3 hG4
                 have hE := RSt19.boxed hb hp3 hG3 hr3 hG4
                 have c12 := RowPv.cells hr3
                 have k0 := c12.1
                 have k1 := c12.2
                 clear c12 hr3))
            have hb := hE.bel
            clear hE hG3 hG4 hR3
            refine (awake19_any _).mono ?_
            rintro e w4 ⟨rfl, hb2⟩
            replace hb := hb.trans (hb2.mono hb.size)
            clear hb2
            go_wp2
            go_ret
            exact ⟨rfl, hb⟩
          | true =>
            have HT2 : Hid ((⟨#[105, 110, 99, 108, 117, 100, 101, 83, 117, 98, 68, 111, 109, 97, 105, 110, 115, 59]⟩ : ByteArray) ++ ((⟨#[109, 97, 120, 45, 97, 103, 101, 61]⟩ : ByteArray) ++ Y) = bs ([105, 110, 99, 108, 117, 100, 101, 83, 117, 98, 68, 111, 109, 97, 105, 110, 115] ++ 59 :: (nmA ++ 61 :: (List.replicate Z 48 ++ Lib.decDigits k)))) := by
              show _ = _
              rw [HT1.out]
              exact bsA [105, 110, 99, 108, 117, 100, 101, 83, 117, 98, 68, 111, 109, 97, 105, 110, 115, 59] _
            have hs3 : ¬ (9223372036854775807 < (⟨#[105, 110, 99, 108, 117, 100, 101, 83, 117, 98, 68, 111, 109, 97, 105, 110, 115, 59]⟩ : ByteArray).size + ((⟨#[109, 97, 120, 45, 97, 103, 101, 61]⟩ : ByteArray) ++ Y).size) := by have : (⟨#[105, 110, 99, 108, 117, 100, 101, 83, 117, 98, 68, 111, 109, 97, 105, 110, 115, 59]⟩ : ByteArray).size = 18 := rfl; omega
            have c1 : ∀ W, Calls Try.prog 8 #[.string ((⟨#[105, 110, 99, 108, 117, 100, 101, 83, 117, 98, 68, 111, 109, 97, 105, 110, 115, 59]⟩ : ByteArray) ++ ((⟨#[109, 97, 120, 45, 97, 103, 101, 61]⟩ : ByteArray) ++ Y))] W (PolPost (⟨x, true⟩, 0) W) :=
              pol_known (fun W => stsParse_any _ (by rw [ByteArray.size_append]; have : (⟨#[105, 110, 99, 108, 117, 100, 101, 83, 117, 98, 68, 111, 109, 97, 105, 110, 115, 59]⟩ : ByteArray).size = 18 := rfl; omega) W) (by rw [HT2.out, ls_bs, HS2.out, hx])
            clear hx HS1 HS2 HT1 HT2 HY hs2
            go_wp2_with fail
            refine (c1 _).mono ?_
            rintro e w3 ⟨rfl, hb⟩
            go_wp2_with (first
              | (refine wpList_alloc_arr _ rfl 12 rfl _ rfl #[.int .i64 0, .bool false] zeroPv ?_; intro W2 p3 hp3 hq3 hR3 hG3)
              | (refine wpList_store_pv rfl rfl _ _ rfl p3 (by exact rfl) x true (by exact rfl) _ _ hR3 ?_
                 intro W3 hr3 hG4
                 have hE := RSt19.boxed hb hp3 hG3 hr3 hG4
                 have c12 := RowPv.cells hr3
                 have k0 := c12.1
                 have k1 := c12.2
                 clear c12 hr3))
            have hb := hE.bel
            clear hE hG3 hG4 hR3
            refine (awake19_any _).mono ?_
            rintro e w4 ⟨rfl, hb2⟩
            replace hb := hb.trans (hb2.mono hb.size)
            clear hb2
            go_wp2
            go_ret
            exact ⟨rfl, hb⟩

end Go.Proofs.Ytpopkeidpohdiaa
