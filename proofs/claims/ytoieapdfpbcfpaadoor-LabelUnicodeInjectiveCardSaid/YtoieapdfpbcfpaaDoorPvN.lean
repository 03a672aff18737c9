/-
  Contract of package punycode's addNumber.
-/
import Derived.Test.YtoieapdfpbcfpaaDoorPvB
namespace Go.Proofs.YtoieapdfpbcfpaaDoor
open Go.RowKit

/-- What addNumber answers. -/
def addE : Except Nat (Nat × List UInt8) → Nat
  | .error c => c
  | .ok _ => 0
def addI : Except Nat (Nat × List UInt8) → Nat
  | .error _ => 0
  | .ok (j, _) => j
def addS (n : Nat) : Except Nat (Nat × List UInt8) → Nat
  | .error _ => 0
  | .ok (_, r) => n - r.length
theorem add_err {x : Except Nat (Nat × List UInt8)} {c n : Nat} (h : x = .error c) : addE x = c ∧ addI x = 0 ∧ addS n x = 0 := by subst h; exact ⟨rfl, rfl, rfl⟩
theorem add_ok {x : Except Nat (Nat × List UInt8)} {j n : Nat} {r : List UInt8} (h : x = .ok (j, r)) : addE x = 0 ∧ addI x = j ∧ addS n x = n - r.length := by subst h; exact ⟨rfl, rfl, rfl⟩
theorem ret_three {a a' b b' c c' : Nat} (h1 : a = a') (h2 : b = b') (h3 : c = c') : Ending.returned (.tuple #[.int .i64 (a : Int), .int .i64 (b : Int), .int .i64 (c : Int)]) = .returned (.tuple #[.int .i64 (a' : Int), .int .i64 (b' : Int), .int .i64 (c' : Int)]) := by rw [h1, h2, h3]

set_option maxRecDepth 20000 in
set_option maxHeartbeats 4000000 in
theorem addN_any (B : Nat) (w : World) (s : ByteArray) (I bias bk bb : Nat) (hc : Clo w B bk bb 0 bias) (hB : B ≤ w.heap.size) (hI : I ≤ 1000000) (hbi : bias ≤ 1000) (hs : s.size ≤ 1000000) :
    Calls Tryd.prog 59 #[.int .i64 (I : Int), .string s, .func (.func 54) #[] #[.pointer (some ⟨bk, 0, none⟩), .pointer (some ⟨bb, 0, none⟩)]] w fun e w' =>
      e = .returned (.tuple #[.int .i64 (addI (rdNum (ls s) bias 0 1 I) : Nat), .int .i64 (addS s.size (rdNum (ls s) bias 0 1 I) : Nat), .int .i64 (addE (rdNum (ls s) bias 0 1 I) : Nat)]) ∧ Below B w w' := by
  obtain ⟨R, hR⟩ : ∃ R, R = rdNum (ls s) bias 0 1 I := ⟨_, rfl⟩
  rw [← hR]
  have HR := Lib.hid hR
  have HC0 := Lib.hid hc
  clear hR hc
  go_enter Tryd.func59, Tryd.ntmps59
  go_wp2_with fail
  go_loopw [0, 9, 15] (fun iv wv av wr => ∃ (a i' w' : Nat), iv = .int .i64 i' ∧ wv = .int .i64 w' ∧ av = .int .i64 a ∧ a ≤ s.size ∧ i' ≤ 1099511627776 ∧ w' ≤ 1099511627776 ∧ Hid (R = rdNum ((ls s).drop a) bias a w' i') ∧ Hid (Clo wr B bk bb a bias) ∧ Below B w wr) (fun _ _ av _ => s.size - (intOf av).toNat)
  case atStart => exact ⟨0, I, 1, rfl, rfl, rfl, Nat.zero_le _, by omega, by omega, HR, HC0, Below.refl _ _⟩
  case round =>
    obtain ⟨a', i', w', rfl, rfl, rfl, ha', hi', hw', HRD, HC, hb⟩ := hrel
    by_cases hlt5 : a' < s.size
    · have hged : decide ((a' : Int) < (s.size : Int)) = true := decide_eq_true (by omega)
      have hgeN : decide (a' < s.size) = true := decide_eq_true hlt5
      have hdr := drop_ls_cons s a' hlt5
      have cV := digOf_any s[a']
      cases hpv : pval s[a'] with
      | none =>
        rw [dvN_none hpv] at cV
        obtain ⟨e1, e2, e3⟩ := add_err (n := s.size) (show R = .error 4 by rw [HRD.out, hdr, rdNum, hpv])
        have HE := Lib.hid e1
        have HE2 := Lib.hid e2
        have HE3 := Lib.hid e3
        clear hdr hpv e1 e2 e3
        go_wp2_with (go_at_call 64; refine (cV _).mono ?_; rintro e w' ⟨rfl, rfl⟩)
        go_ret3
        exact ⟨ret_three HE2.out.symm HE3.out.symm HE.out.symm, hb⟩
      | some d =>
        rw [dvN_some hpv] at cV
        have hd36 := pval_lt hpv
        have hdn : ((d : Int) == 36) = false := by rw [beq_eq_false_iff_ne]; omega
        have hdnN : (d == 36) = false := by rw [beq_eq_false_iff_ne]; omega
        have hrd : R = if 1099511627776 < i' + d * w' then .error 19 else if d < thr a' bias then .ok (i' + d * w', (ls s).drop (a' + 1)) else if 1099511627776 < w' * (36 - thr a' bias) then .error 19 else rdNum ((ls s).drop (a' + 1)) bias (a' + 1) (w' * (36 - thr a' bias)) (i' + d * w') := by rw [HRD.out, hdr, rdNum, hpv]
        have hdw : (d : Int) * (w' : Int) = ((d * w' : Nat) : Int) := by simp
        have hdwb : d * w' ≤ 35 * 1099511627776 := Nat.mul_le_mul (by omega) hw'
        obtain ⟨i2, hi2⟩ : ∃ i2, i2 = i' + d * w' := ⟨_, rfl⟩
        rw [← hi2] at hrd
        have hdw0 : 0 ≤ (d : Int) * (w' : Int) := by omega
        have hdw1 : (d : Int) * (w' : Int) ≤ 38482906972160 := by omega
        have hi2i : (i' : Int) + (d : Int) * (w' : Int) = (i2 : Int) := by omega
        have hi2b : i2 ≤ 39582418599936 := by omega
        have ht := thr_range a' bias
        have cT := clo_call wr B bk bb a' bias HC.out (by omega) (by omega)
        have HRD2 := Lib.hid hrd
        have HLK := Lib.hid HC.out.lk
        clear hdr hpv hdw hdwb hi2 hrd
        by_cases hov : 1099511627776 < i2
        · have hovd : decide ((1099511627776 : Int) < (i2 : Int)) = true := decide_eq_true (by omega)
          have hovN : decide (1099511627776 < i2) = true := decide_eq_true hov
          obtain ⟨e1, e2, e3⟩ := add_err (n := s.size) (show R = .error 19 by rw [HRD2.out, if_pos hov])
          have HE := Lib.hid e1
          have HE2 := Lib.hid e2
          have HE3 := Lib.hid e3
          clear e1 e2 e3
          go_wp2_with (go_at_call 64; refine (cV _).mono ?_; rintro e w' ⟨rfl, rfl⟩)
          go_ret3
          exact ⟨ret_three HE2.out.symm HE3.out.symm HE.out.symm, hb⟩
        · have hovd : decide ((1099511627776 : Int) < (i2 : Int)) = false := decide_eq_false (by omega)
          have hovN : decide (1099511627776 < i2) = false := decide_eq_false hov
          obtain ⟨t, hte⟩ : ∃ t, t = thr a' bias := ⟨_, rfl⟩
          rw [← hte] at HRD2 ht cT
          clear hte
          by_cases hdt : d < t
          · have hdtd : decide ((d : Int) < (t : Int)) = true := decide_eq_true (by omega)
            have hdtN : decide (d < t) = true := decide_eq_true hdt
            obtain ⟨e1, e2, e3⟩ := add_ok (n := s.size) (show R = .ok (i2, (ls s).drop (a' + 1)) by rw [HRD2.out, if_neg hov, if_pos hdt])
            rw [List.length_drop, ls_length, show s.size - (s.size - (a' + 1)) = a' + 1 by omega] at e3
            have HE := Lib.hid e1
            have HE2 := Lib.hid e2
            have HE3 := Lib.hid e3
            clear e1 e2 e3
            go_wp2_with (go_at_call 64; refine (cV _).mono ?_; rintro e w' ⟨rfl, rfl⟩)
            refine cT.mono ?_
            rintro e w1 ⟨rfl, hc1, hg1⟩
            have hb1 := hb.grown hg1 (Nat.le_trans hB hb.size) (fun k hk => by injection hk with hk; rw [← hk]; exact HLK.out)
            clear hc1 hg1 hb
            go_wp2
            go_ret3
            exact ⟨ret_three HE2.out.symm HE3.out.symm HE.out.symm, hb1⟩
          · have hdtd : decide ((d : Int) < (t : Int)) = false := decide_eq_false (by omega)
            have hdtN : decide (d < t) = false := decide_eq_false hdt
            have hwt : (w' : Int) * (36 - (t : Int)) = ((w' * (36 - t) : Nat) : Int) := by rw [Int.natCast_mul, Int.natCast_sub (by omega)]; rfl
            have hwtb : w' * (36 - t) ≤ 1099511627776 * 35 := Nat.mul_le_mul hw' (by omega)
            obtain ⟨w2, hw2⟩ : ∃ w2, w2 = w' * (36 - t) := ⟨_, rfl⟩
            rw [← hw2] at hwt hwtb
            have hwt0 : 0 ≤ (w' : Int) * (36 - (t : Int)) := by omega
            have hwt1 : (w' : Int) * (36 - (t : Int)) ≤ 38482906972160 := by omega
            have HRD3 : Hid (R = if 1099511627776 < w2 then .error 19 else rdNum ((ls s).drop (a' + 1)) bias (a' + 1) w2 i2) := by
              show _ = _
              rw [HRD2.out, if_neg hov, if_neg hdt, ← hw2]
            clear hw2 HRD2
            by_cases hwo : 1099511627776 < w2
            · have hwod : decide ((1099511627776 : Int) < (w2 : Int)) = true := decide_eq_true (by omega)
              have hwoN : decide (1099511627776 < w2) = true := decide_eq_true hwo
              obtain ⟨e1, e2, e3⟩ := add_err (n := s.size) (show R = .error 19 by rw [HRD3.out, if_pos hwo])
              have HE := Lib.hid e1
              have HE2 := Lib.hid e2
              have HE3 := Lib.hid e3
              clear e1 e2 e3
              go_wp2_with (go_at_call 64; refine (cV _).mono ?_; rintro e w' ⟨rfl, rfl⟩)
              refine cT.mono ?_
              rintro e w1 ⟨rfl, hc1, hg1⟩
              have hb1 := hb.grown hg1 (Nat.le_trans hB hb.size) (fun k hk => by injection hk with hk; rw [← hk]; exact HLK.out)
              clear hc1 hg1 hb
              go_wp2
              go_ret3
              exact ⟨ret_three HE2.out.symm HE3.out.symm HE.out.symm, hb1⟩
            · have hwod : decide ((1099511627776 : Int) < (w2 : Int)) = false := decide_eq_false (by omega)
              have hwoN : decide (1099511627776 < w2) = false := decide_eq_false hwo
              have HRD4 : Hid (R = rdNum ((ls s).drop (a' + 1)) bias (a' + 1) w2 i2) := by
                show _ = _
                rw [HRD3.out, if_neg hwo]
              go_wp2_with (go_at_call 64; refine (cV _).mono ?_; rintro e w' ⟨rfl, rfl⟩)
              refine cT.mono ?_
              rintro e w1 ⟨rfl, hc1, hg1⟩
              have hb1 := hb.grown hg1 (Nat.le_trans hB hb.size) (fun k hk => by injection hk with hk; rw [← hk]; exact HLK.out)
              have HC1 := Lib.hid hc1
              clear hc1 hg1 hb
              go_wp2
              go_roundw
              case rel => exact ⟨a' + 1, i2, w2, by go_num, by go_num, by go_num, by omega, by omega, by omega, HRD4, HC1, hb1⟩
              case measure => simp [intOf]; omega
    · obtain rfl : a' = s.size := by omega
      have hged : decide ((s.size : Int) < (s.size : Int)) = false := by simp
      obtain ⟨e1, e2, e3⟩ := add_err (n := s.size) (show R = .error 4 by rw [HRD.out, drop_ls_all, rdNum])
      have HE := Lib.hid e1
      have HE2 := Lib.hid e2
      have HE3 := Lib.hid e3
      clear e1 e2 e3
      go_wp2
      go_ret3
      exact ⟨ret_three HE2.out.symm HE3.out.symm HE.out.symm, hb⟩

end Go.Proofs.YtoieapdfpbcfpaaDoor
