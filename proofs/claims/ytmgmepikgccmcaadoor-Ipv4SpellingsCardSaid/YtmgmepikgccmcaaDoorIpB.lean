/-
  The walks of Ipv4MatchesSpec and Ipv4RoundTrip: they return true.
-/
import Derived.Test.YtmgmepikgccmcaaDoorIpA
namespace Go.Proofs.YtmgmepikgccmcaaDoor
open Go.RowKit

theorem aV_range {o : Option Nat} (h : ∀ v, o = some v → v < 4294967296) : 0 ≤ aV o ∧ aV o < 4294967296 := by
  unfold aV
  cases o with
  | none => exact ⟨by simp, by simp⟩
  | some v => have := h v rfl; simp only [Option.getD_some]; omega
theorem fmtI_size (v : Nat) (h : v < 4294967296) : (bs (fmtI v)).size ≤ 70 := by
  have k1 := dec_size15 (v / 16777216) (by omega)
  have k2 := dec_size15 (v / 65536 % 256) (by omega)
  have k3 := dec_size15 (v / 256 % 256) (by omega)
  have k4 := dec_size15 (v % 256) (by omega)
  rw [bs_size] at k1 k2 k3 k4
  rw [bs_size]
  unfold fmtI
  simp only [joinL, List.length_append, List.length_cons]
  omega
theorem wf_u32 {v : Int} (h : (Lit.int .u32 v).wf = true) : 0 ≤ v ∧ v < 4294967296 := by
  have h1 : IntKind.u32.min = 0 := rfl
  have h2 : IntKind.u32.max = 4294967295 := rfl
  simp [Lit.wf] at h
  rw [h1, h2] at h
  exact ⟨by omega, by omega⟩

set_option maxHeartbeats 4000000 in
theorem walkIpMat (hP : IpPar 8) (hQ : IpPn 10) (hN : IpNum 12) (hF : IpFmt 14)
    (s : ByteArray) (v : Int) (_ : s.size ≤ maxLen) (hv : (Lit.int .u32 v).wf = true) (w : World) (hpw : Pow w) :
    Calls Tryd.prog 3 #[.string s, .int .u32 v] w (Yes w) := by
  obtain ⟨hv0, hv1⟩ := wf_u32 hv
  by_cases hlen : (600 : Int) < (s.size : Int)
  · have hd : decide ((600 : Int) < (s.size : Int)) = true := decide_eq_true hlen
    go_enter Tryd.func3, Tryd.ntmps3
    go_wp2_with fail
    refine (awake10_any hP hQ hN hF _ hpw).mono ?_
    rintro r w2 ⟨rfl, hb2⟩
    go_wp2
    go_ret
    exact ⟨rfl, hb2⟩
  · have hd : decide ((600 : Int) < (s.size : Int)) = false := decide_eq_false hlen
    have hs : s.size ≤ 1000000000 := by omega
    have c1 := fun W h => hP s W hs h
    have c2 := fun W => refParse_any s W hs
    have c3 := fun W => hQ s W hs
    have c4 := fun W => refParseNumbers_any s W hs
    have c5 := fun W => hN s W hs
    have c6 := fun W => refNumeric_any s W hs
    have c7 := fun W h => hF v hv0 hv1 W h
    have c8 := fun W => refFormat_any v hv0 hv1 W
    have c9 := awake10_any hP hQ hN hF
    generalize aV (parseL (ls s)) = x1 at *
    generalize aK (parseL (ls s)) = x2 at *
    generalize aV (pnL (ls s)) = x3 at *
    generalize aK (pnL (ls s)) = x4 at *
    generalize numericL (ls s) = x5 at *
    generalize bs (fmtI v.toNat) = X at *
    have e1 : (x1 == x1) = true := by simp
    have e2 : (x2 == x2) = true := by simp
    have e3 : (x3 == x3) = true := by simp
    have e4 : (x4 == x4) = true := by simp
    have e5 : (x5 == x5) = true := by simp
    have e6 : (X.toList == X.toList) = true := by simp
    clear hlen hP hQ hN hF hv
    go_enter Tryd.func3, Tryd.ntmps3
    go_wp2_with fail
    refine (c1 _ hpw).mono ?_
    rintro r w1 ⟨rfl, hb1⟩
    go_wp2_with fail
    refine (c2 _).mono ?_
    rintro r w2 ⟨rfl, hb2⟩
    replace hb2 := hb1.trans (hb2.mono hb1.size)
    go_wp2_with fail
    refine (c3 _).mono ?_
    rintro r w3 ⟨rfl, hb3⟩
    replace hb3 := hb2.trans (hb3.mono hb2.size)
    go_wp2_with fail
    refine (c4 _).mono ?_
    rintro r w4 ⟨rfl, hb4⟩
    replace hb4 := hb3.trans (hb4.mono hb3.size)
    go_wp2_with fail
    refine (c5 _).mono ?_
    rintro r w5 ⟨rfl, hb5⟩
    replace hb5 := hb4.trans (hb5.mono hb4.size)
    go_wp2_with fail
    refine (c6 _).mono ?_
    rintro r w6 ⟨rfl, hb6⟩
    replace hb6 := hb5.trans (hb6.mono hb5.size)
    go_wp2_with fail
    refine (c7 _ (pow_below hpw hb6)).mono ?_
    rintro r w7 ⟨rfl, hb7⟩
    replace hb7 := hb6.trans (hb7.mono hb6.size)
    go_wp2_with fail
    refine (c8 _).mono ?_
    rintro r w8 ⟨rfl, hb8⟩
    replace hb8 := hb7.trans (hb8.mono hb7.size)
    go_wp2_with fail
    refine (c9 _ (pow_below hpw hb8)).mono ?_
    rintro r w9 ⟨rfl, hb9⟩
    replace hb9 := hb8.trans (hb9.mono hb8.size)
    go_wp2
    go_ret
    exact ⟨rfl, hb9⟩

set_option maxHeartbeats 4000000 in
theorem walkIpRT (hP : IpPar 8) (hQ : IpPn 10) (hN : IpNum 12) (hF : IpFmt 14)
    (v : Int) (s : ByteArray) (hv : (Lit.int .u32 v).wf = true) (_ : s.size ≤ maxLen) (w : World) (hpw : Pow w) :
    Calls Tryd.prog 4 #[.int .u32 v, .string s] w (Yes w) := by
  obtain ⟨hv0, hv1⟩ := wf_u32 hv
  by_cases hlen : (600 : Int) < (s.size : Int)
  · have hd : decide ((600 : Int) < (s.size : Int)) = true := decide_eq_true hlen
    go_enter Tryd.func4, Tryd.ntmps4
    go_wp2_with fail
    refine (awake10_any hP hQ hN hF _ hpw).mono ?_
    rintro r w2 ⟨rfl, hb2⟩
    go_wp2
    go_ret
    exact ⟨rfl, hb2⟩
  · have hd : decide ((600 : Int) < (s.size : Int)) = false := decide_eq_false hlen
    have hs : s.size ≤ 1000000000 := by omega
    have hsz := fmtI_size v.toNat (by omega)
    have c1 := fun W h => hF v hv0 hv1 W h
    have c2 := fun W h => hP (bs (fmtI v.toNat)) W (by omega) h
    have c3 := fun W => hQ (bs (fmtI v.toNat)) W (by omega)
    have c4 := fun W h => hP s W hs h
    have c7 := fun W => hN (bs (fmtI v.toNat)) W (by omega)
    have c8 := fun W => hN (bs (fmtI v.toNat) ++ ⟨#[46]⟩) W (by rw [ByteArray.size_append]; have : (⟨#[46]⟩ : ByteArray).size = 1 := rfl; omega)
    have c9 := awake10_any hP hQ hN hF
    have eN : ls (bs (fmtI v.toNat) ++ ⟨#[46]⟩) = fmtI v.toNat ++ [46] := by rw [ls_append, ls_bs]; rfl
    have eV : aV (some v.toNat) = v := by unfold aV; rw [Option.getD_some]; omega
    have eK : aK (some v.toNat) = true := rfl
    rw [ls_bs, parse_fmtI _ (by omega), eV, eK] at c2
    rw [ls_bs, pn_fmtI _ (by omega), eV, eK] at c3
    rw [ls_bs, numeric_fmtI] at c7
    rw [eN, numeric_fmtI_dot] at c8
    have e1 : (v == v) = true := by simp
    cases hp : parseL (ls s) with
    | none =>
      rw [hp, show aK (none : Option Nat) = false from rfl] at c4
      generalize aV (none : Option Nat) = y at *
      generalize bs (fmtI v.toNat) = X at *
      have hadd : ¬ (9223372036854775807 < X.size + (⟨#[46]⟩ : ByteArray).size) := by have : (⟨#[46]⟩ : ByteArray).size = 1 := rfl; omega
      clear hlen hP hQ hN hF hv eN eV eK hp
      go_enter Tryd.func4, Tryd.ntmps4
      go_wp2_with fail
      refine (c1 _ hpw).mono ?_
      rintro r w1 ⟨rfl, hb1⟩
      go_wp2_with fail
      refine (c2 _ (pow_below hpw hb1)).mono ?_
      rintro r w2 ⟨rfl, hb2⟩
      replace hb2 := hb1.trans (hb2.mono hb1.size)
      go_wp2_with fail
      refine (c3 _).mono ?_
      rintro r w3 ⟨rfl, hb3⟩
      replace hb3 := hb2.trans (hb3.mono hb2.size)
      go_wp2_with fail
      refine (c4 _ (pow_below hpw hb3)).mono ?_
      rintro r w4 ⟨rfl, hb4⟩
      replace hb4 := hb3.trans (hb4.mono hb3.size)
      go_wp2_with fail
      refine (c7 _).mono ?_
      rintro r w7 ⟨rfl, hb7⟩
      replace hb7 := hb4.trans (hb7.mono hb4.size)
      go_wp2_with fail
      refine (c8 _).mono ?_
      rintro r w8 ⟨rfl, hb8⟩
      replace hb8 := hb7.trans (hb8.mono hb7.size)
      go_wp2_with fail
      refine (c9 _ (pow_below hpw hb8)).mono ?_
      rintro r w9 ⟨rfl, hb9⟩
      replace hb9 := hb8.trans (hb9.mono hb8.size)
      go_wp2
      go_ret
      exact ⟨rfl, hb9⟩
    | some u =>
      obtain ⟨hu, hlu⟩ := parseL_some hp
      have hsu : bs (fmtI u) = s := by rw [← hlu, bs_ls]
      have c5 := fun W h => hF (u : Int) (by omega) (by omega) W h
      have c6 := fun W => hN s W hs
      rw [show ((u : Int)).toNat = u by omega, hsu] at c5
      rw [hlu, numeric_fmtI] at c6
      rw [hp, show aV (some u) = (u : Int) from rfl, show aK (some u) = true from rfl] at c4
      generalize (u : Int) = y at *
      have e2 : (s.toList == s.toList) = true := by simp
      have e3 : (s.toList != s.toList) = false := by rw [bne, e2]; rfl
      generalize bs (fmtI v.toNat) = X at *
      have hadd : ¬ (9223372036854775807 < X.size + (⟨#[46]⟩ : ByteArray).size) := by have : (⟨#[46]⟩ : ByteArray).size = 1 := rfl; omega
      clear hlen hP hQ hN hF hv eN eV eK hp hlu hsu
      go_enter Tryd.func4, Tryd.ntmps4
      go_wp2_with fail
      refine (c1 _ hpw).mono ?_
      rintro r w1 ⟨rfl, hb1⟩
      go_wp2_with fail
      refine (c2 _ (pow_below hpw hb1)).mono ?_
      rintro r w2 ⟨rfl, hb2⟩
      replace hb2 := hb1.trans (hb2.mono hb1.size)
      go_wp2_with fail
      refine (c3 _).mono ?_
      rintro r w3 ⟨rfl, hb3⟩
      replace hb3 := hb2.trans (hb3.mono hb2.size)
      go_wp2_with fail
      refine (c4 _ (pow_below hpw hb3)).mono ?_
      rintro r w4 ⟨rfl, hb4⟩
      replace hb4 := hb3.trans (hb4.mono hb3.size)
      go_wp2_with fail
      refine (c5 _ (pow_below hpw hb4)).mono ?_
      rintro r w5 ⟨rfl, hb5⟩
      replace hb5 := hb4.trans (hb5.mono hb4.size)
      go_wp2_with fail
      refine (c6 _).mono ?_
      rintro r w6 ⟨rfl, hb6⟩
      replace hb6 := hb5.trans (hb6.mono hb5.size)
      go_wp2_with fail
      refine (c7 _).mono ?_
      rintro r w7 ⟨rfl, hb7⟩
      replace hb7 := hb6.trans (hb7.mono hb6.size)
      go_wp2_with fail
      refine (c8 _).mono ?_
      rintro r w8 ⟨rfl, hb8⟩
      replace hb8 := hb7.trans (hb8.mono hb7.size)
      go_wp2_with fail
      refine (c9 _ (pow_below hpw hb8)).mono ?_
      rintro r w9 ⟨rfl, hb9⟩
      replace hb9 := hb8.trans (hb9.mono hb8.size)
      go_wp2
      go_ret
      exact ⟨rfl, hb9⟩

end Go.Proofs.YtmgmepikgccmcaaDoor
