/-
  The walk of WireRoundTrip: it returns true.
-/
import Derived.Test.YtealjcpgcghfpaaWir7
namespace Go.Proofs.Ytealjcpgcghfpaa
open Go.RowKit

theorem d_enc {x : Int} (h0 : 0 ≤ x) (h1 : x < 18446744073709551616) (rest : List UInt8) : dv (enc x.toNat ++ rest) = x ∧ dn (enc x.toNat ++ rest) = ((enc x.toNat).length : Int) ∧ de (enc x.toNat ++ rest) = 0 := by
  obtain ⟨e1, e2, e3⟩ := d_of (dec_enc (v := x.toNat) (by omega) rest)
  exact ⟨by rw [e1]; omega, e2, e3⟩
theorem t_enc (s : ByteArray) (h : s.size ≤ 4096) (rest : List UInt8) : dt (encT (ls s) ++ rest) = s ∧ dtn (encT (ls s) ++ rest) = ((encT (ls s)).length : Int) ∧ dte (encT (ls s) ++ rest) = 0 := by
  obtain ⟨e1, e2, e3⟩ := t_of (decT_encT (ls s) rest (by rw [ls_length]; exact h))
  exact ⟨by rw [e1, bs_ls], e2, e3⟩
set_option maxHeartbeats 4000000 in
theorem wireRound_walk (v : Int) (s : ByteArray) (A : Option Addr) (len cap : Nat) (zs : List Int) (w : World) (hv : (Lit.int .u64 v).wf = true) (hs : s.size ≤ maxLen) (h : In8 w A len cap zs) :
    Calls Try.prog 5 #[.int .u64 v, .string s, .slice A len cap] w (Yes w) := by
  obtain ⟨l, hl⟩ := arg8_of h
  have HA := Lib.hid hl
  have hvb := bounds_u64 hv
  have hv0 : 0 ≤ v := by omega
  have hv1 : v < 18446744073709551616 := by omega
  clear hl h hv hs hvb
  by_cases hsl : s.size ≤ 4096
  · have hsl' : ¬ 4096 < (s.size : Int) := by omega
    by_cases hlen : len ≤ 1000
    · have hlen' : ¬ 1000 < (len : Int) := by omega
      obtain ⟨i5, hi5, hz0, hz1, hz2⟩ := info_parts infoU8
      have D1 := Lib.hid (d_enc hv0 hv1 l)
      have D2 := Lib.hid (t_enc s hsl l)
      obtain ⟨x, hx⟩ : ∃ x, v % 4294967296 = x := ⟨_, rfl⟩
      have hx0 : 0 ≤ x := by omega
      have hx1 : x < 4294967296 := by omega
      have D3 := Lib.hid (x_enc hx0 hx1 l)
      have hEl := enc_len v.toNat
      have hTl : (encT (ls s)).length ≤ 4106 := by
        have := enc_len s.size
        unfold encT
        rw [List.length_append, ls_length]
        omega
      obtain ⟨E, hE⟩ : ∃ E, E = enc v.toNat := ⟨_, rfl⟩
      obtain ⟨T, hT⟩ : ∃ T, T = encT (ls s) := ⟨_, rfl⟩
      obtain ⟨X, hX⟩ : ∃ X, X = fixE x.toNat := ⟨_, rfl⟩
      rw [← hE] at hEl D1
      rw [← hT] at hTl D2
      rw [← hX] at D3
      have HE := Lib.hid hE
      have HT := Lib.hid hT
      have HX := Lib.hid hX
      clear hE hT hX
      go_enter Try.func5, Try.ntmps5
      go_wp2_with fail
      refine (appUint_any none 0 0 0 [] v w (Has.nil _ _ _) (fun _ => rfl) (by omega) (Nat.zero_le _) hv0 hv1).mono ?_
      rintro e w1 ⟨⟨v1, rfl, hown⟩, hb1⟩
      rw [← HE.out, Nat.zero_add, List.nil_append] at hown
      obtain ⟨A1, c1, rfl, h1, _⟩ := Has.of_own hown
      have m1 := of_own_none hown
      clear hown
      go_wp2_with fail
      refine (appText_any none 0 0 0 [] s w1 (Has.nil _ _ _) (fun _ => rfl) (by omega) (Nat.zero_le _) (by omega)).mono ?_
      rintro e w2 ⟨⟨v2, rfl, hown⟩, hb2⟩
      rw [← HT.out, Nat.zero_add, List.nil_append] at hown
      obtain ⟨A2, c2, rfl, h2, _⟩ := Has.of_own hown
      have m2 := of_own_none hown
      clear hown
      replace h1 := (h1.below hb2).more hb2.size
      replace hb1 := hb1.trans (hb2.mono hb1.size)
      clear hb2
      go_wp2_with fail
      refine (appFixed_any none 0 0 0 [] x w2 (Has.nil _ _ _) (fun _ => rfl) (by omega) (Nat.zero_le _) hx0 hx1).mono ?_
      rintro e w3 ⟨⟨v3, rfl, hown⟩, hb3⟩
      rw [← HX.out, Nat.zero_add, List.nil_append] at hown
      obtain ⟨A3, c3, rfl, h3, _⟩ := Has.of_own hown
      have m3 := of_own_none hown
      clear hown
      replace h1 := (h1.below hb3).more hb3.size
      replace h2 := (h2.below hb3).more hb3.size
      replace hb1 := hb1.trans (hb3.mono hb1.size)
      clear hb3
      have hr := (HA.out.1.below hb1).more hb1.size
      -- the number
      go_wp2_with fail
      refine (ownBytes_any A1 E.length c1 _ E w3 h1 m1 (by omega) (Nat.le_refl _)).mono ?_
      rintro e w4 ⟨⟨v4, rfl, hown⟩, hb4⟩
      have hr4 := hr.below hb4
      go_wp2_with (at_builtin; refine wpList_app_has _ rfl _ _ 22 rfl w3.heap.size 5 i5 (.int .u8 0) 1 tyBs hi5 hz0 hz1 hz2 rfl _ _ _ (by exact rfl) hown A len cap _ (l.map bv) (by exact rfl) HA.out.2.2.2 hr4 (one_bytes l) (by unfold maxLen; omega) (by omega) hb4 (Nat.le_refl _) ?_; intro v5 w5 hown5 hb5 _)
      clear hown hr4 hb4
      rw [map_append_bv] at hown5
      obtain ⟨A4, c4, rfl, h4, hc4⟩ := Has.of_own hown5
      clear hown5 h1 m1
      replace h2 := (h2.below hb5).more hb5.size
      replace h3 := (h3.below hb5).more hb5.size
      replace hr := (hr.below hb5).more hb5.size
      replace hb1 := hb1.trans (hb5.mono hb1.size)
      clear hb5
      refine (uint_any A4 _ c4 _ (E ++ l) w5 h4 hc4 (by omega)).mono ?_
      rintro e w' ⟨rfl, rfl⟩
      rw [D1.out.1, D1.out.2.1, D1.out.2.2]
      clear h4 hc4
      -- the text
      go_wp2_with fail
      refine (ownBytes_any A2 T.length c2 _ T w5 h2 m2 (by omega) (Nat.le_refl _)).mono ?_
      rintro e w6 ⟨⟨v6, rfl, hown⟩, hb6⟩
      have hr6 := hr.below hb6
      go_wp2_with (at_builtin; refine wpList_app_has _ rfl _ _ 22 rfl w5.heap.size 5 i5 (.int .u8 0) 1 tyBs hi5 hz0 hz1 hz2 rfl _ _ _ (by exact rfl) hown A len cap _ (l.map bv) (by exact rfl) HA.out.2.2.2 hr6 (one_bytes l) (by unfold maxLen; omega) (by omega) hb6 (Nat.le_refl _) ?_; intro v7 w7 hown7 hb7 _)
      clear hown hr6 hb6
      rw [map_append_bv] at hown7
      have q7 := own_cap hown7
      obtain ⟨A5, c5, rfl, h5, hc5⟩ := Has.of_own hown7
      have hm5 := q7 _ _ _ rfl
      clear hown7 h2 m2 q7
      replace h3 := (h3.below hb7).more hb7.size
      replace hr := (hr.below hb7).more hb7.size
      replace hb1 := hb1.trans (hb7.mono hb1.size)
      clear hb7
      refine (text_any A5 _ c5 _ (T ++ l) w7 h5 hc5 hm5 (by omega)).mono ?_
      rintro e w' ⟨rfl, rfl⟩
      rw [D2.out.1, D2.out.2.1, D2.out.2.2]
      clear h5 hc5 hm5
      -- the fixed number
      go_wp2_with fail
      refine (ownBytes_any A3 4 c3 _ X w7 h3 m3 (by omega) (Nat.le_refl _)).mono ?_
      rintro e w8 ⟨⟨v8, rfl, hown⟩, hb8⟩
      have hr8 := hr.below hb8
      go_wp2_with (at_builtin; refine wpList_app_has _ rfl _ _ 22 rfl w7.heap.size 5 i5 (.int .u8 0) 1 tyBs hi5 hz0 hz1 hz2 rfl _ _ _ (by exact rfl) hown A len cap _ (l.map bv) (by exact rfl) HA.out.2.2.2 hr8 (one_bytes l) (by unfold maxLen; omega) (by omega) hb8 (Nat.le_refl _) ?_; intro v9 w9 hown9 hb9 _)
      clear hown hr8 hb8 hr
      rw [map_append_bv] at hown9
      obtain ⟨A6, c6, rfl, h6, _⟩ := Has.of_own hown9
      clear hown9 h3 m3
      replace hb1 := hb1.trans (hb9.mono hb1.size)
      clear hb9
      refine (fixed_any A6 _ c6 _ (X ++ l) w9 h6 (by omega)).mono ?_
      rintro e w10 ⟨rfl, hb10⟩
      rw [D3.out.1, D3.out.2]
      replace hb1 := hb1.trans (hb10.mono hb1.size)
      clear h6 hb10
      go_wp2_with fail
      refine (awake3_any _).mono ?_
      rintro e w11 ⟨rfl, hb11⟩
      go_wp2
      go_ret
      exact ⟨rfl, hb1.trans (hb11.mono hb1.size)⟩
    · have hlen' : 1000 < (len : Int) := by omega
      go_enter Try.func5, Try.ntmps5
      go_wp2_with fail
      refine (awake3_any _).mono ?_
      rintro e w2 ⟨rfl, hb2⟩
      go_wp2
      go_ret
      exact ⟨rfl, hb2⟩
  · have hsl' : 4096 < (s.size : Int) := by omega
    go_enter Try.func5, Try.ntmps5
    go_wp2_with fail
    refine (awake3_any _).mono ?_
    rintro e w2 ⟨rfl, hb2⟩
    go_wp2
    go_ret
    exact ⟨rfl, hb2⟩

end Go.Proofs.Ytealjcpgcghfpaa
