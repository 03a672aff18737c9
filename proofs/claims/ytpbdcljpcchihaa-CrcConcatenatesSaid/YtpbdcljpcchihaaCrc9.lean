/-
  The walk of CrcConcatenates: it returns true.
-/
import Derived.Test.YtpbdcljpcchihaaCrc8
namespace Go.Proofs.Ytpbdcljpcchihaa
open Go.RowKit

theorem map_append_bv (l m : List UInt8) : l.map bv ++ m.map bv = (l ++ m).map bv := by rw [List.map_append]

set_option maxHeartbeats 4000000 in
theorem crcConc_walk (A1 : Option Addr) (n1 c1 : Nat) (z1 : List Int) (A2 : Option Addr) (n2 c2 : Nat) (z2 : List Int) (A3 : Option Addr) (n3 c3 : Nat) (z3 : List Int) (w : World) (h1 : In8 w A1 n1 c1 z1) (h2 : In8 w A2 n2 c2 z2) (h3 : In8 w A3 n3 c3 z3) :
    Calls Try.prog 5 #[.slice A1 n1 c1, .slice A2 n2 c2, .slice A3 n3 c3] w (Yes w) := by
  obtain ⟨l1, g1⟩ := arg8_of h1
  obtain ⟨l2, g2⟩ := arg8_of h2
  obtain ⟨l3, g3⟩ := arg8_of h3
  have H1 := Lib.hid g1
  have H2 := Lib.hid g2
  have H3 := Lib.hid g3
  clear g1 g2 g3 h1 h2 h3
  by_cases b1 : n1 ≤ 2000
  · by_cases b2 : n2 ≤ 2000
    · by_cases b3 : n3 ≤ 2000
      · obtain ⟨i5, hi5, hz0, hz1, hz2⟩ := info_parts infoU8
        have E1 := Lib.hid (crcUpd_append 0#32 l1 l2)
        have E2 := Lib.hid (crcComb_append l1 l2)
        have E3 := Lib.hid (crcComb_append (l1 ++ l2) l3)
        have E4 := Lib.hid (crcComb_assoc (crcSum l1) (crcSum l2) (crcSum l3) n2 n3)
        have E5 := Lib.hid (crcUpd_append 0#32 (l1 ++ l2) l3)
        have L2 := Lib.hid H2.out.len
        have L3 := Lib.hid H3.out.len
        obtain ⟨sa, hsa⟩ : ∃ s, s = crcSum l1 := ⟨_, rfl⟩
        obtain ⟨sb, hsb⟩ : ∃ s, s = crcSum l2 := ⟨_, rfl⟩
        obtain ⟨sc, hsc⟩ : ∃ s, s = crcSum l3 := ⟨_, rfl⟩
        obtain ⟨sab, hsab⟩ : ∃ s, s = crcSum (l1 ++ l2) := ⟨_, rfl⟩
        obtain ⟨sabc, hsabc⟩ : ∃ s, s = crcSum (l1 ++ l2 ++ l3) := ⟨_, rfl⟩
        have C1 := Lib.hid (show crcComb sa sb n2 = sab by rw [hsa, hsb, hsab, ← E2.out, L2.out])
        have C2 := Lib.hid (show crcComb sab sc n3 = sabc by rw [hsab, hsc, hsabc, ← E3.out, L3.out])
        have C3 := Lib.hid (show crcComb sa (crcComb sb sc n3) (n2 + n3) = sabc by rw [← C2.out, ← C1.out, hsa, hsb, hsc]; exact E4.out.symm)
        have C4 := Lib.hid (show crcUpd sa l2 = sab by rw [hsa, hsab]; exact E1.out)
        have C5 := Lib.hid (show crcUpd sab l3 = sabc by rw [hsab, hsabc]; exact E5.out)
        have D1 := Lib.hid hsa
        have D2 := Lib.hid hsb
        have D3 := Lib.hid hsc
        have D4 := Lib.hid hsab
        have D5 := Lib.hid hsabc
        clear hsa hsb hsc hsab hsabc
        go_enter Try.func5, Try.ntmps5
        go_wp2_with fail
        refine (ownBytes_any A1 n1 c1 _ l1 _ H1.out.1 H1.out.2.2.2 (by omega) (Nat.le_refl _)).mono ?_
        rintro e w1 ⟨⟨v, rfl, hown⟩, hb⟩
        have q2 := H2.out.1.below hb
        go_wp2_with (at_builtin; refine wpList_app_has _ rfl _ _ 22 rfl w.heap.size 5 i5 (.int .u8 0) 1 tyBs hi5 hz0 hz1 hz2 rfl _ _ _ (by exact rfl) hown A2 n2 c2 _ (l2.map bv) (by exact rfl) H2.out.2.2.2 q2 (one_bytes l2) (by unfold maxLen; omega) (by omega) hb (Nat.le_refl _) ?_; intro v2 w2 hown2 hb2 _)
        clear hown hb q2
        rw [map_append_bv] at hown2
        obtain ⟨B1, d1, rfl, k1, e1⟩ := Has.of_own hown2
        have m1 := of_own_none hown2
        clear hown2 e1
        refine (ownBytes_any B1 (n1 + n2) d1 _ (l1 ++ l2) _ k1 m1 (by omega) (Nat.le_refl _)).mono ?_
        rintro e w3 ⟨⟨v3, rfl, hown3⟩, hb3⟩
        have hb := hb2.trans (hb3.mono hb2.size)
        have q3 := H3.out.1.below hb
        have hbs := hb2.size
        go_wp2_with (at_builtin; refine wpList_app_has _ rfl _ _ 22 rfl w2.heap.size 5 i5 (.int .u8 0) 1 tyBs hi5 hz0 hz1 hz2 rfl _ _ _ (by exact rfl) hown3 A3 n3 c3 _ (l3.map bv) (by exact rfl) H3.out.2.2.2 q3 (one_bytes l3) (by unfold maxLen; omega) (by omega) hb3 (Nat.le_refl _) ?_; intro v4 w4 hown4 hb4 _)
        clear hown3 q3
        rw [map_append_bv] at hown4
        obtain ⟨B2, d2, rfl, k2, e2⟩ := Has.of_own hown4
        replace k1 := k1.below hb4
        have hb' := hb2.trans (hb4.mono hb2.size)
        clear hown4 hb hb3 m1 e2
        have p1 := H1.out.1.below hb'
        have p2 := H2.out.1.below hb'
        have p3 := H3.out.1.below hb'
        replace hb := hb'
        have h24 := hb4.size
        clear hb' hb2 hb4 hbs
        go_wp2_with fail
        refine (sum_any A1 n1 c1 _ l1 w4 p1 (by omega)).mono ?_
        rintro e w' ⟨rfl, rfl⟩
        rw [← D1.out]
        go_wp2_with fail
        refine (sum_any A2 n2 c2 _ l2 w4 p2 (by omega)).mono ?_
        rintro e w' ⟨rfl, rfl⟩
        rw [← D2.out]
        go_wp2_with fail
        refine (sum_any A3 n3 c3 _ l3 w4 p3 (by omega)).mono ?_
        rintro e w' ⟨rfl, rfl⟩
        rw [← D3.out]
        clear p1
        go_wp2_with fail
        refine (combine_any sa sb n2 (by omega) (by omega) _).mono ?_
        rintro e w5 ⟨rfl, hb5⟩
        rw [Int.toNat_natCast, C1.out]
        go_wp2_with fail
        refine (combine_any sab sc n3 (by omega) (by omega) _).mono ?_
        rintro e w6 ⟨rfl, hb6⟩
        rw [Int.toNat_natCast, C2.out]
        replace hb6 := hb5.trans (hb6.mono hb5.size)
        clear hb5
        go_wp2_with fail
        refine (combine_any sb sc n3 (by omega) (by omega) _).mono ?_
        rintro e w7 ⟨rfl, hb7⟩
        replace hb7 := hb6.trans (hb7.mono hb6.size)
        clear hb6
        obtain ⟨sbc, hsbc⟩ : ∃ s, s = crcComb sb sc (n3 : Int).toNat := ⟨_, rfl⟩
        rw [← hsbc]
        have D6 := Lib.hid hsbc
        clear hsbc
        go_wp2_with fail
        refine (combine_any sa sbc (n2 + n3) (by omega) (by omega) _).mono ?_
        rintro e w8 ⟨rfl, hb8⟩
        replace hb8 := hb7.trans (hb8.mono hb7.size)
        clear hb7
        rw [show crcComb sa sbc ((n2 : Int) + (n3 : Int)).toNat = sabc by rw [D6.out, Int.toNat_natCast, show ((n2 : Int) + (n3 : Int)).toNat = n2 + n3 by omega]; exact C3.out]
        replace p2 := p2.below' hb8 hb.size
        replace p3 := p3.below' hb8 hb.size
        replace k1 := k1.below' hb8 h24
        replace k2 := k2.below hb8
        replace hb := hb.trans (hb8.mono hb.size)
        have h48 := hb8.size
        clear hb8
        go_wp2_with fail
        refine (update_any sa A2 n2 c2 _ l2 _ p2 (by omega)).mono ?_
        rintro e w' ⟨rfl, rfl⟩
        rw [C4.out]
        go_wp2_with fail
        refine (sum_any B1 (n1 + n2) d1 _ (l1 ++ l2) _ k1 (by omega)).mono ?_
        rintro e w' ⟨rfl, rfl⟩
        rw [← D4.out]
        go_wp2_with fail
        refine (combine_any sa sb n2 (by omega) (by omega) _).mono ?_
        rintro e w9 ⟨rfl, hb9⟩
        rw [Int.toNat_natCast, C1.out]
        replace k1 := k1.below' hb9 (Nat.le_trans h24 h48)
        replace k2 := k2.below' hb9 h48
        replace p2 := p2.below' hb9 hb.size
        replace p3 := p3.below' hb9 hb.size
        replace hb := hb.trans (hb9.mono hb.size)
        clear hb9 h24 h48
        go_wp2_with fail
        refine (sum_any B1 (n1 + n2) d1 _ (l1 ++ l2) _ k1 (by omega)).mono ?_
        rintro e w' ⟨rfl, rfl⟩
        rw [← D4.out]
        go_wp2_with fail
        refine (sum_any B2 (n1 + n2 + n3) d2 _ (l1 ++ l2 ++ l3) _ k2 (by omega)).mono ?_
        rintro e w' ⟨rfl, rfl⟩
        rw [← D5.out]
        go_wp2_with fail
        refine (update_any sa A2 n2 c2 _ l2 _ p2 (by omega)).mono ?_
        rintro e w' ⟨rfl, rfl⟩
        rw [C4.out]
        go_wp2_with fail
        refine (update_any sab A3 n3 c3 _ l3 _ p3 (by omega)).mono ?_
        rintro e w' ⟨rfl, rfl⟩
        rw [C5.out]
        go_wp2_with fail
        refine (awake2_any _).mono ?_
        rintro e w10 ⟨rfl, hb10⟩
        go_wp2
        go_ret
        exact ⟨rfl, hb.trans (hb10.mono hb.size)⟩
      · go_enter Try.func5, Try.ntmps5
        go_wp2_with fail
        refine (awake2_any _).mono ?_
        rintro e w2 ⟨rfl, hb2⟩
        go_wp2
        go_ret
        exact ⟨rfl, hb2⟩
    · go_enter Try.func5, Try.ntmps5
      go_wp2_with fail
      refine (awake2_any _).mono ?_
      rintro e w2 ⟨rfl, hb2⟩
      go_wp2
      go_ret
      exact ⟨rfl, hb2⟩
  · go_enter Try.func5, Try.ntmps5
    go_wp2_with fail
    refine (awake2_any _).mono ?_
    rintro e w2 ⟨rfl, hb2⟩
    go_wp2
    go_ret
    exact ⟨rfl, hb2⟩

end Go.Proofs.Ytpbdcljpcchihaa
