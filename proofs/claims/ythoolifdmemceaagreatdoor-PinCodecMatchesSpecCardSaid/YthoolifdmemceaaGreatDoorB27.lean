/-
The reference's Decode of layer 22.
The reference's Uint and Text of layer 3.
The reference's Valid and Encode of layer 22.
-/
import Derived.Test.YthoolifdmemceaaGreatDoorB26
import Derived.Test.YthoolifdmemceaaGreatDoorB25
namespace Go.Proofs.YthoolifdmemceaaGreatDoor
section
open Go.RowKit Go.Shelf

set_option maxRecDepth 20000 in
set_option maxHeartbeats 4000000 in
theorem refPnDec_any (hV : HoVn 22) : PnDec 8 := by
  intro A len cap B l w hA hlc hcap hlen hB
  have HL : Hid (l.length = len) := by show _ = _; simpa using hA.1
  have ht0 : 0 ≤ dte l := by unfold dte; omega
  go_enter Tryz.func8, Tryz.ntmps8
  go_wp2_with (first | (refine wpList_alloc_arr _ rfl 2 rfl _ rfl _ zeroPn ?_; intro W1 g1 hg1 hl1 hR1 hG1; have hR1 : RowPn W1 g1 ⟨#[]⟩ false 0 := hR1))
  have hb1 := below_row0 (Below.refl w.heap.size w) hG1 (Nat.le_refl _)
  have HB1 := Lib.hid hb1
  have HA := Lib.hid (hA.below' hb1 hB)
  have hB1 : B ≤ W1.heap.size := Nat.le_trans hB hb1.size
  have c1 := refDecText_any A len cap B l W1 HA.out hlc hcap hlen
  clear hA hG1 hb1
  by_cases h1 : dte l = 0
  · obtain ⟨q1, q2, q3, q4⟩ := t_zero h1
    obtain ⟨K, hK⟩ : ∃ K : Nat, dtn l = (K : Int) := ⟨(dtn l).toNat, by omega⟩
    rw [HL.out] at q2
    rw [hK] at q1 q2
    clear q3
    rw [h1, hK] at c1
    have hKl : K ≤ len := by omega
    have hKc : K ≤ cap := by omega
    have cv := fun W => hV (dt l) W (by omega)
    have H1 := Lib.hid h1
    have HK := Lib.hid hK
    clear h1 hK ht0
    by_cases hcs : cap = K
    · have hd : l.drop K = [] := List.drop_of_length_le (by rw [HL.out]; omega)
      have hR := pdr_2 H1.out HK.out (by rw [hd, de_nil]; decide)
      rw [hd, de_nil] at hR
      have HR := Lib.hid hR
      have c2 := fun (ad : Addr) (W : World) => refDecUint_any (some ad) 0 0 W.heap.size [] W (Has.nil _ _ _) (by omega)
      rw [de_nil] at c2
      obtain rfl : len = K := by omega
      subst hcs
      clear hd hR cv
      obtain ⟨b, off, rfl⟩ : ∃ b off, A = some ⟨b, off, none⟩ := by
        obtain ⟨b, off, e, _⟩ := HA.out.at_ (show 0 < cap by omega)
        exact ⟨b, off, e⟩
      refine c1.mono ?_
      rintro e w' ⟨rfl, rfl⟩
      go_wp2_with fail
      refine (c2 _ _).mono ?_
      rintro e w' ⟨rfl, rfl⟩
      go_wp2_with (first | (refine wpList_store_pn rfl rfl _ _ rfl g1 (by exact rfl) ⟨#[]⟩ false 0 (by exact rfl) _ _ _ hR1 ?_; intro W9 hR9 hG9))
      have hb9 := below_row HB1.out hG9 (Nat.le_refl _) hg1
      refine ret_pn3 2 3 4 rfl g1 rfl _ _ _ hR9 _ _ rfl rfl rfl ⟨pd_end HR.out, hb9⟩

    · obtain ⟨b, off, rfl⟩ : ∃ b off, A = some ⟨b, off, none⟩ := by
        obtain ⟨b, off, e, _⟩ := HA.out.at_ (show 0 < len by omega)
        exact ⟨b, off, e⟩
      have hp := has_from HA.out K hKl
      have c2 := refDecUint_any _ (len - K) (cap - K) B (l.drop K) W1 hp (by omega)
      have hcs' : ¬ cap - K = 0 := by omega
      have hd1 : (l.drop K).length = len - K := by rw [List.length_drop, HL.out]
      have P2 := Lib.hid (pdr_2 H1.out HK.out)
      have P3 := Lib.hid (pdr_3 H1.out HK.out)
      have f0 := de_ge (l.drop K)
      have f1 := dv_ge (l.drop K)
      have f2 := dv_lt (l.drop K)
      have f3 := dn_ge (l.drop K)
      have fz := fun h => @d_zero (l.drop K) h
      rw [hd1] at fz
      clear hp hd1
      by_cases h2 : de (l.drop K) = 0
      · obtain ⟨_, q5, q6, q7, _⟩ := fz h2
        obtain ⟨M, hM⟩ : ∃ M : Nat, dn (l.drop K) = (M : Int) := ⟨(dn (l.drop K)).toNat, by omega⟩
        rw [hM] at q5 q6 q7
        rw [h2, hM] at c2
        by_cases h3 : 1 < dv (l.drop K)
        · have HR := Lib.hid (P3.out h2 h3)
          generalize dv (l.drop K) = z at *
          clear hM h2 fz f0 f3 q5 q6 q7
          refine c1.mono ?_
          rintro e w' ⟨rfl, rfl⟩
          go_wp2_with fail
          refine c2.mono ?_
          rintro e w' ⟨rfl, rfl⟩
          go_wp2_with (first | (refine wpList_store_pn rfl rfl _ _ rfl g1 (by exact rfl) ⟨#[]⟩ false 0 (by exact rfl) _ _ _ hR1 ?_; intro W9 hR9 hG9))
          have hb9 := below_row HB1.out hG9 (Nat.le_refl _) hg1
          refine ret_pn3 2 3 4 rfl g1 rfl _ _ _ hR9 _ _ rfl rfl rfl ⟨pd_end HR.out, hb9⟩

        · obtain ⟨E, hE⟩ : ∃ E, E = K + M := ⟨_, rfl⟩
          have hsum : (K : Int) + (M : Int) = (E : Int) := by omega
          have hEl : E ≤ len := by omega
          have hEc : E ≤ cap := by omega
          have g4 := fun h => pdr_4 H1.out HK.out h2 h3 hM h
          have g5 := fun h4 h5 => pdr_5 H1.out HK.out h2 h3 hM h4 h5
          have g6 := fun h4 h5 h6 => pdr_6 H1.out HK.out h2 h3 hM h4 h5 h6
          have g7 := fun h4 h5 h6 => pdr_7 H1.out HK.out h2 h3 hM h4 h5 h6
          rw [← hE] at g4 g5 g6 g7
          rw [hsum] at g7
          clear hE
          generalize dv (l.drop K) = z at *
          clear hM h2 fz f0 f3 P2 P3
          by_cases hce : cap = E
          · have hd : l.drop E = [] := List.drop_of_length_le (by rw [HL.out]; omega)
            have hR := g4 (by rw [hd, de_nil]; decide)
            rw [hd, de_nil] at hR
            have HR := Lib.hid hR
            have c3 := fun (ad : Addr) (W : World) => refDecUint_any (some ad) 0 0 W.heap.size [] W (Has.nil _ _ _) (by omega)
            rw [de_nil] at c3
            obtain rfl : len = E := by omega
            subst hce
            clear hd hR cv g4 g5 g6 g7
            refine c1.mono ?_
            rintro e w' ⟨rfl, rfl⟩
            go_wp2_with fail
            refine c2.mono ?_
            rintro e w' ⟨rfl, rfl⟩
            go_wp2_with fail
            refine (c3 _ _).mono ?_
            rintro e w' ⟨rfl, rfl⟩
            go_wp2_with (first | (refine wpList_store_pn rfl rfl _ _ rfl g1 (by exact rfl) ⟨#[]⟩ false 0 (by exact rfl) _ _ _ hR1 ?_; intro W9 hR9 hG9))
            have hb9 := below_row HB1.out hG9 (Nat.le_refl _) hg1
            refine ret_pn3 2 3 4 rfl g1 rfl _ _ _ hR9 _ _ rfl rfl rfl ⟨pd_end HR.out, hb9⟩

          · have hp := has_from HA.out E hEl
            have c3 := refDecUint_any _ (len - E) (cap - E) B (l.drop E) W1 hp (by omega)
            have hce' : ¬ cap - E = 0 := by omega
            have k0 := de_ge (l.drop E)
            have k1 := dv_ge (l.drop E)
            have k2 := dv_lt (l.drop E)
            have k3 := dn_ge (l.drop E)
            have kz := fun h => (@d_zero (l.drop E) h).2.2.2.1
            clear hp
            generalize dv (l.drop E) = x at *
            generalize dn (l.drop E) = y at *
            generalize de (l.drop E) = r at *
            by_cases h4 : r = 0
            · have hy := kz h4
              subst h4
              by_cases h5 : 1099511627776 < x
              · have HR := Lib.hid (g5 rfl h5)
                clear g4 g5 g6 g7 cv kz
                refine c1.mono ?_
                rintro e w' ⟨rfl, rfl⟩
                go_wp2_with fail
                refine c2.mono ?_
                rintro e w' ⟨rfl, rfl⟩
                go_wp2_with fail
                refine c3.mono ?_
                rintro e w' ⟨rfl, rfl⟩
                go_wp2_with (first | (refine wpList_store_pn rfl rfl _ _ rfl g1 (by exact rfl) ⟨#[]⟩ false 0 (by exact rfl) _ _ _ hR1 ?_; intro W9 hR9 hG9))
                have hb9 := below_row HB1.out hG9 (Nat.le_refl _) hg1
                refine ret_pn3 2 3 4 rfl g1 rfl _ _ _ hR9 _ _ rfl rfl rfl ⟨pd_end HR.out, hb9⟩

              · have hx : x ≤ 1099511627776 := by omega
                cases hv : vnL (ls (dt l)) with
                | false =>
                  have HR := Lib.hid (g6 rfl h5 hv)
                  rw [hv] at cv
                  clear g4 g5 g6 g7 kz hv
                  refine c1.mono ?_
                  rintro e w' ⟨rfl, rfl⟩
                  go_wp2_with fail
                  refine c2.mono ?_
                  rintro e w' ⟨rfl, rfl⟩
                  go_wp2_with fail
                  refine c3.mono ?_
                  rintro e w' ⟨rfl, rfl⟩
                  go_wp2_with fail
                  refine (cv _).mono ?_
                  rintro e w2 ⟨rfl, hb2⟩
                  have hR1 : RowPn w2 g1 ⟨#[]⟩ false 0 := Row.below hR1 hb2 hl1
                  have hB2 := HB1.out.trans (hb2.mono HB1.out.size)
                  go_wp2_with (first | (refine wpList_store_pn rfl rfl _ _ rfl g1 (by exact rfl) ⟨#[]⟩ false 0 (by exact rfl) _ _ _ hR1 ?_; intro W9 hR9 hG9))
                  have hb9 := below_row hB2 hG9 (Nat.le_refl _) hg1
                  refine ret_pn3 2 3 4 rfl g1 rfl _ _ _ hR9 _ _ rfl rfl rfl ⟨pd_end HR.out, hb9⟩

                | true =>
                  have HR := Lib.hid (g7 rfl h5 hv)
                  rw [hv] at cv
                  clear g4 g5 g6 g7 kz hv
                  refine c1.mono ?_
                  rintro e w' ⟨rfl, rfl⟩
                  go_wp2_with fail
                  refine c2.mono ?_
                  rintro e w' ⟨rfl, rfl⟩
                  go_wp2_with fail
                  refine c3.mono ?_
                  rintro e w' ⟨rfl, rfl⟩
                  go_wp2_with fail
                  refine (cv _).mono ?_
                  rintro e w2 ⟨rfl, hb2⟩
                  have hR1 : RowPn w2 g1 ⟨#[]⟩ false 0 := Row.below hR1 hb2 hl1
                  have hB2 := HB1.out.trans (hb2.mono HB1.out.size)
                  go_wp2_with (first | (refine wpList_store_pn rfl rfl _ _ rfl g1 (by exact rfl) (dt l) (z == 1) x (by exact rfl) _ _ _ hR1 ?_; intro W9 hR9 hG9))
                  have hb9 := below_row hB2 hG9 (Nat.le_refl _) hg1
                  refine ret_pn3 2 3 4 rfl g1 rfl _ _ _ hR9 _ _ rfl rfl rfl ⟨pd_end HR.out, hb9⟩

            · have HR := Lib.hid (g4 h4)
              have h4' : (r != 0) = true := by simpa using h4
              clear g4 g5 g6 g7 kz cv
              refine c1.mono ?_
              rintro e w' ⟨rfl, rfl⟩
              go_wp2_with fail
              refine c2.mono ?_
              rintro e w' ⟨rfl, rfl⟩
              go_wp2_with fail
              refine c3.mono ?_
              rintro e w' ⟨rfl, rfl⟩
              go_wp2_with (first | (refine wpList_store_pn rfl rfl _ _ rfl g1 (by exact rfl) ⟨#[]⟩ false 0 (by exact rfl) _ _ _ hR1 ?_; intro W9 hR9 hG9))
              have hb9 := below_row HB1.out hG9 (Nat.le_refl _) hg1
              refine ret_pn3 2 3 4 rfl g1 rfl _ _ _ hR9 _ _ rfl rfl rfl ⟨pd_end HR.out, hb9⟩

      · have HR := Lib.hid (P2.out h2)
        generalize dv (l.drop K) = z at *
        generalize dn (l.drop K) = y at *
        generalize de (l.drop K) = r at *
        have h2' : (r != 0) = true := by simpa using h2
        clear fz
        refine c1.mono ?_
        rintro e w' ⟨rfl, rfl⟩
        go_wp2_with fail
        refine c2.mono ?_
        rintro e w' ⟨rfl, rfl⟩
        go_wp2_with (first | (refine wpList_store_pn rfl rfl _ _ rfl g1 (by exact rfl) ⟨#[]⟩ false 0 (by exact rfl) _ _ _ hR1 ?_; intro W9 hR9 hG9))
        have hb9 := below_row HB1.out hG9 (Nat.le_refl _) hg1
        refine ret_pn3 2 3 4 rfl g1 rfl _ _ _ hR9 _ _ rfl rfl rfl ⟨pd_end HR.out, hb9⟩

  · have HR := Lib.hid (pdr_1 h1)
    have h1' : (dte l != 0) = true := by simpa using h1
    refine c1.mono ?_
    rintro e w' ⟨rfl, rfl⟩
    go_wp2_with (first | (refine wpList_store_pn rfl rfl _ _ rfl g1 (by exact rfl) ⟨#[]⟩ false 0 (by exact rfl) _ _ _ hR1 ?_; intro W9 hR9 hG9))
    have hb9 := below_row HB1.out hG9 (Nat.le_refl _) hg1
    refine ret_pn3 2 3 4 rfl g1 rfl _ _ _ hR9 _ _ rfl rfl rfl ⟨pd_end HR.out, hb9⟩
end

section
open Go.RowKit

set_option maxHeartbeats 1000000 in
theorem refUint_any (x : Int) (w : World) (h0 : 0 ≤ x) (h1 : x < 18446744073709551616) :
    Calls Tryz.prog 16 #[.int .u64 x] w fun e w' => (∃ v', e = .returned v' ∧ w'.ownsRow w.heap.size 5 1 v' (enc x.toNat).length ((enc x.toNat).map bv)) ∧ Below w.heap.size w w' := by
  obtain ⟨i5, hi5, hz0, hz1, hz2⟩ := info_parts infoU8
  obtain ⟨E, hE⟩ : ∃ E, E = enc x.toNat := ⟨_, rfl⟩
  rw [← hE]
  have HE := Lib.hid hE
  clear hE
  go_enter Tryz.func16, Tryz.ntmps16
  go_wp2
  go_loopw [3, 0] (fun o v wr => ∃ (f : Nat) (z : Int) (acc : List UInt8), f ≤ 9 ∧ acc.length + f = 9 ∧ 0 ≤ z ∧ z < 18446744073709551616 ∧ v = .int .u64 z ∧ Hid (z.toNat < 128 ^ (f + 1) ∧ E = acc ++ encF (f + 1) z.toNat) ∧
      wr.ownsRow w.heap.size 5 1 o acc.length (acc.map bv) ∧ Below w.heap.size w wr) (fun _ v _ => (intOf v).toNat)
  case atStart => exact ⟨9, x, [], Nat.le_refl _, rfl, h0, h1, rfl, by refine Lib.hid ⟨Nat.lt_of_lt_of_le (show x.toNat < 18446744073709551616 by omega) (by decide), ?_⟩; rw [HE.out]; simp [enc], World.ownsRow_nil _ _ _ _, Below.refl _ _⟩
  case round =>
    obtain ⟨f, z, acc, hf, haf, hz, hu, rfl, HR, hown2, hb⟩ := hrel
    have hlb : acc.length ≤ 9 := by omega
    have HAF := Lib.hid haf
    clear haf
    by_cases hge : 128 ≤ z
    · match f, hf, HR, HAF with
      | 0, _, HR, _ => exact absurd HR.out.1 (by simp; omega)
      | f + 1, hf, HR, HAF =>
        obtain ⟨y, hy⟩ : ∃ y, y = UInt8.ofNat (z.toNat % 128 + 128) := ⟨_, rfl⟩
        obtain ⟨zr, hzr⟩ : ∃ zr : Int, z % 128 = zr := ⟨_, rfl⟩
        obtain ⟨zq, hzq⟩ : ∃ zq : Int, z / 128 = zq := ⟨_, rfl⟩
        have hr0 : 0 ≤ zr := by omega
        have hr1 : zr < 128 := by omega
        have hq0 : 0 ≤ zq := by omega
        have hq1 : zq < 18446744073709551616 := by omega
        have hq2 : zq < z := by omega
        have HN : Hid (zq.toNat < 128 ^ (f + 1) ∧ E = (acc ++ [y]) ++ encF (f + 1) zq.toNat) := by
          have hp := HR.out.1
          rw [Nat.pow_succ] at hp
          have hq : zq.toNat = z.toNat / 128 := by omega
          refine Lib.hid ⟨by omega, ?_⟩
          rw [HR.out.2, encF_more _ (by omega), hy, hq]
          simp
        have HYV := Lib.hid (show zr + 128 = (y.toNat : Int) by rw [hy, ofNat_toNat (by omega)]; omega)
        clear hy HR
        go_wp2_with (at_builtin; refine wpList_app_one _ rfl _ _ 24 rfl w.heap.size 5 i5 (.int .u8 0) 1 tyBs hi5 hz0 hz1 hz2 rfl _ (by exact rfl) _ _ _ (by exact rfl) hown2 (by exact rfl) (by unfold maxLen; omega) (by omega) hb (Nat.le_refl _) ?_; intro v' w' hown' hb' _)
        go_roundw
        case rel =>
          refine ⟨f, zq, acc ++ [y], by omega, by have := HAF.out; simp; omega, hq0, hq1, (by first | rfl | rw [hzq]), HN, ?_, hb'⟩
          have hs := snoc_bytes [] acc y (zr + 128) HYV.out
          rw [List.nil_append, List.nil_append] at hs
          rw [hs] at hown'
          simpa using hown'
        case measure => simp [intOf]; omega
    · have hlt : z < 128 := by omega
      obtain ⟨y, hy⟩ : ∃ y, y = UInt8.ofNat z.toNat := ⟨_, rfl⟩
      have HZ := Lib.hid (show z = (y.toNat : Int) by rw [hy, byteOf, show ((z.toNat : Nat) : Int) = z by omega]; omega)
      have HN := Lib.hid (show E = acc ++ [y] by rw [HR.out.2, encF_last _ (by omega), hy])
      clear hy
      go_wp2_with (at_builtin; refine wpList_app_one _ rfl _ _ 24 rfl w.heap.size 5 i5 (.int .u8 0) 1 tyBs hi5 hz0 hz1 hz2 rfl _ (by exact rfl) _ _ _ (by exact rfl) hown2 (by exact rfl) (by unfold maxLen; omega) (by omega) hb (Nat.le_refl _) ?_; intro v' w' hown' hb' _)
      go_ret
      refine ⟨⟨v', rfl, ?_⟩, hb'⟩
      have hs := snoc_bytes [] acc y z HZ.out
      rw [List.nil_append, List.nil_append] at hs
      rw [hs] at hown'
      rw [HN.out]
      simpa using hown'
set_option maxHeartbeats 400000 in
theorem refText_any (s : ByteArray) (w : World) (hs : s.size ≤ 100000000) :
    Calls Tryz.prog 15 #[.string s] w fun e w' => (∃ v, e = .returned v ∧ w'.ownsRow w.heap.size 5 1 v (encT (ls s)).length ((encT (ls s)).map bv)) ∧ Below w.heap.size w w' := by
  obtain ⟨i5, hi5, hz0, hz1, hz2⟩ := info_parts infoU8
  obtain ⟨E, hE⟩ : ∃ E, E = enc s.size := ⟨_, rfl⟩
  have hEl : E.length ≤ 10 := by rw [hE]; exact enc_len _
  have HE := Lib.hid (show encT (ls s) = E ++ ls s by unfold encT; rw [ls_length, hE])
  have HE2 := Lib.hid (show enc ((s.size : Int).toNat) = E by rw [Int.toNat_natCast, hE])
  clear hE
  go_enter Tryz.func15, Tryz.ntmps15
  go_wp2_with fail
  refine (refUint_any (s.size : Int) _ (by omega) (by omega)).mono ?_
  rintro e w2 ⟨⟨v2, rfl, hown2⟩, hb2⟩
  rw [HE2.out] at hown2
  go_wp2_with (at_builtin; refine Lib.wpList_append_own_string _ rfl _ _ 24 9 rfl w.heap.size 5 i5 tyBs tyStr hi5 hz0 hz1 hz2 _ _ _ (by exact rfl) hown2 s (by exact rfl) (by unfold maxLen; omega) (by omega) hb2.size ?_; intro v3 w3 hown3 hg3 _; have hb3 := owns_below hown2 hb2 hb2.size hg3)
  go_ret
  refine ⟨⟨v3, rfl, ?_⟩, hb3⟩
  rw [strCells_bv, ← List.map_append] at hown3
  rw [HE.out, List.length_append, ls_length]
  exact hown3
end

section
open Go.RowKit Go.Shelf

theorem refPnValid_any (hV : HoVn 22) : PnVal 10 := by
  intro h s x w hh
  have c1 := fun W => hV h W hh
  have hP : pinOk ⟨ls h, s, x⟩ = (vnL (ls h) && decide (0 ≤ x) && decide (x ≤ 1099511627776)) := rfl
  generalize vnL (ls h) = q at *
  have HP := Lib.hid hP
  clear hP
  go_enter Tryz.func10, Tryz.ntmps10
  go_wp2_with (first | (refine wpList_box_arr _ rfl 1 rfl _ _ rfl _ #[.string h, .bool s, .int .i64 x] (by exact rfl) (by exact rfl) ?_; intro W1 g1 hg1 hl1 hR1 hG1; have hR1 : RowPn W1 g1 h s x := hR1; obtain ⟨x0, x1, x2⟩ := RowPn.cells hR1))
  refine (c1 _).mono ?_
  rintro e w1 ⟨rfl, hb⟩
  have hb1 := below_row0 (Below.refl w.heap.size w) hG1 (Nat.le_refl _)
  have hb2 := hb1.trans (hb.mono hb1.size)
  have hR2 : RowPn w1 g1 h s x := Row.below hR1 hb hl1
  obtain ⟨y0, y1, y2⟩ := RowPn.cells hR2
  clear hR1 hR2 hb hb1 hG1 x0 x1 x2 c1
  cases q with
  | false =>
    go_wp2
    go_ret
    exact ⟨ret_bool (by rw [HP.out]; simp), hb2⟩
  | true =>
    by_cases h0 : 0 ≤ x
    · have d0 := decide_eq_true h0
      by_cases h1 : x ≤ 1099511627776
      · have d1 := decide_eq_true h1
        go_wp2
        go_ret
        exact ⟨ret_bool (by rw [HP.out, d0, d1]; rfl), hb2⟩
      · have d1 := decide_eq_false h1
        go_wp2
        go_ret
        exact ⟨ret_bool (by rw [HP.out, d0, d1]; rfl), hb2⟩
    · have d0 := decide_eq_false h0
      go_wp2
      go_ret
      exact ⟨ret_bool (by rw [HP.out, d0]; rfl), hb2⟩

set_option maxRecDepth 20000 in
set_option maxHeartbeats 2000000 in
theorem refPnEnc_any (hV : PnVal 10) : PnEnc 6 := by
  intro h s x w hh
  have cv := fun W => hV h s x W (by omega)
  cases hp : pinOk ⟨ls h, s, x⟩ with
  | false =>
    rw [hp] at cv
    have HE := Lib.hid (enc_no hp)
    clear hp
    go_enter Tryz.func6, Tryz.ntmps6
    go_wp2_with (first
      | (refine wpList_box_arr _ rfl 1 rfl _ _ rfl _ #[.string h, .bool s, .int .i64 x] (by exact rfl) (by exact rfl) ?_; intro W1 g1 hg1 hl1 hR1 hG1; have hR1 : RowPn W1 g1 h s x := hR1)
      | (refine wpList_load_pn (by rfl) _ rfl g1 (by exact rfl) _ _ _ hR1 ?_))
    refine (cv _).mono ?_
    rintro e w1 ⟨rfl, hb⟩
    have hb1 := below_row0 (Below.refl w.heap.size w) hG1 (Nat.le_refl _)
    go_wp2
    go_ret2
    refine ⟨⟨.slice none 0 0, ?_, ?_⟩, hb1.trans (hb.mono hb1.size)⟩
    · rw [HE.out]; rfl
    · rw [HE.out]; exact World.ownsRow_nil _ _ _ _
  | true =>
    rw [hp] at cv
    have HE := Lib.hid (enc_yes hp)
    obtain ⟨hv, hx0, hx1⟩ := pinOk_iff.1 hp
    have hl := vn_len hv
    change 0 ≤ x at hx0
    change x ≤ 1099511627776 at hx1
    change (ls h).length ≤ 253 at hl
    rw [ls_length] at hl
    have HP : Hid (pinE ⟨ls h, s, x⟩ = encT (ls h) ++ (enc (subN s) ++ enc x.toNat)) := Lib.hid rfl
    have l1 : (encT (ls h)).length ≤ 300 := by
      unfold encT
      have := enc_len (ls h).length
      rw [List.length_append, ls_length]
      rw [ls_length] at this
      omega
    have l3 := enc_len x.toNat
    have hwx : x % 18446744073709551616 = x := by omega
    obtain ⟨i5, hi5, hz0, hz1, hz2⟩ := info_parts infoU8
    clear hp hv
    go_enter Tryz.func6, Tryz.ntmps6
    go_wp2_with (first
      | (refine wpList_box_arr _ rfl 1 rfl _ _ rfl _ #[.string h, .bool s, .int .i64 x] (by exact rfl) (by exact rfl) ?_; intro W1 g1 hg1 hl1 hR1 hG1; have hR1 : RowPn W1 g1 h s x := hR1)
      | (refine wpList_load_pn (by rfl) _ rfl g1 (by exact rfl) _ _ _ hR1 ?_))
    refine (cv _).mono ?_
    rintro e w1 ⟨rfl, hb⟩
    have hb1 := below_row0 (Below.refl w.heap.size w) hG1 (Nat.le_refl _)
    have hR2 : RowPn w1 g1 h s x := Row.below hR1 hb hl1
    have hB1 := hb1.trans (hb.mono hb1.size)
    obtain ⟨x0, x1, x2⟩ := RowPn.cells hR2
    clear hb hb1 hR1 hG1 cv
    go_wp2_with fail
    refine (refText_any h _ (by omega)).mono ?_
    rintro e w2 ⟨⟨v1, rfl, ho1⟩, hb2⟩
    have hR3 : RowPn w2 g1 h s x := Row.below hR2 hb2 (Row.lt hR2)
    obtain ⟨y0, y1, y2⟩ := RowPn.cells hR3
    clear x0 x1 x2
    cases s
    all_goals
      go_wp2_with (first
        | (at_builtin; refine wpList_app_one _ rfl _ _ 24 rfl w1.heap.size 5 i5 (.int .u8 0) 1 tyBs hi5 hz0 hz1 hz2 rfl _ (by exact rfl) _ _ _ (by exact rfl) ho1 (by exact rfl) (by unfold maxLen; omega) (by omega) hb2 (Nat.le_refl _) ?_
           intro v3 w3 ho3 hb3 _
           have hR4 : RowPn w3 g1 h _ x := Row.below hR2 hb3 (Row.lt hR2)
           obtain ⟨z0, z1, z2⟩ := RowPn.cells hR4))
      refine (refUint_any x _ hx0 (by omega)).mono ?_
      rintro e w4 ⟨⟨v4, rfl, ho4⟩, hb4⟩
      obtain ⟨A4, k4, rfl, hh4, hn4⟩ := Has.of_own ho4
      have hm4 := of_own_none ho4
      have ho5 := own_below ho3 hb4
      have hb5 := hb3.trans (hb4.mono hb3.size)
      clear ho4
      go_wp2_with (first
        | (at_builtin; refine wpList_app_has _ rfl _ _ 24 rfl w1.heap.size 5 i5 (.int .u8 0) 1 tyBs hi5 hz0 hz1 hz2 rfl _ _ _ (by exact rfl) ho5 A4 _ k4 _ ((enc x.toNat).map bv) (by exact rfl) hm4 hh4 (one_bytes _) (by unfold maxLen; omega) (by omega) hb5 (Nat.le_refl _) ?_
           intro v6 w6 ho6 hb6 _))
      go_ret2
      refine ⟨⟨v6, ?_, ?_⟩, hB1.trans (hb6.mono hB1.size)⟩
      · rw [HE.out]
        rfl
      · rw [HE.out]
        show World.ownsRow _ _ _ 1 v6 (pinE _).length ((pinE _).map bv)
        rw [HP.out, ← List.append_assoc, List.length_append, List.length_append, List.map_append, List.map_append]
        exact pn_low ho6 hB1.size
end

end Go.Proofs.YthoolifdmemceaaGreatDoor
