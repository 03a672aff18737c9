/-
  The reference of layer 18: skip, element.
-/
import Derived.Test.YtpopkeidpohdiaaAsBr
import Derived.Test.YtpopkeidpohdiaaDiB
import Derived.Test.YtpopkeidpohdiaaQdS
import Derived.Test.YtpopkeidpohdiaaRfL
namespace Go.Proofs.Ytpopkeidpohdiaa
open Go.RowKit

set_option maxHeartbeats 1000000 in
theorem refSkip_any (s : ByteArray) (k0 : Nat) (hs : s.size ≤ 1000000) (hk0 : k0 ≤ s.size) (w : World) :
    Calls Try.prog 21 #[.string s, .int .i64 (k0 : Int)] w fun e w' => e = .returned (.int .i64 (skN s k0 : Nat)) ∧ w = w' := by
  go_enter Try.func21, Try.ntmps21
  go_wp2
  go_loop [1] (fun t => ∃ k : Nat, k ≤ s.size ∧ t = .int .i64 k ∧ Hid (skN s k = skN s k0)) (fun t => s.size - (intOf t).toNat)
  case atStart => exact ⟨k0, hk0, rfl, Lib.hid rfl⟩
  case round =>
    obtain ⟨k, hk, rfl, HK⟩ := hrel
    by_cases hlt : k < s.size
    · cases hb : blankU s[k] with
      | true =>
        have cb := fun W => refIsBlank_any (s[k].toNat : Int) W
        rw [blank_u, hb] at cb
        have HN := Lib.hid ((skN_step s k hlt hb).symm.trans HK.out)
        clear hb
        go_wp2_with fail
        refine (cb _).mono ?_
        rintro e w' ⟨rfl, rfl⟩
        go_wp2
        go_round
        case rel => exact ⟨k + 1, by omega, by go_num, HN⟩
        case measure => simp [intOf]; omega
      | false =>
        have cb := fun W => refIsBlank_any (s[k].toNat : Int) W
        rw [blank_u, hb] at cb
        have HN : Hid (skN s k0 = k) := by
          show _ = _
          rw [← HK.out]
          exact skN_stop s k hlt hb
        clear hb
        go_wp2_with fail
        refine (cb _).mono ?_
        rintro e w' ⟨rfl, rfl⟩
        go_wp2
        go_ret
        exact ⟨ret_int (by rw [HN.out]), rfl⟩
    · have HN : Hid (skN s k0 = k) := by
        show _ = _
        rw [← HK.out]
        exact skN_end s k (by omega)
      go_wp2
      go_ret
      exact ⟨ret_int (by rw [HN.out]), rfl⟩

/-- What the reference's element leaves. -/
def RElR (s : ByteArray) (k : Nat) (w : World) (e : Ending) (w' : World) : Prop :=
  Below w.heap.size w w' ∧ match elemL (dl s k) with
  | some (d, t) => ∃ n, k < n ∧ n ≤ s.size ∧ dl s n = t ∧ e = .returned (.tuple #[.agg #[.string (bs d.name), .string (bs d.value), .bool d.has], .int .i64 (n : Int), .bool true])
  | none => ∃ (n v : ByteArray) (b : Bool) (i : Int), e = .returned (.tuple #[.agg #[.string n, .string v, .bool b], .int .i64 i, .bool false])
theorem relR_yes {s : ByteArray} {k n : Nat} {w w' : World} {e : Ending} {d : Dv} (h : elemL (dl s k) = some (d, dl s n)) (h1 : k < n) (h2 : n ≤ s.size) (hb : Below w.heap.size w w') (h3 : e = .returned (.tuple #[.agg #[.string (bs d.name), .string (bs d.value), .bool d.has], .int .i64 (n : Int), .bool true])) : RElR s k w e w' := by
  unfold RElR
  rw [h]
  exact ⟨hb, n, h1, h2, rfl, h3⟩
theorem relR_no {s : ByteArray} {k : Nat} {w w' : World} {e : Ending} (h : elemL (dl s k) = none) (hb : Below w.heap.size w w') (n v : ByteArray) (b : Bool) (i : Int) (h3 : e = .returned (.tuple #[.agg #[.string n, .string v, .bool b], .int .i64 i, .bool false])) : RElR s k w e w' := by
  unfold RElR
  rw [h]
  exact ⟨hb, n, v, b, i, h3⟩
theorem quo_tk0 (s : ByteArray) (k : Nat) (h : k < s.size) (hc : s[k] = 34) : tkN s k = 0 := tkN_stop s k h (by rw [hc]; decide +kernel)
theorem valL_tk0 (s : ByteArray) (k : Nat) (h : tkN s k = 0) (hc : ∀ hlt : k < s.size, s[k] ≠ 34) : valL (dl s k) = none := by
  unfold valL
  split
  · rename_i r e
    by_cases hlt : k < s.size
    · rw [dl_cons s k hlt] at e
      injection e with e _
      exact absurd e (hc hlt)
    · rw [dl_end s k (by omega)] at e
      cases e
  · rw [if_pos ((tok_nil s k).1 h)]

set_option maxRecDepth 20000 in
set_option maxHeartbeats 4000000 in
theorem refElement_any (s : ByteArray) (k : Nat) (hs : s.size ≤ 1000000) (hk : k ≤ s.size) (w : World) :
    Calls Try.prog 22 #[.string s, .int .i64 (k : Int)] w (RElR s k w) := by
  have hle := tkN_le s k hk
  have ct := fun W => refToken_any17 s (k : Int) (by omega) (by omega) (by omega) W
  rw [tkE_nat] at ct
  by_cases h0 : tkN s k = 0
  · have HX := Lib.hid (elemL_tk0 s k h0)
    rw [h0, Nat.add_zero] at ct
    have e0 : ((k : Int) == (k : Int)) = true := by simp
    clear h0 hle
    go_enter Try.func22, Try.ntmps22
    go_wp2_with (first | (refine wpList_alloc_arr _ rfl 4 rfl _ rfl dz zeroDv ?_; intro W2 g2 hg2 hl2 hr2 hG2; have hb := below_row0 (Below.refl w.heap.size w) hG2 (Nat.le_refl _)))
    replace hr2 : RowDv W2 g2 ⟨#[]⟩ ⟨#[]⟩ false := hr2
    refine (ct _).mono ?_
    rintro e w' ⟨rfl, rfl⟩
    go_wp2_with (first | (refine wpList_store_dv rfl rfl _ _ rfl g2 (by exact rfl) ⟨#[]⟩ ⟨#[]⟩ false (by exact rfl) _ _ _ hr2 ?_; intro w9 hr9 hG9))
    exact ret_dv3 4 5 6 rfl g2 rfl _ _ _ hr9 _ _ rfl rfl rfl (relR_no HX.out (below_row hb hG9 (Nat.le_refl _) hg2) _ _ _ _ rfl)
  · have htl : ((dl s k).takeWhile tokU).length ≤ 1000000 := by
      have := takeWhile_le tokU (dl s k)
      rw [dl_len] at this
      omega
    have hk1 : k < k + tkN s k := by omega
    have cl := fun W => refLower_any (s.extract k (k + tkN s k)) W (by rw [ByteArray.size_extract]; omega)
    rw [tok_bs, low_bs] at cl
    have PV := fun k2 => elemL_val s k k2 h0
    have PP := fun k2 => elemL_plain s k k2 h0
    have HTB := Lib.hid (tok_bs s k)
    obtain ⟨k1, hk1e⟩ : ∃ k1, k1 = k + tkN s k := ⟨_, rfl⟩
    rw [← hk1e] at ct hk1 hle PV PP HTB
    have cb := fun W => refSkip_any s k1 hs hle W
    have hk2 := skN_le s k1 hle
    have hk12 := skN_ge s k1
    obtain ⟨k2, hk2e⟩ : ∃ k2, k2 = skN s k1 := ⟨_, rfl⟩
    rw [← hk2e] at cb hk2 hk12
    have PV := PV k2 hk2e.symm
    have PP := PP k2 hk2e.symm
    rw [← HTB.out] at cl
    generalize (dl s k).takeWhile tokU = T at *
    generalize lowL T = L at *
    have e0 : ((k1 : Int) == (k : Int)) = false := by simp; omega
    have i0 : (0 : Int) ≤ (k : Int) := by omega
    have i1 : (k : Int) ≤ (k1 : Int) := by omega
    have i2 : (k1 : Int) ≤ (s.size : Int) := by omega
    clear h0 hk1e hk2e htl HTB
    have hkk2 : k < k2 := by omega
    by_cases hq : ∃ hlt : k2 < s.size, s[k2] = 61
    · obtain ⟨hlt2, hq⟩ := hq
      have e1 : ((k2 : Int) == (s.size : Int)) = false := by simp; omega
      have e2 : ((s[k2].toNat : Int) == 61) = true := by rw [hq]; rfl
      have e3 : ((s[k2].toNat : Int) != 61) = false := by rw [bne, e2]; rfl
      have PV := PV hlt2 hq
      have hk3 := skN_le s (k2 + 1) hlt2
      have hk34 := skN_ge s (k2 + 1)
      have cb3 := fun W => refSkip_any s (k2 + 1) hs hlt2 W
      have ek : ((k2 + 1 : Nat) : Int) = (k2 : Int) + 1 := by omega
      rw [ek] at cb3
      obtain ⟨k4, hk4e⟩ : ∃ k4, k4 = skN s (k2 + 1) := ⟨_, rfl⟩
      rw [← hk4e] at cb3 hk3 hk34 PV
      have hkk4 : k < k4 := by omega
      have hkb : (k2 : Int) ≤ 1000000 := by omega
      clear hq hk34 hk12 hk4e PP ek
      by_cases hc34 : ∃ hlt : k4 < s.size, s[k4] = 34
      · obtain ⟨hlt4, hc34⟩ := hc34
        have t1 : decide ((k4 : Int) < (s.size : Int)) = true := decide_eq_true (by omega)
        have t2 : ((s[k4].toNat : Int) == 34) = true := by rw [hc34]; rfl
        obtain ⟨v, n, r, hqp⟩ : ∃ v n r, qpar s (k4 : Int) = (v, n, r) := ⟨_, _, _, rfl⟩
        have cp := par_q (fun W => refParse_any17 s (k4 : Int) (by omega) (by omega) (by omega) W) hqp
        have HQ := Lib.hid (valL_quo s k4 hk3 (quo_tk0 s k4 hlt4 hc34) hqp)
        clear hc34 hqp
        by_cases hr : r = 0
        · subst hr
          have HV := Lib.hid (HQ.out.1 rfl)
          rw [HV.out.1] at PV
          have HX := Lib.hid PV
          have hkn : k < n ∧ n ≤ s.size := by have := HV.out.2; omega
          clear HQ HV PV
          go_enter Try.func22, Try.ntmps22
          go_wp2_with (first | (refine wpList_alloc_arr _ rfl 4 rfl _ rfl dz zeroDv ?_; intro W2 g2 hg2 hl2 hr2 hG2; have hb := below_row0 (Below.refl w.heap.size w) hG2 (Nat.le_refl _)))
          replace hr2 : RowDv W2 g2 ⟨#[]⟩ ⟨#[]⟩ false := hr2
          refine (ct _).mono ?_
          rintro e w' ⟨rfl, rfl⟩
          go_wp2_with fail
          refine (cl _).mono ?_
          rintro e w5 ⟨rfl, hb5⟩
          replace hr2 : RowDv w5 g2 ⟨#[]⟩ ⟨#[]⟩ false := Row.below hr2 hb5 (Row.lt hr2)
          replace hb := hb.trans (hb5.mono hb.size)
          clear hb5
          go_wp2_with (first
            | (refine wpList_alloc_arr _ rfl 8 rfl _ rfl dz zeroDv ?_
               intro W6 g6 hg6 hl6 hR6 hG6
               have hne := Row.lt hr2
               have hle6 := hb.size
               replace hr2 : RowDv W6 g2 ⟨#[]⟩ ⟨#[]⟩ false := Row.grown0 hr2 hG6
               replace hb := below_row0 hb hG6 (Nat.le_refl _))
            | (refine wpList_store_dv rfl rfl _ _ rfl g6 (by exact rfl) (bs L) ⟨#[]⟩ false (by exact rfl) _ _ _ hR6 ?_
               intro w7 hr6 hG7
               replace hr2 : RowDv w7 g2 ⟨#[]⟩ ⟨#[]⟩ false := Row.grown hr2 hG7 (by omega)
               replace hb := below_row hb hG7 (Nat.le_refl _) (by omega)))
          have hne6 : g2 ≠ g6 := by omega
          have h6 : w.heap.size ≤ g6 := by omega
          clear hne hle6 hg6 hl6 hG6 hG7 hR6
          refine (cb _).mono ?_
          rintro e w' ⟨rfl, rfl⟩
          go_wp2_with (first
            | (refine wpList_store_dv2 rfl rfl _ _ rfl g6 (by exact rfl) true (by exact rfl) _ _ _ hr6 ?_
               intro w7' hr62 hG7'
               replace hr2 : RowDv w7' g2 ⟨#[]⟩ ⟨#[]⟩ false := Row.grown hr2 hG7' hne6
               replace hb := below_row hb hG7' (Nat.le_refl _) h6))
          refine (cb3 _).mono ?_
          rintro e w' ⟨rfl, rfl⟩
          go_wp2_with fail
          refine (cp _).mono ?_
          rintro e w5 ⟨rfl, hb5⟩
          replace hr2 : RowDv w5 g2 ⟨#[]⟩ ⟨#[]⟩ false := Row.below hr2 hb5 (Row.lt hr2)
          replace hr62 : RowDv w5 g6 (bs L) ⟨#[]⟩ true := Row.below hr62 hb5 (Row.lt hr62)
          replace hb := hb.trans (hb5.mono hb.size)
          clear hb5
          go_wp2_with (first
            | (refine wpList_store_dv1 rfl rfl _ _ rfl g6 (by exact rfl) (bs v) (by exact rfl) _ _ _ hr62 ?_
               intro w8 hr63 hG8
               replace hr2 : RowDv w8 g2 ⟨#[]⟩ ⟨#[]⟩ false := Row.grown hr2 hG8 hne6
               replace hb := below_row hb hG8 (Nat.le_refl _) h6)
            | refine wpList_load_dv (by rfl) _ rfl g6 (by exact rfl) _ _ _ hr63 ?_
            | (refine wpList_store_dv rfl rfl _ _ rfl g2 (by exact rfl) (bs L) (bs v) true (by exact rfl) _ _ _ hr2 ?_; intro w9 hr9 hG9))
          exact ret_dv3 4 5 6 rfl g2 rfl _ _ _ hr9 _ _ rfl rfl rfl (relR_yes HX.out hkn.1 hkn.2 (below_row hb hG9 (Nat.le_refl _) hg2) rfl)
        · have hr' : (r == 0) = false := by simpa using hr
          rw [HQ.out.2 hr] at PV
          have HX := Lib.hid PV
          clear HQ PV hr
          go_enter Try.func22, Try.ntmps22
          go_wp2_with (first | (refine wpList_alloc_arr _ rfl 4 rfl _ rfl dz zeroDv ?_; intro W2 g2 hg2 hl2 hr2 hG2; have hb := below_row0 (Below.refl w.heap.size w) hG2 (Nat.le_refl _)))
          replace hr2 : RowDv W2 g2 ⟨#[]⟩ ⟨#[]⟩ false := hr2
          refine (ct _).mono ?_
          rintro e w' ⟨rfl, rfl⟩
          go_wp2_with fail
          refine (cl _).mono ?_
          rintro e w5 ⟨rfl, hb5⟩
          replace hr2 : RowDv w5 g2 ⟨#[]⟩ ⟨#[]⟩ false := Row.below hr2 hb5 (Row.lt hr2)
          replace hb := hb.trans (hb5.mono hb.size)
          clear hb5
          go_wp2_with (first
            | (refine wpList_alloc_arr _ rfl 8 rfl _ rfl dz zeroDv ?_
               intro W6 g6 hg6 hl6 hR6 hG6
               have hne := Row.lt hr2
               have hle6 := hb.size
               replace hr2 : RowDv W6 g2 ⟨#[]⟩ ⟨#[]⟩ false := Row.grown0 hr2 hG6
               replace hb := below_row0 hb hG6 (Nat.le_refl _))
            | (refine wpList_store_dv rfl rfl _ _ rfl g6 (by exact rfl) (bs L) ⟨#[]⟩ false (by exact rfl) _ _ _ hR6 ?_
               intro w7 hr6 hG7
               replace hr2 : RowDv w7 g2 ⟨#[]⟩ ⟨#[]⟩ false := Row.grown hr2 hG7 (by omega)
               replace hb := below_row hb hG7 (Nat.le_refl _) (by omega)))
          have hne6 : g2 ≠ g6 := by omega
          have h6 : w.heap.size ≤ g6 := by omega
          clear hne hle6 hg6 hl6 hG6 hG7 hR6
          refine (cb _).mono ?_
          rintro e w' ⟨rfl, rfl⟩
          go_wp2_with (first
            | (refine wpList_store_dv2 rfl rfl _ _ rfl g6 (by exact rfl) true (by exact rfl) _ _ _ hr6 ?_
               intro w7' hr62 hG7'
               replace hr2 : RowDv w7' g2 ⟨#[]⟩ ⟨#[]⟩ false := Row.grown hr2 hG7' hne6
               replace hb := below_row hb hG7' (Nat.le_refl _) h6))
          refine (cb3 _).mono ?_
          rintro e w' ⟨rfl, rfl⟩
          go_wp2_with fail
          refine (cp _).mono ?_
          rintro e w5 ⟨rfl, hb5⟩
          replace hr2 : RowDv w5 g2 ⟨#[]⟩ ⟨#[]⟩ false := Row.below hr2 hb5 (Row.lt hr2)
          replace hr62 : RowDv w5 g6 (bs L) ⟨#[]⟩ true := Row.below hr62 hb5 (Row.lt hr62)
          replace hb := hb.trans (hb5.mono hb.size)
          clear hb5
          go_wp2_with (first
            | (refine wpList_store_dv1 rfl rfl _ _ rfl g6 (by exact rfl) (bs v) (by exact rfl) _ _ _ hr62 ?_
               intro w8 hr63 hG8
               replace hr2 : RowDv w8 g2 ⟨#[]⟩ ⟨#[]⟩ false := Row.grown hr2 hG8 hne6
               replace hb := below_row hb hG8 (Nat.le_refl _) h6)
            | refine wpList_load_dv (by rfl) _ rfl g6 (by exact rfl) _ _ _ hr63 ?_
            | (refine wpList_store_dv rfl rfl _ _ rfl g2 (by exact rfl) (bs L) (bs v) true (by exact rfl) _ _ _ hr2 ?_; intro w9 hr9 hG9))
          exact ret_dv3 4 5 6 rfl g2 rfl _ _ _ hr9 _ _ rfl rfl rfl (relR_no HX.out (below_row hb hG9 (Nat.le_refl _) hg2) _ _ _ _ rfl)
      · have hc : ∀ hlt : k4 < s.size, s[k4] ≠ 34 := fun hlt e => hc34 ⟨hlt, e⟩
        have ct4 := fun W => refToken_any17 s (k4 : Int) (by omega) (by omega) (by omega) W
        rw [tkE_nat] at ct4
        have hle4 := tkN_le s k4 hk3
        have i3 : (0 : Int) ≤ (k4 : Int) := by omega
        by_cases h40 : tkN s k4 = 0
        · rw [valL_tk0 s k4 h40 hc] at PV
          have HX := Lib.hid PV
          rw [h40, Nat.add_zero] at ct4
          have i4 : (k4 : Int) ≤ (k4 : Int) := by omega
          have i5 : (k4 : Int) ≤ (s.size : Int) := by omega
          have u1 : decide ((k4 : Int) < (k4 : Int)) = false := decide_eq_false (by omega)
          clear hc34 h40 hle4 PV
          by_cases hl4 : k4 < s.size
          · have t1 : decide ((k4 : Int) < (s.size : Int)) = true := decide_eq_true (by omega)
            have t2 : ((s[k4].toNat : Int) == 34) = false := byte_u8 (hc hl4)
            clear hc
            go_enter Try.func22, Try.ntmps22
            go_wp2_with (first | (refine wpList_alloc_arr _ rfl 4 rfl _ rfl dz zeroDv ?_; intro W2 g2 hg2 hl2 hr2 hG2; have hb := below_row0 (Below.refl w.heap.size w) hG2 (Nat.le_refl _)))
            replace hr2 : RowDv W2 g2 ⟨#[]⟩ ⟨#[]⟩ false := hr2
            refine (ct _).mono ?_
            rintro e w' ⟨rfl, rfl⟩
            go_wp2_with fail
            refine (cl _).mono ?_
            rintro e w5 ⟨rfl, hb5⟩
            replace hr2 : RowDv w5 g2 ⟨#[]⟩ ⟨#[]⟩ false := Row.below hr2 hb5 (Row.lt hr2)
            replace hb := hb.trans (hb5.mono hb.size)
            clear hb5
            go_wp2_with (first
              | (refine wpList_alloc_arr _ rfl 8 rfl _ rfl dz zeroDv ?_
                 intro W6 g6 hg6 hl6 hR6 hG6
                 have hne := Row.lt hr2
                 have hle6 := hb.size
                 replace hr2 : RowDv W6 g2 ⟨#[]⟩ ⟨#[]⟩ false := Row.grown0 hr2 hG6
                 replace hb := below_row0 hb hG6 (Nat.le_refl _))
              | (refine wpList_store_dv rfl rfl _ _ rfl g6 (by exact rfl) (bs L) ⟨#[]⟩ false (by exact rfl) _ _ _ hR6 ?_
                 intro w7 hr6 hG7
                 replace hr2 : RowDv w7 g2 ⟨#[]⟩ ⟨#[]⟩ false := Row.grown hr2 hG7 (by omega)
                 replace hb := below_row hb hG7 (Nat.le_refl _) (by omega)))
            have hne6 : g2 ≠ g6 := by omega
            have h6 : w.heap.size ≤ g6 := by omega
            clear hne hle6 hg6 hl6 hG6 hG7 hR6
            refine (cb _).mono ?_
            rintro e w' ⟨rfl, rfl⟩
            go_wp2_with (first
              | (refine wpList_store_dv2 rfl rfl _ _ rfl g6 (by exact rfl) true (by exact rfl) _ _ _ hr6 ?_
                 intro w7' hr62 hG7'
                 replace hr2 : RowDv w7' g2 ⟨#[]⟩ ⟨#[]⟩ false := Row.grown hr2 hG7' hne6
                 replace hb := below_row hb hG7' (Nat.le_refl _) h6))
            refine (cb3 _).mono ?_
            rintro e w' ⟨rfl, rfl⟩
            go_wp2_with fail
            refine (ct4 _).mono ?_
            rintro e w' ⟨rfl, rfl⟩
            go_wp2_with (first
              | (refine wpList_store_dv1 rfl rfl _ _ rfl g6 (by exact rfl) ByteArray.empty (by exact rfl) _ _ _ hr62 ?_
                 intro w8 hr63 hG8
                 replace hr2 : RowDv w8 g2 ⟨#[]⟩ ⟨#[]⟩ false := Row.grown hr2 hG8 hne6
                 replace hb := below_row hb hG8 (Nat.le_refl _) h6)
              | refine wpList_load_dv (by rfl) _ rfl g6 (by exact rfl) _ _ _ hr63 ?_
              | (refine wpList_store_dv rfl rfl _ _ rfl g2 (by exact rfl) (bs L) ByteArray.empty true (by exact rfl) _ _ _ hr2 ?_; intro w9 hr9 hG9))
            exact ret_dv3 4 5 6 rfl g2 rfl _ _ _ hr9 _ _ rfl rfl rfl (relR_no HX.out (below_row hb hG9 (Nat.le_refl _) hg2) _ _ _ _ rfl)
          · have t1 : decide ((k4 : Int) < (s.size : Int)) = false := decide_eq_false (by omega)
            clear hc
            go_enter Try.func22, Try.ntmps22
            go_wp2_with (first | (refine wpList_alloc_arr _ rfl 4 rfl _ rfl dz zeroDv ?_; intro W2 g2 hg2 hl2 hr2 hG2; have hb := below_row0 (Below.refl w.heap.size w) hG2 (Nat.le_refl _)))
            replace hr2 : RowDv W2 g2 ⟨#[]⟩ ⟨#[]⟩ false := hr2
            refine (ct _).mono ?_
            rintro e w' ⟨rfl, rfl⟩
            go_wp2_with fail
            refine (cl _).mono ?_
            rintro e w5 ⟨rfl, hb5⟩
            replace hr2 : RowDv w5 g2 ⟨#[]⟩ ⟨#[]⟩ false := Row.below hr2 hb5 (Row.lt hr2)
            replace hb := hb.trans (hb5.mono hb.size)
            clear hb5
            go_wp2_with (first
              | (refine wpList_alloc_arr _ rfl 8 rfl _ rfl dz zeroDv ?_
                 intro W6 g6 hg6 hl6 hR6 hG6
                 have hne := Row.lt hr2
                 have hle6 := hb.size
                 replace hr2 : RowDv W6 g2 ⟨#[]⟩ ⟨#[]⟩ false := Row.grown0 hr2 hG6
                 replace hb := below_row0 hb hG6 (Nat.le_refl _))
              | (refine wpList_store_dv rfl rfl _ _ rfl g6 (by exact rfl) (bs L) ⟨#[]⟩ false (by exact rfl) _ _ _ hR6 ?_
                 intro w7 hr6 hG7
                 replace hr2 : RowDv w7 g2 ⟨#[]⟩ ⟨#[]⟩ false := Row.grown hr2 hG7 (by omega)
                 replace hb := below_row hb hG7 (Nat.le_refl _) (by omega)))
            have hne6 : g2 ≠ g6 := by omega
            have h6 : w.heap.size ≤ g6 := by omega
            clear hne hle6 hg6 hl6 hG6 hG7 hR6
            refine (cb _).mono ?_
            rintro e w' ⟨rfl, rfl⟩
            go_wp2_with (first
              | (refine wpList_store_dv2 rfl rfl _ _ rfl g6 (by exact rfl) true (by exact rfl) _ _ _ hr6 ?_
                 intro w7' hr62 hG7'
                 replace hr2 : RowDv w7' g2 ⟨#[]⟩ ⟨#[]⟩ false := Row.grown hr2 hG7' hne6
                 replace hb := below_row hb hG7' (Nat.le_refl _) h6))
            refine (cb3 _).mono ?_
            rintro e w' ⟨rfl, rfl⟩
            go_wp2_with fail
            refine (ct4 _).mono ?_
            rintro e w' ⟨rfl, rfl⟩
            go_wp2_with (first
              | (refine wpList_store_dv1 rfl rfl _ _ rfl g6 (by exact rfl) ByteArray.empty (by exact rfl) _ _ _ hr62 ?_
                 intro w8 hr63 hG8
                 replace hr2 : RowDv w8 g2 ⟨#[]⟩ ⟨#[]⟩ false := Row.grown hr2 hG8 hne6
                 replace hb := below_row hb hG8 (Nat.le_refl _) h6)
              | refine wpList_load_dv (by rfl) _ rfl g6 (by exact rfl) _ _ _ hr63 ?_
              | (refine wpList_store_dv rfl rfl _ _ rfl g2 (by exact rfl) (bs L) ByteArray.empty true (by exact rfl) _ _ _ hr2 ?_; intro w9 hr9 hG9))
            exact ret_dv3 4 5 6 rfl g2 rfl _ _ _ hr9 _ _ rfl rfl rfl (relR_no HX.out (below_row hb hG9 (Nat.le_refl _) hg2) _ _ _ _ rfl)
        · have ht : (dl s k4).takeWhile tokU ≠ [] := fun e => h40 ((tok_nil s k4).2 e)
          rw [valL_tok ht, ← dl_tok] at PV
          have HTB := Lib.hid (tok_bs s k4)
          have hk4n : k4 < k4 + tkN s k4 := by omega
          obtain ⟨n, hn⟩ : ∃ n, n = k4 + tkN s k4 := ⟨_, rfl⟩
          rw [← hn] at ct4 hle4 PV HTB hk4n
          obtain ⟨v, hv⟩ : ∃ v, v = (dl s k4).takeWhile tokU := ⟨_, rfl⟩
          rw [← hv] at PV HTB
          have HX := Lib.hid PV
          have i4 : (k4 : Int) ≤ (n : Int) := by omega
          have i5 : (n : Int) ≤ (s.size : Int) := by omega
          have hkn : k < n ∧ n ≤ s.size := by omega
          have u1 : decide ((k4 : Int) < (n : Int)) = true := decide_eq_true (by omega)
          have u2 : decide (k4 < n) = true := decide_eq_true hk4n
          clear hc34 h40 hle4 PV ht hn hv
          by_cases hl4 : k4 < s.size
          · have t1 : decide ((k4 : Int) < (s.size : Int)) = true := decide_eq_true (by omega)
            have t2 : ((s[k4].toNat : Int) == 34) = false := byte_u8 (hc hl4)
            clear hc
            go_enter Try.func22, Try.ntmps22
            go_wp2_with (first | (refine wpList_alloc_arr _ rfl 4 rfl _ rfl dz zeroDv ?_; intro W2 g2 hg2 hl2 hr2 hG2; have hb := below_row0 (Below.refl w.heap.size w) hG2 (Nat.le_refl _)))
            replace hr2 : RowDv W2 g2 ⟨#[]⟩ ⟨#[]⟩ false := hr2
            refine (ct _).mono ?_
            rintro e w' ⟨rfl, rfl⟩
            go_wp2_with fail
            refine (cl _).mono ?_
            rintro e w5 ⟨rfl, hb5⟩
            replace hr2 : RowDv w5 g2 ⟨#[]⟩ ⟨#[]⟩ false := Row.below hr2 hb5 (Row.lt hr2)
            replace hb := hb.trans (hb5.mono hb.size)
            clear hb5
            go_wp2_with (first
              | (refine wpList_alloc_arr _ rfl 8 rfl _ rfl dz zeroDv ?_
                 intro W6 g6 hg6 hl6 hR6 hG6
                 have hne := Row.lt hr2
                 have hle6 := hb.size
                 replace hr2 : RowDv W6 g2 ⟨#[]⟩ ⟨#[]⟩ false := Row.grown0 hr2 hG6
                 replace hb := below_row0 hb hG6 (Nat.le_refl _))
              | (refine wpList_store_dv rfl rfl _ _ rfl g6 (by exact rfl) (bs L) ⟨#[]⟩ false (by exact rfl) _ _ _ hR6 ?_
                 intro w7 hr6 hG7
                 replace hr2 : RowDv w7 g2 ⟨#[]⟩ ⟨#[]⟩ false := Row.grown hr2 hG7 (by omega)
                 replace hb := below_row hb hG7 (Nat.le_refl _) (by omega)))
            have hne6 : g2 ≠ g6 := by omega
            have h6 : w.heap.size ≤ g6 := by omega
            clear hne hle6 hg6 hl6 hG6 hG7 hR6
            refine (cb _).mono ?_
            rintro e w' ⟨rfl, rfl⟩
            go_wp2_with (first
              | (refine wpList_store_dv2 rfl rfl _ _ rfl g6 (by exact rfl) true (by exact rfl) _ _ _ hr6 ?_
                 intro w7' hr62 hG7'
                 replace hr2 : RowDv w7' g2 ⟨#[]⟩ ⟨#[]⟩ false := Row.grown hr2 hG7' hne6
                 replace hb := below_row hb hG7' (Nat.le_refl _) h6))
            refine (cb3 _).mono ?_
            rintro e w' ⟨rfl, rfl⟩
            go_wp2_with fail
            refine (ct4 _).mono ?_
            rintro e w' ⟨rfl, rfl⟩
            go_wp2_with (first
              | (refine wpList_store_dv1 rfl rfl _ _ rfl g6 (by exact rfl) (s.extract k4 n) (by exact rfl) _ _ _ hr62 ?_
                 intro w8 hr63 hG8
                 replace hr2 : RowDv w8 g2 ⟨#[]⟩ ⟨#[]⟩ false := Row.grown hr2 hG8 hne6
                 replace hb := below_row hb hG8 (Nat.le_refl _) h6)
              | refine wpList_load_dv (by rfl) _ rfl g6 (by exact rfl) _ _ _ hr63 ?_
              | (refine wpList_store_dv rfl rfl _ _ rfl g2 (by exact rfl) (bs L) (s.extract k4 n) true (by exact rfl) _ _ _ hr2 ?_; intro w9 hr9 hG9))
            exact ret_dv3 4 5 6 rfl g2 rfl _ _ _ hr9 _ _ rfl rfl rfl (relR_yes HX.out hkn.1 hkn.2 (below_row hb hG9 (Nat.le_refl _) hg2) (by rw [HTB.out]; rfl))
          · exfalso; omega
    · have hq' : ∀ hlt : k2 < s.size, s[k2] ≠ 61 := fun hlt hc => hq ⟨hlt, hc⟩
      have HX := Lib.hid (PP hq')
      clear PV PP hq
      by_cases hl2 : k2 < s.size
      · have e1 : ((k2 : Int) == (s.size : Int)) = false := by simp; omega
        have e2 : ((s[k2].toNat : Int) == 61) = false := byte_u8 (hq' hl2)
        have e3 : ((s[k2].toNat : Int) != 61) = true := by rw [bne, e2]; rfl
        clear hq'
        go_enter Try.func22, Try.ntmps22
        go_wp2_with (first | (refine wpList_alloc_arr _ rfl 4 rfl _ rfl dz zeroDv ?_; intro W2 g2 hg2 hl2 hr2 hG2; have hb := below_row0 (Below.refl w.heap.size w) hG2 (Nat.le_refl _)))
        replace hr2 : RowDv W2 g2 ⟨#[]⟩ ⟨#[]⟩ false := hr2
        refine (ct _).mono ?_
        rintro e w' ⟨rfl, rfl⟩
        go_wp2_with fail
        refine (cl _).mono ?_
        rintro e w5 ⟨rfl, hb5⟩
        replace hr2 : RowDv w5 g2 ⟨#[]⟩ ⟨#[]⟩ false := Row.below hr2 hb5 (Row.lt hr2)
        replace hb := hb.trans (hb5.mono hb.size)
        clear hb5
        go_wp2_with (first
          | (refine wpList_alloc_arr _ rfl 8 rfl _ rfl dz zeroDv ?_
             intro W6 g6 hg6 hl6 hR6 hG6
             have hne := Row.lt hr2
             have hle6 := hb.size
             replace hr2 : RowDv W6 g2 ⟨#[]⟩ ⟨#[]⟩ false := Row.grown0 hr2 hG6
             replace hb := below_row0 hb hG6 (Nat.le_refl _))
          | (refine wpList_store_dv rfl rfl _ _ rfl g6 (by exact rfl) (bs L) ⟨#[]⟩ false (by exact rfl) _ _ _ hR6 ?_
             intro w7 hr6 hG7
             replace hr2 : RowDv w7 g2 ⟨#[]⟩ ⟨#[]⟩ false := Row.grown hr2 hG7 (by omega)
             replace hb := below_row hb hG7 (Nat.le_refl _) (by omega)))
        have hne6 : g2 ≠ g6 := by omega
        have h6 : w.heap.size ≤ g6 := by omega
        clear hne hle6 hg6 hl6 hG6 hG7 hR6
        refine (cb _).mono ?_
        rintro e w' ⟨rfl, rfl⟩
        go_wp2_with (first
          | refine wpList_load_dv (by rfl) _ rfl g6 (by exact rfl) _ _ _ hr6 ?_
          | (refine wpList_store_dv rfl rfl _ _ rfl g2 (by exact rfl) (bs L) ⟨#[]⟩ false (by exact rfl) _ _ _ hr2 ?_; intro w9 hr9 hG9))
        exact ret_dv3 4 5 6 rfl g2 rfl _ _ _ hr9 _ _ rfl rfl rfl (relR_yes HX.out hkk2 hk2 (below_row hb hG9 (Nat.le_refl _) hg2) rfl)
      · have e1 : ((k2 : Int) == (s.size : Int)) = true := by simp; omega
        clear hq'
        go_enter Try.func22, Try.ntmps22
        go_wp2_with (first | (refine wpList_alloc_arr _ rfl 4 rfl _ rfl dz zeroDv ?_; intro W2 g2 hg2 hl2 hr2 hG2; have hb := below_row0 (Below.refl w.heap.size w) hG2 (Nat.le_refl _)))
        replace hr2 : RowDv W2 g2 ⟨#[]⟩ ⟨#[]⟩ false := hr2
        refine (ct _).mono ?_
        rintro e w' ⟨rfl, rfl⟩
        go_wp2_with fail
        refine (cl _).mono ?_
        rintro e w5 ⟨rfl, hb5⟩
        replace hr2 : RowDv w5 g2 ⟨#[]⟩ ⟨#[]⟩ false := Row.below hr2 hb5 (Row.lt hr2)
        replace hb := hb.trans (hb5.mono hb.size)
        clear hb5
        go_wp2_with (first
          | (refine wpList_alloc_arr _ rfl 8 rfl _ rfl dz zeroDv ?_
             intro W6 g6 hg6 hl6 hR6 hG6
             have hne := Row.lt hr2
             have hle6 := hb.size
             replace hr2 : RowDv W6 g2 ⟨#[]⟩ ⟨#[]⟩ false := Row.grown0 hr2 hG6
             replace hb := below_row0 hb hG6 (Nat.le_refl _))
          | (refine wpList_store_dv rfl rfl _ _ rfl g6 (by exact rfl) (bs L) ⟨#[]⟩ false (by exact rfl) _ _ _ hR6 ?_
             intro w7 hr6 hG7
             replace hr2 : RowDv w7 g2 ⟨#[]⟩ ⟨#[]⟩ false := Row.grown hr2 hG7 (by omega)
             replace hb := below_row hb hG7 (Nat.le_refl _) (by omega)))
        have hne6 : g2 ≠ g6 := by omega
        have h6 : w.heap.size ≤ g6 := by omega
        clear hne hle6 hg6 hl6 hG6 hG7 hR6
        refine (cb _).mono ?_
        rintro e w' ⟨rfl, rfl⟩
        go_wp2_with (first
          | refine wpList_load_dv (by rfl) _ rfl g6 (by exact rfl) _ _ _ hr6 ?_
          | (refine wpList_store_dv rfl rfl _ _ rfl g2 (by exact rfl) (bs L) ⟨#[]⟩ false (by exact rfl) _ _ _ hr2 ?_; intro w9 hr9 hG9))
        exact ret_dv3 4 5 6 rfl g2 rfl _ _ _ hr9 _ _ rfl rfl rfl (relR_yes HX.out hkk2 hk2 (below_row hb hG9 (Nat.le_refl _) hg2) rfl)

end Go.Proofs.Ytpopkeidpohdiaa
