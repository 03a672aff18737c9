/-
  The walk of WireEncodesMatchSpec: it returns true.
-/
import Derived.Test.YtealjcpgcghfpaaWir7
namespace Go.Proofs.Ytealjcpgcghfpaa
open Go.RowKit

def sevens : List UInt8 := List.replicate 11 7
theorem sevens_length : sevens.length = 11 := rfl
theorem seven_at (l : List UInt8) (k : Nat) (h : l.length ≤ k) (h2 : k < ((l ++ sevens).map bv).length) : ((l ++ sevens).map bv)[k] = .int .u8 7 := by
  rw [List.getElem_map, List.getElem_append_right h, bv_eq]
  unfold sevens
  rw [List.getElem_replicate]
  rfl

set_option maxHeartbeats 4000000 in
theorem wireEnc_walk (A : Option Addr) (len cap : Nat) (zs : List Int) (v : Int) (s : ByteArray) (w : World) (h : In8 w A len cap zs) (hv : (Lit.int .u64 v).wf = true) (hs : s.size ≤ maxLen) :
    Calls Try.prog 3 #[.slice A len cap, .int .u64 v, .string s] w (Yes w) := by
  obtain ⟨l, hl⟩ := arg8_of h
  have HA := Lib.hid hl
  have hvb := bounds_u64 hv
  have hv0 : 0 ≤ v := by omega
  have hv1 : v < 18446744073709551616 := by omega
  clear hl h hv hs hvb
  by_cases hg : len ≤ 2000 ∧ s.size ≤ 5000
  · obtain ⟨hlen, hsl⟩ := hg
    have hlen' : ¬ 2000 < (len : Int) := by omega
    have hsl' : ¬ 5000 < (s.size : Int) := by omega
    obtain ⟨i5, hi5, hz0, hz1, hz2⟩ := info_parts infoU8
    have HL := Lib.hid HA.out.len
    obtain ⟨x, hx⟩ : ∃ x, v % 4294967296 = x := ⟨_, rfl⟩
    have hx0 : 0 ≤ x := by omega
    have hx1 : x < 4294967296 := by omega
    have hEl := enc_len v.toNat
    have hTl : (encT (ls s)).length ≤ 5010 := by
      have := enc_len s.size
      unfold encT
      rw [List.length_append, ls_length]
      omega
    obtain ⟨E, hE⟩ : ∃ E, E = enc v.toNat := ⟨_, rfl⟩
    obtain ⟨T, hT⟩ : ∃ T, T = encT (ls s) := ⟨_, rfl⟩
    obtain ⟨X, hX⟩ : ∃ X, X = fixE x.toNat := ⟨_, rfl⟩
    rw [← hE] at hEl
    rw [← hT] at hTl
    have HE := Lib.hid hE
    have HT := Lib.hid hT
    have HX := Lib.hid hX
    clear hE hT hX
    go_enter Try.func3, Try.ntmps3
    go_wp2_with fail
    refine (ownBytes_any A len cap _ l w HA.out.1 HA.out.2.2.2 (by omega) (Nat.le_refl _)).mono ?_
    rintro e w1 ⟨⟨v1, rfl, hown⟩, hb⟩
    have hh := Has.laid w1 5 #[.int .u8 7, .int .u8 7, .int .u8 7, .int .u8 7, .int .u8 7, .int .u8 7, .int .u8 7, .int .u8 7, .int .u8 7, .int .u8 7, .int .u8 7] (0, 0) 11 (sevens.map bv) rfl rfl
    have hown1 := hown.alloc (.cells #[.int .u8 7, .int .u8 7, .int .u8 7, .int .u8 7, .int .u8 7, .int .u8 7, .int .u8 7, .int .u8 7, .int .u8 7, .int .u8 7, .int .u8 7] 5)
    have hb1 := hb.alloc hb.size (.cells #[.int .u8 7, .int .u8 7, .int .u8 7, .int .u8 7, .int .u8 7, .int .u8 7, .int .u8 7, .int .u8 7, .int .u8 7, .int .u8 7, .int .u8 7] 5)
    clear hown hb
    go_wp2_with (at_builtin; refine wpList_app_has _ rfl _ _ 22 rfl w.heap.size 5 i5 (.int .u8 0) 1 tyBs hi5 hz0 hz1 hz2 rfl _ _ _ (by exact rfl) hown1 _ 11 11 _ (sevens.map bv) (by exact rfl) (by intro e; cases e) hh (one_bytes _) (by unfold maxLen; omega) (by omega) hb1 (Nat.le_refl _) ?_; intro v2 w2 hown2 hb2 _; rw [map_append_bv] at hown2; obtain ⟨g, c, rfl, hroom, hrc⟩ := has_own hown2 (by omega); have hlc : len ≤ c := Nat.le_trans (by omega) hrc)
    clear hown1 hb1 hh hown2
    have hin := hroom.take len (by omega)
    rw [← List.map_take, List.take_left' HL.out] at hin
    have hr := (HA.out.1.below hb2).more hb2.size
    replace hb := hb2
    clear hb2
    go_wp2_with fail
    refine (appUint_any _ len c _ l v w2 hin (by intro e; cases e) (by omega) (Nat.le_refl _) hv0 hv1).mono ?_
    rintro e w3 ⟨⟨v3, rfl, hown⟩, hbn⟩
    rw [← HE.out] at hown
    obtain ⟨A_x1, c_x1, rfl, h_x1, _⟩ := Has.of_own hown
    clear hown
    replace hroom := (hroom.below hbn).more hbn.size
    replace hin := (hin.below hbn).more hbn.size
    replace hr := (hr.below hbn).more hbn.size
    replace hb := hb.trans (hbn.mono hb.size)
    clear hbn
    go_wp2_with fail
    refine (appText_any _ len c _ l s w3 hin (by intro e; cases e) (by omega) (Nat.le_refl _) (by omega)).mono ?_
    rintro e w4 ⟨⟨v4, rfl, hown⟩, hbn⟩
    rw [← HT.out] at hown
    obtain ⟨A_y1, c_y1, rfl, h_y1, _⟩ := Has.of_own hown
    clear hown
    replace hroom := (hroom.below hbn).more hbn.size
    replace hin := (hin.below hbn).more hbn.size
    replace hr := (hr.below hbn).more hbn.size
    replace h_x1 := (h_x1.below hbn).more hbn.size
    replace hb := hb.trans (hbn.mono hb.size)
    clear hbn
    go_wp2_with fail
    refine (appFixed_any _ len c _ l x w4 hin (by intro e; cases e) (by omega) (Nat.le_refl _) hx0 hx1).mono ?_
    rintro e w5 ⟨⟨v5, rfl, hown⟩, hbn⟩
    rw [← HX.out] at hown
    obtain ⟨A_z1, c_z1, rfl, h_z1, _⟩ := Has.of_own hown
    clear hown
    replace hroom := (hroom.below hbn).more hbn.size
    replace hin := (hin.below hbn).more hbn.size
    replace hr := (hr.below hbn).more hbn.size
    replace h_x1 := (h_x1.below hbn).more hbn.size
    replace h_y1 := (h_y1.below hbn).more hbn.size
    replace hb := hb.trans (hbn.mono hb.size)
    clear hbn
    go_wp2_with fail
    refine (ownBytes_any A len cap _ l w5 hr HA.out.2.2.2 (by omega) (Nat.le_refl _)).mono ?_
    rintro e w6 ⟨⟨v6, rfl, hown⟩, hbn⟩
    go_wp2_with fail
    refine (refUint_any v w6 hv0 hv1).mono ?_
    rintro e w7 ⟨⟨v7, rfl, howr⟩, hbr⟩
    rw [← HE.out] at howr
    obtain ⟨A_r, c_r, rfl, h_r, _⟩ := Has.of_own howr
    have m_r := of_own_none howr
    clear howr
    replace hown := own_below hown hbr
    replace hbn := hbn.trans (hbr.mono hbn.size)
    go_wp2_with (at_builtin; refine wpList_wanted (by exact rfl) ?_; refine wpList_app_has _ rfl _ _ 22 rfl w5.heap.size 5 i5 (.int .u8 0) 1 tyBs hi5 hz0 hz1 hz2 rfl _ _ _ (by exact rfl) hown A_r E.length c_r _ (E.map bv) (by exact rfl) m_r h_r (one_bytes _) (by unfold maxLen; omega) (by omega) hbn (Nat.le_refl _) ?_; intro v8 w8 howa hba _; rw [map_append_bv] at howa; obtain ⟨A_a, c_a, rfl, h_a, _⟩ := Has.of_own howa)
    clear hown h_r howa hbr hbn
    replace hroom := (hroom.below hba).more hba.size
    replace hin := (hin.below hba).more hba.size
    replace hr := (hr.below hba).more hba.size
    replace h_x1 := (h_x1.below hba).more hba.size
    replace h_y1 := (h_y1.below hba).more hba.size
    replace h_z1 := (h_z1.below hba).more hba.size
    replace hb := hb.trans (hba.mono hb.size)
    clear hba
    refine (bytes_any _ _ _ _ _ _ _ _ _ w8 h_x1 h_a).mono ?_
    rintro e w' ⟨rfl, rfl⟩
    rw [eqL_refl]
    clear h_x1 h_a
    go_wp2_with fail
    refine (ownBytes_any A len cap _ l w8 hr HA.out.2.2.2 (by omega) (Nat.le_refl _)).mono ?_
    rintro e w9 ⟨⟨v9, rfl, hown⟩, hbn⟩
    go_wp2_with fail
    refine (refText_any s w9 (by omega)).mono ?_
    rintro e w10 ⟨⟨v10, rfl, howr⟩, hbr⟩
    rw [← HT.out] at howr
    obtain ⟨A_r, c_r, rfl, h_r, _⟩ := Has.of_own howr
    have m_r := of_own_none howr
    clear howr
    replace hown := own_below hown hbr
    replace hbn := hbn.trans (hbr.mono hbn.size)
    go_wp2_with (at_builtin; refine wpList_wanted (by exact rfl) ?_; refine wpList_app_has _ rfl _ _ 22 rfl w8.heap.size 5 i5 (.int .u8 0) 1 tyBs hi5 hz0 hz1 hz2 rfl _ _ _ (by exact rfl) hown A_r T.length c_r _ (T.map bv) (by exact rfl) m_r h_r (one_bytes _) (by unfold maxLen; omega) (by omega) hbn (Nat.le_refl _) ?_; intro v11 w11 howa hba _; rw [map_append_bv] at howa; obtain ⟨A_a, c_a, rfl, h_a, _⟩ := Has.of_own howa)
    clear hown h_r howa hbr hbn
    replace hroom := (hroom.below hba).more hba.size
    replace hin := (hin.below hba).more hba.size
    replace hr := (hr.below hba).more hba.size
    replace h_y1 := (h_y1.below hba).more hba.size
    replace h_z1 := (h_z1.below hba).more hba.size
    replace hb := hb.trans (hba.mono hb.size)
    clear hba
    refine (bytes_any _ _ _ _ _ _ _ _ _ w11 h_y1 h_a).mono ?_
    rintro e w' ⟨rfl, rfl⟩
    rw [eqL_refl]
    clear h_y1 h_a
    go_wp2_with fail
    refine (ownBytes_any A len cap _ l w11 hr HA.out.2.2.2 (by omega) (Nat.le_refl _)).mono ?_
    rintro e w12 ⟨⟨v12, rfl, hown⟩, hbn⟩
    go_wp2_with fail
    refine (refFixed_any x w12 hx0 hx1).mono ?_
    rintro e w13 ⟨⟨g_r, rfl, h_r⟩, hbr⟩
    rw [← HX.out] at h_r
    replace hown := own_below hown hbr
    replace hbn := hbn.trans (hbr.mono hbn.size)
    go_wp2_with (at_builtin; refine wpList_wanted (by exact rfl) ?_; refine wpList_app_has _ rfl _ _ 22 rfl w11.heap.size 5 i5 (.int .u8 0) 1 tyBs hi5 hz0 hz1 hz2 rfl _ _ _ (by exact rfl) hown _ 4 4 _ (X.map bv) (by exact rfl) (by intro e; cases e) h_r (one_bytes _) (by unfold maxLen; omega) (by omega) hbn (Nat.le_refl _) ?_; intro v14 w14 howa hba _; rw [map_append_bv] at howa; obtain ⟨A_a, c_a, rfl, h_a, _⟩ := Has.of_own howa)
    clear hown h_r howa hbr hbn
    replace hroom := (hroom.below hba).more hba.size
    replace hin := (hin.below hba).more hba.size
    replace hr := (hr.below hba).more hba.size
    replace h_z1 := (h_z1.below hba).more hba.size
    replace hb := hb.trans (hba.mono hb.size)
    clear hba
    refine (bytes_any _ _ _ _ _ _ _ _ _ w14 h_z1 h_a).mono ?_
    rintro e w' ⟨rfl, rfl⟩
    rw [eqL_refl]
    clear h_z1 h_a
    go_wp2
    go_loop [12] (fun i => ∃ k : Nat, len ≤ k ∧ k ≤ len + 11 ∧ i = .int .i64 k) (fun i => len + 11 - (intOf i).toNat)
    case atStart => exact ⟨len, Nat.le_refl _, by omega, rfl⟩
    case round =>
      obtain ⟨k, hk1, hk2, rfl⟩ := hrel
      by_cases hlt : k < len + 11
      · obtain ⟨b, off, he, _, hc⟩ := hroom.at_ hlt
        injection he with he
        injection he with he1 he2 _
        subst he1 he2
        rw [seven_at l k (by rw [HL.out]; exact hk1), Nat.zero_add] at hc
        have hlt' : (k : Int) < (len : Int) + 11 := by omega
        go_wp2
        go_round
        case rel => exact ⟨k + 1, by omega, by omega, by go_num⟩
        case measure => simp [intOf]; omega
      · have hlt' : ¬ (k : Int) < (len : Int) + 11 := by omega
        go_wp2_with fail
        refine (bytes_any _ _ _ _ _ _ _ _ _ w14 hin hr).mono ?_
        rintro e w' ⟨rfl, rfl⟩
        rw [eqL_refl]
        go_wp2_with fail
        refine (awake3_any _).mono ?_
        rintro e wl ⟨rfl, hbl⟩
        go_wp2
        go_ret
        exact ⟨rfl, hb.trans (hbl.mono hb.size)⟩
  · by_cases hlen : len ≤ 2000
    · have hlen' : ¬ 2000 < (len : Int) := by omega
      have hsl' : 5000 < (s.size : Int) := by omega
      go_enter Try.func3, Try.ntmps3
      go_wp2_with fail
      refine (awake3_any _).mono ?_
      rintro e w2 ⟨rfl, hb2⟩
      go_wp2
      go_ret
      exact ⟨rfl, hb2⟩
    · have hlen' : 2000 < (len : Int) := by omega
      go_enter Try.func3, Try.ntmps3
      go_wp2_with fail
      refine (awake3_any _).mono ?_
      rintro e w2 ⟨rfl, hb2⟩
      go_wp2
      go_ret
      exact ⟨rfl, hb2⟩

end Go.Proofs.Ytealjcpgcghfpaa
