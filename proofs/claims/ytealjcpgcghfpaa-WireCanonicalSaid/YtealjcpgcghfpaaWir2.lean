/-
  Contracts of AppendFixed and of the reference's encoders (layer 3).
-/
import Derived.Test.YtealjcpgcghfpaaWir1
namespace Go.Proofs.Ytealjcpgcghfpaa
open Go.RowKit

theorem fixE_map (x : Int) (h0 : 0 ≤ x) (h1 : x < 4294967296) : (fixE x.toNat).map bv = [.int .u8 (x % 256), .int .u8 (x / 256 % 256), .int .u8 (x / 65536 % 256), .int .u8 (x / 16777216)] := by
  simp only [fixE, List.map_cons, List.map_nil, bv_eq]
  rw [ofNat_toNat (by omega), ofNat_toNat (by omega), ofNat_toNat (by omega), ofNat_toNat (by omega)]
  rw [show ((x.toNat % 256 : Nat) : Int) = x % 256 by omega, show ((x.toNat / 256 % 256 : Nat) : Int) = x / 256 % 256 by omega, show ((x.toNat / 65536 % 256 : Nat) : Int) = x / 65536 % 256 by omega, show ((x.toNat / 16777216 % 256 : Nat) : Int) = x / 16777216 by omega]
theorem fixE_length (v : Nat) : (fixE v).length = 4 := rfl

set_option maxHeartbeats 1000000 in
theorem appFixed_any (A : Option Addr) (len cap B : Nat) (l : List UInt8) (x : Int) (w : World) (hA : Has w B A len (l.map bv)) (hcap : A = none → cap = 0) (hlen : len ≤ 100000000) (hB : B ≤ w.heap.size) (h0 : 0 ≤ x) (h1 : x < 4294967296) :
    Calls Try.prog 12 #[.slice A len cap, .int .u32 x] w fun e w' => (∃ v, e = .returned v ∧ w'.ownsRow w.heap.size 5 1 v (len + 4) ((l ++ fixE x.toNat).map bv)) ∧ Below w.heap.size w w' := by
  obtain ⟨i5, hi5, hz0, hz1, hz2⟩ := info_parts infoU8
  have HF := Lib.hid (fixE_map x h0 h1)
  obtain ⟨v0, hv0⟩ : ∃ v, x % 256 = v := ⟨_, rfl⟩
  obtain ⟨v1, hv1⟩ : ∃ v, x / 256 % 256 = v := ⟨_, rfl⟩
  obtain ⟨v2, hv2⟩ : ∃ v, x / 65536 % 256 = v := ⟨_, rfl⟩
  obtain ⟨v3, hv3⟩ : ∃ v, x / 16777216 = v := ⟨_, rfl⟩
  rw [hv0, hv1, hv2, hv3] at HF
  go_enter Try.func12, Try.ntmps12
  go_wp2_with fail
  refine (room_any A len cap B l 4 _ hA hcap (by omega) hB (by omega) (by omega)).mono ?_
  rintro e w1 ⟨⟨v, rfl, hown⟩, hb⟩
  clear hA
  have hh := Has.laid w1 5 #[.int .u8 v0, .int .u8 v1, .int .u8 v2, .int .u8 v3] (0, 0) 4 _ rfl rfl
  have hown1 := hown.alloc (.cells #[.int .u8 v0, .int .u8 v1, .int .u8 v2, .int .u8 v3] 5)
  have hb1 := hb.alloc hb.size (.cells #[.int .u8 v0, .int .u8 v1, .int .u8 v2, .int .u8 v3] 5)
  clear hown hb
  go_wp2_with (at_builtin; refine wpList_app_has _ rfl _ _ 22 rfl w.heap.size 5 i5 (.int .u8 0) 1 tyBs hi5 hz0 hz1 hz2 rfl _ _ _ (by exact rfl) hown1 _ 4 4 _ _ (by exact rfl) (by intro e; cases e) hh (by simp [Value.oneCell']) (by unfold maxLen; omega) (by omega) hb1 (Nat.le_refl _) ?_; intro v5 w5 hown5 hb5 _)
  go_ret
  refine ⟨⟨v5, rfl, ?_⟩, hb5⟩
  rw [List.map_append, HF.out]
  exact hown5

set_option maxHeartbeats 1000000 in
theorem refFixed_any (x : Int) (w : World) (h0 : 0 ≤ x) (h1 : x < 4294967296) : Calls Try.prog 16 #[.int .u32 x] w fun e w' => (∃ g, e = .returned (.slice (some ⟨g, 0, none⟩) 4 4) ∧ Has w' w'.heap.size (some ⟨g, 0, none⟩) 4 ((fixE x.toNat).map bv)) ∧ Below w.heap.size w w' := by
  have HF := Lib.hid (fixE_map x h0 h1)
  obtain ⟨v0, hv0⟩ : ∃ v, x % 256 = v := ⟨_, rfl⟩
  obtain ⟨v1, hv1⟩ : ∃ v, x / 256 % 256 = v := ⟨_, rfl⟩
  obtain ⟨v2, hv2⟩ : ∃ v, x / 65536 % 256 = v := ⟨_, rfl⟩
  obtain ⟨v3, hv3⟩ : ∃ v, x / 16777216 = v := ⟨_, rfl⟩
  rw [hv0, hv1, hv2, hv3] at HF
  go_enter Try.func16, Try.ntmps16
  go_wp2
  go_ret
  refine ⟨⟨w.heap.size, rfl, ?_⟩, (Below.refl _ _).alloc (Nat.le_refl _) _⟩
  rw [HF.out]
  have hh := Has.laid w 5 #[.int .u8 v0, .int .u8 v1, .int .u8 v2, .int .u8 v3] (0, 0) 4 _ rfl rfl
  exact hh.more (by show w.heap.size + 1 ≤ (w.heap.push _).size; simp)

set_option maxHeartbeats 1000000 in
theorem refUint_any (x : Int) (w : World) (h0 : 0 ≤ x) (h1 : x < 18446744073709551616) :
    Calls Try.prog 14 #[.int .u64 x] w fun e w' => (∃ v', e = .returned v' ∧ w'.ownsRow w.heap.size 5 1 v' (enc x.toNat).length ((enc x.toNat).map bv)) ∧ Below w.heap.size w w' := by
  obtain ⟨i5, hi5, hz0, hz1, hz2⟩ := info_parts infoU8
  obtain ⟨E, hE⟩ : ∃ E, E = enc x.toNat := ⟨_, rfl⟩
  rw [← hE]
  have HE := Lib.hid hE
  clear hE
  go_enter Try.func14, Try.ntmps14
  go_wp2
  go_loopw [3, 0] (fun o v wr => ∃ (f : Nat) (z : Int) (acc : List UInt8), f ≤ 9 ∧ acc.length + f = 9 ∧ 0 ≤ z ∧ z < 18446744073709551616 ∧ v = .int .u64 z ∧ Hid (z.toNat < 128 ^ (f + 1) ∧ E = acc ++ encF (f + 1) z.toNat) ∧
      wr.ownsRow w.heap.size 5 1 o acc.length (acc.map bv) ∧ Below w.heap.size w wr) (fun _ v _ => (intOf v).toNat)
  case atStart => exact ⟨9, x, [], Nat.le_refl _, rfl, h0, h1, rfl, by refine Lib.hid ⟨Nat.lt_of_lt_of_le (show x.toNat < 18446744073709551616 by omega) (by decide), ?_⟩; rw [HE.out]; simp [enc], World.ownsRow_nil _ _ _ _, Below.refl _ _⟩
  case round =>
    obtain ⟨f, z, acc, hf, haf, hz, hu, rfl, HR, hown2, hb⟩ := hrel
    have hlb : acc.length ≤ 9 := by omega
    have HAF := Lib.hid haf
    clear haf
    by_cases hge : 128 ≤ z
    · match f, hf, HR, HAF with
      | 0, _, HR, _ => exact absurd HR.out.1 (by simp; omega)
      | f + 1, hf, HR, HAF =>
        obtain ⟨y, hy⟩ : ∃ y, y = UInt8.ofNat (z.toNat % 128 + 128) := ⟨_, rfl⟩
        obtain ⟨zr, hzr⟩ : ∃ zr : Int, z % 128 = zr := ⟨_, rfl⟩
        obtain ⟨zq, hzq⟩ : ∃ zq : Int, z / 128 = zq := ⟨_, rfl⟩
        have hr0 : 0 ≤ zr := by omega
        have hr1 : zr < 128 := by omega
        have hq0 : 0 ≤ zq := by omega
        have hq1 : zq < 18446744073709551616 := by omega
        have hq2 : zq < z := by omega
        have HN : Hid (zq.toNat < 128 ^ (f + 1) ∧ E = (acc ++ [y]) ++ encF (f + 1) zq.toNat) := by
          have hp := HR.out.1
          rw [Nat.pow_succ] at hp
          have hq : zq.toNat = z.toNat / 128 := by omega
          refine Lib.hid ⟨by omega, ?_⟩
          rw [HR.out.2, encF_more _ (by omega), hy, hq]
          simp
        have HYV := Lib.hid (show zr + 128 = (y.toNat : Int) by rw [hy, ofNat_toNat (by omega)]; omega)
        clear hy HR
        go_wp2_with (at_builtin; refine wpList_app_one _ rfl _ _ 22 rfl w.heap.size 5 i5 (.int .u8 0) 1 tyBs hi5 hz0 hz1 hz2 rfl _ (by exact rfl) _ _ _ (by exact rfl) hown2 (by exact rfl) (by unfold maxLen; omega) (by omega) hb (Nat.le_refl _) ?_; intro v' w' hown' hb' _)
        go_roundw
        case rel =>
          refine ⟨f, zq, acc ++ [y], by omega, by have := HAF.out; simp; omega, hq0, hq1, (by first | rfl | rw [hzq]), HN, ?_, hb'⟩
          have hs := snoc_bytes [] acc y (zr + 128) HYV.out
          rw [List.nil_append, List.nil_append] at hs
          rw [hs] at hown'
          simpa using hown'
        case measure => simp [intOf]; omega
    · have hlt : z < 128 := by omega
      obtain ⟨y, hy⟩ : ∃ y, y = UInt8.ofNat z.toNat := ⟨_, rfl⟩
      have HZ := Lib.hid (show z = (y.toNat : Int) by rw [hy, byteOf, show ((z.toNat : Nat) : Int) = z by omega]; omega)
      have HN := Lib.hid (show E = acc ++ [y] by rw [HR.out.2, encF_last _ (by omega), hy])
      clear hy
      go_wp2_with (at_builtin; refine wpList_app_one _ rfl _ _ 22 rfl w.heap.size 5 i5 (.int .u8 0) 1 tyBs hi5 hz0 hz1 hz2 rfl _ (by exact rfl) _ _ _ (by exact rfl) hown2 (by exact rfl) (by unfold maxLen; omega) (by omega) hb (Nat.le_refl _) ?_; intro v' w' hown' hb' _)
      go_ret
      refine ⟨⟨v', rfl, ?_⟩, hb'⟩
      have hs := snoc_bytes [] acc y z HZ.out
      rw [List.nil_append, List.nil_append] at hs
      rw [hs] at hown'
      rw [HN.out]
      simpa using hown'

set_option maxHeartbeats 400000 in
theorem refText_any (s : ByteArray) (w : World) (hs : s.size ≤ 100000000) :
    Calls Try.prog 15 #[.string s] w fun e w' => (∃ v, e = .returned v ∧ w'.ownsRow w.heap.size 5 1 v (encT (ls s)).length ((encT (ls s)).map bv)) ∧ Below w.heap.size w w' := by
  obtain ⟨i5, hi5, hz0, hz1, hz2⟩ := info_parts infoU8
  obtain ⟨E, hE⟩ : ∃ E, E = enc s.size := ⟨_, rfl⟩
  have hEl : E.length ≤ 10 := by rw [hE]; exact enc_len _
  have HE := Lib.hid (show encT (ls s) = E ++ ls s by unfold encT; rw [ls_length, hE])
  have HE2 := Lib.hid (show enc ((s.size : Int).toNat) = E by rw [Int.toNat_natCast, hE])
  clear hE
  go_enter Try.func15, Try.ntmps15
  go_wp2_with fail
  refine (refUint_any (s.size : Int) _ (by omega) (by omega)).mono ?_
  rintro e w2 ⟨⟨v2, rfl, hown2⟩, hb2⟩
  rw [HE2.out] at hown2
  go_wp2_with (at_builtin; refine Lib.wpList_append_own_string _ rfl _ _ 22 9 rfl w.heap.size 5 i5 tyBs tyStr hi5 hz0 hz1 hz2 _ _ _ (by exact rfl) hown2 s (by exact rfl) (by unfold maxLen; omega) (by omega) hb2.size ?_; intro v3 w3 hown3 hg3 _; have hb3 := owns_below hown2 hb2 hb2.size hg3)
  go_ret
  refine ⟨⟨v3, rfl, ?_⟩, hb3⟩
  rw [strCells_bv, ← List.map_append] at hown3
  rw [HE.out, List.length_append, ls_length]
  exact hown3

end Go.Proofs.Ytealjcpgcghfpaa
