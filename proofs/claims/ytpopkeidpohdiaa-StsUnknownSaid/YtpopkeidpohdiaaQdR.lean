/-
  Contracts of Parse and Quote of the reference of layer 17.
-/
import Derived.Test.YtpopkeidpohdiaaQdT
import Derived.Test.YtpopkeidpohdiaaTyB
namespace Go.Proofs.Ytpopkeidpohdiaa
open Go.RowKit

set_option maxHeartbeats 1000000 in
theorem refValue_any17 (v : ByteArray) (hs : v.size ≤ 1000000000) (w : World) :
    Calls Try.prog 29 #[.string v] w fun e w' => e = .returned (.bool ((ls v).all inU)) ∧ w = w' := by
  go_enter Try.func29, Try.ntmps29
  go_wp2
  go_loop [3] (fun i => ∃ k : Nat, k ≤ v.size ∧ i = .int .i64 k ∧ Hid (((ls v).take k).all inU = true)) (fun i => v.size - (intOf i).toNat)
  case atStart => exact ⟨0, Nat.zero_le _, rfl, Lib.hid rfl⟩
  case round =>
    obtain ⟨k, hk, rfl, HA⟩ := hrel
    by_cases hlt : k < v.size
    · cases hin : inU v[k] with
      | false =>
        have hin' : inV (v[k].toNat : Int) = false := hin
        have HE : Hid ((ls v).all inU = false) := by
          show _ = _
          rw [List.all_eq_false]
          exact ⟨v[k], List.mem_of_getElem? (ls_get v k hlt), by rw [hin]; decide⟩
        clear hin
        go_wp2_with (go_at_call 38; refine (refText_any17 _ _).mono ?_; rintro e w' ⟨rfl, rfl⟩)
        go_ret
        exact ⟨ret_bool HE.out.symm, rfl⟩
      | true =>
        have hin' : inV (v[k].toNat : Int) = true := hin
        have HN := Lib.hid (take_all_succ inU v k hlt HA.out hin)
        clear hin
        go_wp2_with (go_at_call 38; refine (refText_any17 _ _).mono ?_; rintro e w' ⟨rfl, rfl⟩)
        go_round
        case rel => exact ⟨k + 1, by omega, by go_num, HN⟩
        case measure => simp [intOf]; omega
    · have HE : Hid ((ls v).all inU = true) := by
        have := HA.out
        rwa [List.take_of_length_le (by rw [ls_length]; omega)] at this
      go_wp2
      go_ret
      exact ⟨ret_bool HE.out.symm, rfl⟩

theorem refQ_ret {v : ByteArray} {e : Ending} {t : ByteArray} {r : Int} (h : quoS v = t ∧ quoE v = r)
    (he : e = .returned (.tuple #[.string t, .int .i64 r])) : e = .returned (.tuple #[.string (quoS v), .int .i64 (quoE v)]) := by
  rw [h.1, h.2]
  exact he
theorem sub_one17 (v : ByteArray) (k : Nat) (h : k < v.size) : v.extract k (k + 1) = bs [v[k]] := by
  apply ls_inj
  rw [ls_extract, show k + 1 - k = 1 by omega, drop_ls_cons v k h, ls_bs]
  rfl

set_option maxHeartbeats 4000000 in
theorem refQuote_any17 (v : ByteArray) (hs : v.size ≤ 1000000000) (w : World) :
    Calls Try.prog 20 #[.string v] w fun e w' => e = .returned (.tuple #[.string (quoS v), .int .i64 (quoE v)]) ∧ w = w' := by
  have c1 := fun W => refValue_any17 v hs W
  cases ha : (ls v).all inU with
  | false =>
    have HE := Lib.hid (quo_no v ha)
    rw [ha] at c1
    clear ha
    go_enter Try.func20, Try.ntmps20
    go_wp2_with fail
    refine (c1 _).mono ?_
    rintro e w' ⟨rfl, rfl⟩
    go_wp2
    go_ret2
    exact ⟨refQ_ret HE.out rfl, rfl⟩
  | true =>
    have HE := Lib.hid (quo_yes v ha)
    rw [ha] at c1
    clear ha
    go_enter Try.func20, Try.ntmps20
    go_wp2_with fail
    refine (c1 _).mono ?_
    rintro e w' ⟨rfl, rfl⟩
    go_wp2
    go_loop [4, 5] (fun t i => ∃ (k : Nat) (T : ByteArray), k ≤ v.size ∧ t = .string T ∧ i = .int .i64 k ∧ Hid (T = bs (34 :: escL ((ls v).take k)))) (fun _ i => v.size - (intOf i).toNat)
    case atStart => exact ⟨0, _, Nat.zero_le _, rfl, rfl, Lib.hid rfl⟩
    case round =>
      obtain ⟨k, T, hk, rfl, rfl, HT⟩ := hrel
      have hkb : (k : Int) ≤ 1000000000 := by omega
      have hTs : T.size ≤ 2 * k + 1 := by
        have := escL_len ((ls v).take k)
        rw [HT.out, bs_size, List.length_cons]
        rw [List.length_take, ls_length] at this
        omega
      have n1 : ¬ 9223372036854775807 < T.size + 1 := by omega
      have n2 : ¬ 9223372036854775807 < T.size + 1 + 1 := by omega
      by_cases hlt : k < v.size
      · have hx := sub_one17 v k hlt
        have HX := Lib.hid hx
        have nx : (v.extract k (k + 1)).size = 1 := by rw [hx]; rfl
        have e92 : (ByteArray.mk #[92]) = bs [92] := rfl
        have he : escL ((ls v).take (k + 1)) = escL ((ls v).take k) ++ esc1 v[k] := by
          rw [take_ls_succ v k hlt, escL_snoc]
        by_cases hq : v[k] = 34 ∨ v[k] = 92
        · have HL : Hid (T ++ ByteArray.mk #[92] ++ v.extract k (k + 1) = bs (34 :: escL ((ls v).take (k + 1)))) := by
            show _ = _
            rw [HT.out, he, esc1_yes _ hq, hx]
            apply ls_inj
            rw [ls_append, ls_append]
            simp [ls_bs, e92]
          have q1 : ((v[k].toNat : Int) == 34) = false → ((v[k].toNat : Int) == 92) = true := by
            intro h
            rcases hq with h1 | h1
            · rw [h1] at h; cases h
            · rw [h1]; rfl
          clear hx he e92 hq hTs
          cases q3 : ((v[k].toNat : Int) == 34) with
          | true =>
            clear q1
            go_wp2
            go_round
            case rel => exact ⟨k + 1, _, by omega, rfl, by go_num, HL⟩
            case measure => simp [intOf]; omega
          | false =>
            have q4 := q1 q3
            clear q1
            go_wp2
            go_round
            case rel => exact ⟨k + 1, _, by omega, rfl, by go_num, HL⟩
            case measure => simp [intOf]; omega
        · have q1 : ((v[k].toNat : Int) == 34) = false := by
            rw [beq_eq_false_iff_ne]
            exact fun e => hq (.inl (UInt8.toNat_inj.1 (by
              have : (34 : UInt8).toNat = 34 := rfl
              omega)))
          have q2 : ((v[k].toNat : Int) == 92) = false := by
            rw [beq_eq_false_iff_ne]
            exact fun e => hq (.inr (UInt8.toNat_inj.1 (by
              have : (92 : UInt8).toNat = 92 := rfl
              omega)))
          have HL : Hid (T ++ v.extract k (k + 1) = bs (34 :: escL ((ls v).take (k + 1)))) := by
            show _ = _
            rw [HT.out, he, esc1_no _ hq, hx]
            apply ls_inj
            rw [ls_append]
            simp [ls_bs]
          clear hx he e92 hq hTs
          go_wp2
          go_round
          case rel => exact ⟨k + 1, _, by omega, rfl, by go_num, HL⟩
          case measure => simp [intOf]; omega
      · obtain rfl : k = v.size := by omega
        have HL : Hid (T ++ ByteArray.mk #[34] = bs (quoL (ls v))) := by
          show _ = _
          rw [HT.out, take_ls_all]
          apply ls_inj
          rw [ls_append]
          rfl
        clear hTs
        go_wp2
        go_ret2
        rw [HL.out]
        exact ⟨refQ_ret HE.out rfl, rfl⟩

end Go.Proofs.Ytpopkeidpohdiaa
