/-
  Contract of Parse of the reference of layer 17.
-/
import Derived.Test.YtpopkeidpohdiaaQdB
import Derived.Test.YtpopkeidpohdiaaQdR
namespace Go.Proofs.Ytpopkeidpohdiaa
open Go.RowKit

set_option maxRecDepth 20000 in
set_option maxHeartbeats 4000000 in
theorem refParse_any17 (s : ByteArray) (i : Int) (h0 : -9223372036854775808 ≤ i) (h1 : i ≤ 9223372036854775807) (hs : s.size ≤ 1000000000) (w : World) :
    Calls Try.prog 32 #[.string s, .int .i64 i] w (QRes s i w) := by
  by_cases hi : i < 0
  · have HE := Lib.hid (qpar_range s i (.inl hi))
    go_enter Try.func32, Try.ntmps32
    go_wp2
    go_ret3
    exact qres_of HE.out rfl (Below.refl _ _)
  by_cases hf : (s.size : Int) < i
  · have HE := Lib.hid (qpar_range s i (.inr hf))
    go_enter Try.func32, Try.ntmps32
    go_wp2
    go_ret3
    exact qres_of HE.out rfl (Below.refl _ _)
  obtain ⟨k0, rfl⟩ : ∃ k0 : Nat, i = (k0 : Int) := ⟨i.toNat, by omega⟩
  have d1 : decide ((k0 : Int) < 0) = false := decide_eq_false hi
  have d2 : decide (s.size < k0) = false := decide_eq_false (by omega)
  have n2 : ¬ s.size < k0 := by omega
  clear hf
  by_cases hl : k0 < s.size
  · have e1 : ((k0 : Int) == (s.size : Int)) = false := by simp; omega
    by_cases hq : s[k0] = 34
    · have e2 : ((s[k0].toNat : Int) == 34) = true := by rw [hq]; rfl
      have e3 : ((s[k0].toNat : Int) != 34) = false := by rw [bne, e2]; rfl
      have HR := qpar_some s k0 hl hq
      obtain ⟨R, hR⟩ : ∃ R, qpar s (k0 : Int) = R := ⟨_, rfl⟩
      have HQ := Lib.hid hR
      rw [hR] at HR
      have HR := Lib.hid HR
      clear hR hq
      have hkw : wrap64 ((k0 : Int) + 1) = (k0 : Int) + 1 := by unfold wrap64; omega
      obtain ⟨i5, hi5, hy0, hy1, hy2⟩ := info_parts infoU8
      go_enter Try.func32, Try.ntmps32
      go_wp2
      go_loopw [1, 7] (fun i v wr => ∃ (k : Nat) (acc : List UInt8), k ≤ s.size ∧ i = .int .i64 k ∧ Hid (acc.length ≤ k) ∧ Hid (wr.ownsRow w.heap.size 5 1 v acc.length (acc.map bv)) ∧ Hid (Below w.heap.size w wr) ∧ Hid (R = pq false ((ls s).drop k) acc k)) (fun i _ _ => s.size - (RowKit.intOf i).toNat)
      case atStart => exact ⟨k0 + 1, [], hl, by go_num, Lib.hid (Nat.zero_le _), Lib.hid (World.ownsRow_nil _ _ _ _), Lib.hid (Below.refl _ _), HR⟩
      case round =>
        obtain ⟨k, acc, hk, rfl, HA, HO, HW, HP⟩ := hrel
        have hkb : (k : Int) ≤ 1000000000 := by omega
        have hacc : acc.length ≤ 1000000000 := by have := HA.out; omega
        by_cases hlt : k < s.size
        · have hd := drop_ls_cons s k hlt
          by_cases h34 : s[k] = 34
          · have q1 : ((s[k].toNat : Int) == 34) = true := by rw [h34]; rfl
            have HE : Hid (qpar s (k0 : Int) = (acc, k + 1, 0)) := by
              show _ = _
              rw [HQ.out, HP.out, hd, h34, pq_quote]
            have hcv := str_owned wr _ _ _ acc HO.out
            clear hd h34
            go_wp2
            go_ret3
            refine qres_of HE.out ?_ HW.out
            rfl
          · have q1 : ((s[k].toNat : Int) == 34) = false := byte_u8 h34
            by_cases h92 : s[k] = 92
            · have q2 : ((s[k].toNat : Int) == 92) = true := by rw [h92]; rfl
              have HN : Hid (R = pq true ((ls s).drop (k + 1)) acc (k + 1)) := by
                show _ = _
                rw [HP.out, hd, h92, pq_esc]
              clear hd h34 h92
              have hkw2 : wrap64 ((k : Int) + 1) = (k : Int) + 1 := by unfold wrap64; omega
              by_cases hlt2 : k + 1 < s.size
              · have t1 : ((k : Int) + 1 == (s.size : Int)) = false := by simp; omega
                have hkw3 : wrap64 ((k : Int) + 1 + 1) = (k : Int) + 1 + 1 := by unfold wrap64; omega
                have hd := drop_ls_cons s (k + 1) hlt2
                cases hin : inU s[k + 1] with
                | false =>
                  have hin' : inV (s[k + 1].toNat : Int) = false := hin
                  have HE : Hid (qpar s (k0 : Int) = ([], 0, 4)) := by
                    show _ = _
                    rw [HQ.out, HN.out, hd, pq_bad _ _ _ _ _ hin]
                  clear hd hin
                  go_wp2_with (go_at_call 38; refine (refText_any17 _ _).mono ?_; rintro e w' ⟨rfl, rfl⟩)
                  go_ret3
                  exact qres_of HE.out rfl HW.out
                | true =>
                  have hin' : inV (s[k + 1].toNat : Int) = true := hin
                  have HN2 : Hid (R = pq false ((ls s).drop (k + 1 + 1)) (acc ++ [s[k + 1]]) (k + 1 + 1)) := by
                    show _ = _
                    rw [HN.out, hd, pq_put _ _ _ _ _ hin (.inl rfl)]
                  clear hd hin
                  go_wp2_with (first | (go_at_call 38; refine (refText_any17 _ _).mono ?_; rintro e w' ⟨rfl, rfl⟩) | (at_builtin; refine wpList_app_one _ rfl _ _ 57 rfl w.heap.size 5 i5 (.int .u8 0) 1 tyBs hi5 hy0 hy1 hy2 rfl _ (by exact rfl) _ _ _ (by exact rfl) HO.out (by exact rfl) (by unfold maxLen; omega) (by omega) HW.out (Nat.le_refl _) ?_; intro v' w' hown' hb' _))
                  go_roundw
                  case rel => exact ⟨k + 1 + 1, acc ++ [s[k + 1]], by omega, by go_num, Lib.hid (by have := HA.out; simp; omega), Lib.hid (by simpa [bv] using hown'), Lib.hid hb', HN2⟩
                  case measure => simp [RowKit.intOf]; omega
              · have t1 : ((k : Int) + 1 == (s.size : Int)) = true := by simp; omega
                have HE : Hid (qpar s (k0 : Int) = ([], 0, 5)) := by
                  show _ = _
                  rw [HQ.out, HN.out, List.drop_eq_nil_of_le (by rw [ls_length]; omega), pq_end]
                go_wp2
                go_ret3
                exact qres_of HE.out rfl HW.out
            · have q2 : ((s[k].toNat : Int) == 92) = false := byte_u8 h92
              cases hin : inU s[k] with
              | false =>
                have hin' : inV (s[k].toNat : Int) = false := hin
                have HE : Hid (qpar s (k0 : Int) = ([], 0, 4)) := by
                  show _ = _
                  rw [HQ.out, HP.out, hd, pq_bad _ _ _ _ _ hin]
                clear hd hin h34 h92
                go_wp2_with (go_at_call 38; refine (refText_any17 _ _).mono ?_; rintro e w' ⟨rfl, rfl⟩)
                go_ret3
                exact qres_of HE.out rfl HW.out
              | true =>
                have hin' : inV (s[k].toNat : Int) = true := hin
                have HN2 : Hid (R = pq false ((ls s).drop (k + 1)) (acc ++ [s[k]]) (k + 1)) := by
                  show _ = _
                  rw [HP.out, hd, pq_put _ _ _ _ _ hin (.inr ⟨h34, h92⟩)]
                clear hd hin h34 h92
                go_wp2_with (first | (go_at_call 38; refine (refText_any17 _ _).mono ?_; rintro e w' ⟨rfl, rfl⟩) | (at_builtin; refine wpList_app_one _ rfl _ _ 57 rfl w.heap.size 5 i5 (.int .u8 0) 1 tyBs hi5 hy0 hy1 hy2 rfl _ (by exact rfl) _ _ _ (by exact rfl) HO.out (by exact rfl) (by unfold maxLen; omega) (by omega) HW.out (Nat.le_refl _) ?_; intro v' w' hown' hb' _))
                go_roundw
                case rel => exact ⟨k + 1, acc ++ [s[k]], by omega, by go_num, Lib.hid (by have := HA.out; simp; omega), Lib.hid (by simpa [bv] using hown'), Lib.hid hb', HN2⟩
                case measure => simp [RowKit.intOf]; omega
        · have HE : Hid (qpar s (k0 : Int) = ([], 0, 5)) := by
            show _ = _
            rw [HQ.out, HP.out, List.drop_eq_nil_of_le (by rw [ls_length]; omega), pq_end]
          go_wp2
          go_ret3
          exact qres_of HE.out rfl HW.out
    · have e2 : ((s[k0].toNat : Int) == 34) = false := byte_u8 hq
      have e3 : ((s[k0].toNat : Int) != 34) = true := by rw [bne, e2]; rfl
      have HE := Lib.hid (qpar_none s k0 hl hq)
      clear hq
      go_enter Try.func32, Try.ntmps32
      go_wp2
      go_ret3
      exact qres_of HE.out rfl (Below.refl _ _)
  · have e1 : ((k0 : Int) == (s.size : Int)) = true := by simp; omega
    have HE := Lib.hid (qpar_end s k0 (by omega))
    go_enter Try.func32, Try.ntmps32
    go_wp2
    go_ret3
    exact qres_of HE.out rfl (Below.refl _ _)

end Go.Proofs.Ytpopkeidpohdiaa
