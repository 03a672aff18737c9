/-
  Contract of Parse of package quoted.
-/
import Derived.Test.YtpopkeidpohdiaaDoorQdA
import Derived.Test.YtpopkeidpohdiaaDoorBld
import Derived.Deep.LoopGhost
namespace Go.Proofs.YtpopkeidpohdiaaDoor
open Go.RowKit

def QRes (s : ByteArray) (i : Int) (w : World) (e : Ending) (w' : World) : Prop :=
  e = .returned (.tuple #[.string (bs (qpar s i).1), .int .i64 ((qpar s i).2.1 : Int), .int .i64 (qpar s i).2.2]) ∧ Below w.heap.size w w'
theorem qres_of {s : ByteArray} {i : Int} {w w' : World} {e : Ending} {v : List UInt8} {n : Nat} {r : Int} (h : qpar s i = (v, n, r))
    (he : e = .returned (.tuple #[.string (bs v), .int .i64 (n : Int), .int .i64 r])) (hb : Below w.heap.size w w') : QRes s i w e w' := by
  unfold QRes
  rw [h]
  exact ⟨he, hb⟩

def stI (esc : Bool) : Int := bif esc then 1 else 0
theorem byte_u8 {b c : UInt8} (h : b ≠ c) : ((b.toNat : Int) == (c.toNat : Int)) = false := by
  rw [beq_eq_false_iff_ne]
  exact fun e => h (UInt8.toNat_inj.1 (by omega))

set_option maxRecDepth 20000 in
set_option maxHeartbeats 4000000 in
theorem parse17_any (s : ByteArray) (i : Int) (h0 : -9223372036854775808 ≤ i) (h1 : i ≤ 9223372036854775807) (hs : s.size ≤ 1000000000) (w : World) :
    Calls Tryd.prog 29 #[.string s, .int .i64 i] w (QRes s i w) := by
  by_cases hi : i < 0
  · have HE := Lib.hid (qpar_range s i (.inl hi))
    go_enter Tryd.func29, Tryd.ntmps29
    go_wp2
    go_step3
    go_wp2
    first | go_ret3 | (rw [Exit.noGoto_ret]; go_ret3) | (go_step3; go_wp2; go_ret3)
    exact qres_of HE.out rfl (Below.refl _ _)
  by_cases hf : (s.size : Int) < i
  · have HE := Lib.hid (qpar_range s i (.inr hf))
    go_enter Tryd.func29, Tryd.ntmps29
    go_wp2
    go_step3
    go_wp2
    first | go_ret3 | (rw [Exit.noGoto_ret]; go_ret3) | (go_step3; go_wp2; go_ret3)
    exact qres_of HE.out rfl (Below.refl _ _)
  obtain ⟨k0, rfl⟩ : ∃ k0 : Nat, i = (k0 : Int) := ⟨i.toNat, by omega⟩
  have d1 : decide ((k0 : Int) < 0) = false := decide_eq_false hi
  have d2 : decide (s.size < k0) = false := decide_eq_false (by omega)
  have n2 : ¬ s.size < k0 := by omega
  clear hf
  by_cases hl : k0 < s.size
  · have e1 : ((k0 : Int) == (s.size : Int)) = false := by simp; omega
    by_cases hq : s[k0] = 34
    · have e2 : ((s[k0].toNat : Int) == 34) = true := by rw [hq]; rfl
      have e3 : ((s[k0].toNat : Int) != 34) = false := by rw [bne, e2]; rfl
      have HR := qpar_some s k0 hl hq
      obtain ⟨R, hR⟩ : ∃ R, qpar s (k0 : Int) = R := ⟨_, rfl⟩
      have HQ := Lib.hid hR
      rw [hR] at HR
      have HR := Lib.hid HR
      clear hR hq
      have hkw : wrap64 ((k0 : Int) + 1) = (k0 : Int) + 1 := by unfold wrap64; omega
      go_enter Tryd.func29, Tryd.ntmps29
      go_wp2
      go_step3
      go_wp2
      go_step3
      go_wp2
      have hB0 := bld_new w
      obtain ⟨B, hBz⟩ : ∃ B, w.heap.size = B := ⟨_, rfl⟩
      have HB0 : Hid (Bld w.heap.size w.heap.size [] (w.alloc (.cells #[.pointer none, .slice none 0 0] 66))) := Lib.hid hB0
      clear hB0 hBz B
      go_loopg [8, 9] (s.size - k0) (fun g st i wr => ∃ (esc : Bool) (k : Nat) (acc : List UInt8), k ≤ s.size ∧ g = s.size + 1 - k ∧ st = .int .i64 (stI esc) ∧ i = .int .i64 k ∧ Hid (acc.length ≤ k) ∧ Hid (Bld w.heap.size w.heap.size acc wr) ∧ Hid (Below w.heap.size w wr) ∧ Hid (R = pq esc ((ls s).drop k) acc k))
      case atStart => exact ⟨false, k0 + 1, [], hl, by omega, rfl, by go_num, Lib.hid (Nat.zero_le _), HB0, Lib.hid ((Below.refl _ _).alloc (Nat.le_refl _) _), HR⟩
      case round =>
        obtain ⟨esc, k, acc, hk, hg, rfl, rfl, HA, HB, HW, HP⟩ := hrel
        have HG := Lib.hid hg
        clear hg
        have hkb : (k : Int) ≤ 1000000000 := by omega
        by_cases hlt : k < s.size
        · have t1 : ((k : Int) == (s.size : Int)) = false := by simp; omega
          have hd := drop_ls_cons s k hlt
          cases hin : inU s[k] with
          | false =>
            have hin' : inV (s[k].toNat : Int) = false := hin
            have HE : Hid (qpar s (k0 : Int) = ([], 0, 4)) := by
              show _ = _
              rw [HQ.out, HP.out, hd, pq_bad _ _ _ _ _ hin]
            clear hd hin
            go_wp2_with (go_at_call 37; refine (inValue_any _ _).mono ?_; rintro e w' ⟨rfl, rfl⟩)
            first | go_ret3 | (rw [Exit.noGoto_ret]; go_ret3)
            exact qres_of HE.out rfl HW.out
          | true =>
            have hin' : inV (s[k].toNat : Int) = true := hin
            have z0 : stI false = 0 := rfl
            have z1 : stI true = 1 := rfl
            have hsz : w.heap.size ≤ wr.heap.size := HW.out.size
            have hacc : acc.length ≤ 100000000000 := by have := HA.out; omega
            have put : (esc = true ∨ (s[k] ≠ 34 ∧ s[k] ≠ 92)) → Hid (R = pq false ((ls s).drop (k + 1)) (acc ++ [s[k]]) (k + 1)) := by
              intro h
              show _ = _
              rw [HP.out, hd, pq_put _ _ _ _ _ hin h]
            cases esc with
            | true =>
              have HN := put (.inl rfl)
              clear hd hin put
              go_wp2_with (go_at_call 37; refine (inValue_any _ _).mono ?_; rintro e w' ⟨rfl, rfl⟩)
              refine (wb_any _ _ _ _ _ HB.out hacc hsz).mono ?_
              rintro e w2 ⟨rfl, hB2, hW2⟩
              go_wp2
              go_roundg (s.size - k)
              case rel => exact ⟨false, k + 1, acc ++ [s[k]], by omega, by omega, rfl, by go_num, Lib.hid (by have := HA.out; simp; omega), Lib.hid hB2, Lib.hid (HW.out.trans hW2), HN⟩
              case measure => rw [HG.out]; omega
            | false =>
              by_cases h34 : s[k] = 34
              · have q1 : ((s[k].toNat : Int) == 34) = true := by rw [h34]; rfl
                have HE : Hid (qpar s (k0 : Int) = (acc, k + 1, 0)) := by
                  show _ = _
                  rw [HQ.out, HP.out, hd, h34, pq_quote]
                clear hd hin put h34
                go_wp2_with (go_at_call 37; refine (inValue_any _ _).mono ?_; rintro e w' ⟨rfl, rfl⟩)
                refine (bstr_any _ _ _ _ HB.out hsz).mono ?_
                rintro e w2 ⟨rfl, hW2⟩
                go_wp2
                first | go_ret3 | (rw [Exit.noGoto_ret]; go_ret3)
                refine qres_of HE.out ?_ (HW.out.trans hW2)
                rfl
              · have q1 : ((s[k].toNat : Int) == 34) = false := byte_u8 h34
                by_cases h92 : s[k] = 92
                · have q2 : ((s[k].toNat : Int) == 92) = true := by rw [h92]; rfl
                  have HN : Hid (R = pq true ((ls s).drop (k + 1)) acc (k + 1)) := by
                    show _ = _
                    rw [HP.out, hd, h92, pq_esc]
                  clear hd hin put h34 h92
                  go_wp2_with (go_at_call 37; refine (inValue_any _ _).mono ?_; rintro e w' ⟨rfl, rfl⟩)
                  go_roundg (s.size - k)
                  case rel => exact ⟨true, k + 1, acc, by omega, by omega, rfl, by go_num, Lib.hid (by have := HA.out; omega), HB, HW, HN⟩
                  case measure => rw [HG.out]; omega
                · have q2 : ((s[k].toNat : Int) == 92) = false := byte_u8 h92
                  have HN := put (.inr ⟨h34, h92⟩)
                  clear hd hin put h34 h92
                  go_wp2_with (go_at_call 37; refine (inValue_any _ _).mono ?_; rintro e w' ⟨rfl, rfl⟩)
                  refine (wb_any _ _ _ _ _ HB.out hacc hsz).mono ?_
                  rintro e w2 ⟨rfl, hB2, hW2⟩
                  go_wp2
                  go_roundg (s.size - k)
                  case rel => exact ⟨false, k + 1, acc ++ [s[k]], by omega, by omega, rfl, by go_num, Lib.hid (by have := HA.out; simp; omega), Lib.hid hB2, Lib.hid (HW.out.trans hW2), HN⟩
                  case measure => rw [HG.out]; omega
        · have t1 : ((k : Int) == (s.size : Int)) = true := by simp; omega
          have HE : Hid (qpar s (k0 : Int) = ([], 0, 5)) := by
            show _ = _
            rw [HQ.out, HP.out, List.drop_eq_nil_of_le (by rw [ls_length]; omega), pq_end]
          go_wp2
          first | go_ret3 | (rw [Exit.noGoto_ret]; go_ret3)
          exact qres_of HE.out rfl HW.out
    · have e2 : ((s[k0].toNat : Int) == 34) = false := byte_u8 hq
      have e3 : ((s[k0].toNat : Int) != 34) = true := by rw [bne, e2]; rfl
      have HE := Lib.hid (qpar_none s k0 hl hq)
      clear hq
      go_enter Tryd.func29, Tryd.ntmps29
      go_wp2
      go_step3
      go_wp2
      first | go_ret3 | (rw [Exit.noGoto_ret]; go_ret3) | (go_step3; go_wp2; go_ret3)
      exact qres_of HE.out rfl (Below.refl _ _)
  · have e1 : ((k0 : Int) == (s.size : Int)) = true := by simp; omega
    have HE := Lib.hid (qpar_end s k0 (by omega))
    go_enter Tryd.func29, Tryd.ntmps29
    go_wp2
    go_step3
    go_wp2
    first | go_ret3 | (rw [Exit.noGoto_ret]; go_ret3) | (go_step3; go_wp2; go_ret3)
    exact qres_of HE.out rfl (Below.refl _ _)

end Go.Proofs.YtpopkeidpohdiaaDoor
