/-
  Contract of Quote of package quoted.
-/
import Derived.Test.YtbpgkdhdooaigaaQdB
namespace Go.Proofs.Ytbpgkdhdooaigaa
open Go.RowKit

def URes (v : ByteArray) (w : World) (e : Ending) (w' : World) : Prop :=
  e = .returned (.tuple #[.string (quoS v), .int .i64 (quoE v)]) ∧ Below w.heap.size w w'
theorem ures_of {v : ByteArray} {w w' : World} {e : Ending} {t : ByteArray} {r : Int} (h : quoS v = t ∧ quoE v = r)
    (he : e = .returned (.tuple #[.string t, .int .i64 r])) (hb : Below w.heap.size w w') : URes v w e w' := by
  unfold URes
  rw [h.1, h.2]
  exact ⟨he, hb⟩
theorem esc_next (v : ByteArray) (k : Nat) (h : k < v.size) : escL ((ls v).take (k + 1)) = escL ((ls v).take k) ++ esc1 v[k] := by
  rw [take_ls_succ v k h, escL_snoc]
theorem esc_take_len (v : ByteArray) (k : Nat) (h : k ≤ v.size) : (escL ((ls v).take k)).length ≤ 2 * k := by
  have := escL_len ((ls v).take k)
  rw [List.length_take, ls_length] at this
  omega
theorem all_take_succ17 (v : ByteArray) (k : Nat) (h : k < v.size) (ht : ((ls v).take k).all inU = true) (hp : inU v[k] = true) : ((ls v).take (k + 1)).all inU = true := take_all_succ inU v k h ht hp

set_option maxRecDepth 20000 in
set_option maxHeartbeats 4000000 in
theorem quote_any (v : ByteArray) (hs : v.size ≤ 1000000000) (w : World) :
    Calls Try.prog 46 #[.string v] w (URes v w) := by
  go_enter Try.func46, Try.ntmps46
  have HB0 := Lib.hid (bld_new w)
  go_wp2_with fail
  refine (wb_any _ _ _ 34 _ HB0.out (by simp) (by simp)).mono ?_
  rintro e w1 ⟨rfl, hB1, hW1⟩
  have HB1 := Lib.hid hB1
  have HW1 : Hid (Below w.heap.size w w1) := Lib.hid (((Below.refl _ _).alloc (Nat.le_refl _) _).trans hW1)
  clear hB1 hW1 HB0
  go_wp2
  go_loopw [10] (fun i wr => ∃ (k : Nat), k ≤ v.size ∧ i = .int .i64 k ∧ Hid (Bld w.heap.size w.heap.size (34 :: escL ((ls v).take k)) wr) ∧ Hid (Below w.heap.size w wr) ∧ Hid (((ls v).take k).all inU = true)) (fun i _ => v.size - (RowKit.intOf i).toNat)
  case atStart => exact ⟨0, Nat.zero_le _, rfl, HB1, HW1, Lib.hid rfl⟩
  case round =>
    obtain ⟨k, hk, rfl, HB, HW, HA⟩ := hrel
    have hkb : (k : Int) ≤ 1000000000 := by omega
    have hsz : w.heap.size ≤ wr.heap.size := HW.out.size
    have hlen : (34 :: escL ((ls v).take k)).length ≤ 100000000000 := by
      have := esc_take_len v k hk
      rw [List.length_cons]
      omega
    by_cases hlt : k < v.size
    · cases hin : inU v[k] with
      | false =>
        have hin' : inV (v[k].toNat : Int) = false := hin
        have HE := Lib.hid (quo_bad v k hlt hin)
        clear hin
        go_wp2_with (go_at_call 54; refine (inValue_any _ _).mono ?_; rintro e w' ⟨rfl, rfl⟩)
        go_ret2
        exact ures_of HE.out rfl HW.out
      | true =>
        have hin' : inV (v[k].toNat : Int) = true := hin
        have HN := Lib.hid (all_take_succ17 v k hlt HA.out hin)
        have hsz1 : ∀ W, Below w.heap.size wr W → w.heap.size ≤ W.heap.size := fun W h => Nat.le_trans hsz h.size
        by_cases hq : v[k] = 34 ∨ v[k] = 92
        · have q1 : (((v[k].toNat : Int) == 34) || ((v[k].toNat : Int) == 92)) = true := by
            rcases hq with h | h <;> rw [h] <;> rfl
          have HL : Hid (34 :: escL ((ls v).take k) ++ [92] ++ [v[k]] = 34 :: escL ((ls v).take (k + 1))) := by
            show _ = _
            rw [esc_next v k hlt, esc1_yes _ hq]
            simp
          have hlen2 : (34 :: escL ((ls v).take k) ++ [92]).length ≤ 100000000000 := by
            have := esc_take_len v k hk
            simp
            omega
          have q2 : ((v[k].toNat : Int) == 34) = false → ((v[k].toNat : Int) == 92) = true := by
            intro h; rw [h] at q1; exact q1
          clear hin q1
          have go : ∀ (x : Bool), ((v[k].toNat : Int) == 34) = x → True := fun _ _ => trivial
          cases q3 : ((v[k].toNat : Int) == 34) with
          | true =>
            clear q2 go hq
            go_wp2_with (go_at_call 54; refine (inValue_any _ _).mono ?_; rintro e w' ⟨rfl, rfl⟩)
            refine (wb_any _ _ _ 92 _ HB.out hlen hsz).mono ?_
            rintro e w2 ⟨rfl, hB2, hW2⟩
            go_wp2_with fail
            refine (wb_any _ _ _ v[k] _ hB2 hlen2 (hsz1 _ hW2)).mono ?_
            rintro e w3 ⟨rfl, hB3, hW3⟩
            have HB3 := Lib.hid hB3
            have HW3 := Lib.hid ((HW.out.trans hW2).trans hW3)
            rw [HL.out] at HB3
            clear hB2 hW2 hB3 hW3
            go_wp2
            go_roundw
            case rel => exact ⟨k + 1, by omega, by go_num, HB3, HW3, HN⟩
            case measure => simp [RowKit.intOf]; omega
          | false =>
            have q4 := q2 q3
            clear q2 go hq
            go_wp2_with (go_at_call 54; refine (inValue_any _ _).mono ?_; rintro e w' ⟨rfl, rfl⟩)
            refine (wb_any _ _ _ 92 _ HB.out hlen hsz).mono ?_
            rintro e w2 ⟨rfl, hB2, hW2⟩
            go_wp2_with fail
            refine (wb_any _ _ _ v[k] _ hB2 hlen2 (hsz1 _ hW2)).mono ?_
            rintro e w3 ⟨rfl, hB3, hW3⟩
            have HB3 := Lib.hid hB3
            have HW3 := Lib.hid ((HW.out.trans hW2).trans hW3)
            rw [HL.out] at HB3
            clear hB2 hW2 hB3 hW3
            go_wp2
            go_roundw
            case rel => exact ⟨k + 1, by omega, by go_num, HB3, HW3, HN⟩
            case measure => simp [RowKit.intOf]; omega
        · have q1 : ((v[k].toNat : Int) == 34) = false := byte_u8 fun e => hq (.inl e)
          have q2 : ((v[k].toNat : Int) == 92) = false := byte_u8 fun e => hq (.inr e)
          have HL : Hid (34 :: escL ((ls v).take k) ++ [v[k]] = 34 :: escL ((ls v).take (k + 1))) := by
            show _ = _
            rw [esc_next v k hlt, esc1_no _ hq]
            simp
          clear hin hq
          go_wp2_with (go_at_call 54; refine (inValue_any _ _).mono ?_; rintro e w' ⟨rfl, rfl⟩)
          refine (wb_any _ _ _ v[k] _ HB.out hlen hsz).mono ?_
          rintro e w3 ⟨rfl, hB3, hW3⟩
          have HB3 := Lib.hid hB3
          have HW3 := Lib.hid (HW.out.trans hW3)
          rw [HL.out] at HB3
          clear hB3 hW3
          go_wp2
          go_roundw
          case rel => exact ⟨k + 1, by omega, by go_num, HB3, HW3, HN⟩
          case measure => simp [RowKit.intOf]; omega
    · obtain rfl : k = v.size := by omega
      have HE : Hid (quoS v = bs (quoL (ls v)) ∧ quoE v = 0) := by
        have := HA.out
        rw [take_ls_all] at this
        exact Lib.hid (quo_yes v this)
      have HL : Hid (34 :: escL ((ls v).take v.size) ++ [34] = quoL (ls v)) := by
        show _ = _
        rw [take_ls_all, quoL]
        rfl
      go_wp2_with fail
      refine (wb_any _ _ _ 34 _ HB.out hlen hsz).mono ?_
      rintro e w2 ⟨rfl, hB2, hW2⟩
      rw [HL.out] at hB2
      go_wp2_with fail
      refine (bstr_any _ _ _ _ hB2 (Nat.le_trans hsz hW2.size)).mono ?_
      rintro e w3 ⟨rfl, hW3⟩
      go_wp2
      go_ret2
      exact ures_of HE.out rfl ((HW.out.trans hW2).trans hW3)

end Go.Proofs.Ytbpgkdhdooaigaa
