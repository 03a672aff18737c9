/-
  The reference of layer 18: Format.
-/
import Derived.Test.YtpopkeidpohdiaaDiGp
import Derived.Test.YtpopkeidpohdiaaDiH
namespace Go.Proofs.Ytpopkeidpohdiaa
open Go.RowKit

set_option maxRecDepth 20000 in
set_option maxHeartbeats 8000000 in
theorem refFormat_any18 (A : Option Addr) (n c B : Nat) (l : List Dv) (w : World) (hA : HasDv w B A n l) (hS : SmDv l) (hn : n ≤ 1000000) (hnc : n ≤ c) (hB : B ≤ w.heap.size) :
    Calls Try.prog 12 #[.slice A n c] w (FmtPost l w) := by
  have cv := refValid_any18 A n c B l w hA hS hn hnc hB
  cases hok : dirOk l with
  | false =>
    have HX := Lib.hid (fmt_bad hok)
    rw [hok] at cv
    clear hok hA hS
    go_enter Try.func12, Try.ntmps12
    go_wp2_with fail
    refine cv.mono ?_
    rintro e w1 ⟨rfl, hb⟩
    go_wp2
    go_ret2
    exact fmt_ret HX.out hb rfl
  | true =>
    rw [hok] at cv
    have hl := hA.1
    have hn32 : n ≤ 32 := by have := ok_len hok; omega
    have HV : Hid (∀ {k : Nat} (hk : k < l.length), vlOk l[k].has l[k].value = true) := Lib.hid fun hk => ok_each hok hk
    have HO := Lib.hid hok
    have HA := Lib.hid hA
    have HS := Lib.hid hS
    have HL := Lib.hid hl
    clear hok hA hS hl
    go_enter Try.func12, Try.ntmps12
    go_wp2_with fail
    refine cv.mono ?_
    rintro e w1 ⟨rfl, hb1⟩
    have HB1 := Lib.hid hb1
    clear hb1
    go_wp2
    go_loopw [4, 5, 6, 7] (fun s i x6 x7 wr => ∃ (k : Nat) (S : ByteArray), k ≤ n ∧ i = .int .i64 k ∧ s = .string S ∧ Hid (ls S = dirT (l.take k)) ∧ Hid (Below w.heap.size w wr)) (fun _ i _ _ _ => n - (intOf i).toNat)
    case atStart => exact ⟨0, _, Nat.zero_le _, rfl, rfl, Lib.hid rfl, HB1⟩
    case round =>
      obtain ⟨k, S, hk, rfl, rfl, HT, HW⟩ := hrel
      have hkb : (k : Int) ≤ 32 := by omega
      by_cases hlt : k < n
      · have hkl : k < l.length := by rw [HL.out]; exact hlt
        obtain ⟨b, off, rfl, hb, g0, g1, g2⟩ := (HA.out.below' HW.out hB).at_ hlt
        have hsm := HS.out _ (List.getElem_mem hkl)
        have hv := HV.out hkl
        have HT2 := dirT_take hkl
        have htl : S.size ≤ 200000000 := by rw [← ls_length, HT.out]; have := dirT_len HS.out k (by omega); omega
        have hpre : preT (l.take k) = if k = 0 then [] else dirT (l.take k) ++ [59, 32] := by
          unfold preT
          rw [List.length_take, Nat.min_eq_left (by omega)]
        have hp0 : k = 0 → dirT (l.take k) = [] := by
          intro e
          rw [e]
          rfl
        rw [← HT.out] at hpre hp0
        generalize l[k] = d at *
        have cT := fun W => refIsTk_any (bs d.value) (by rw [bs_size]; omega) W
        rw [isTk_bs] at cT
        have cQ := fun W => refQuote_any17 (bs d.value) (by rw [bs_size]; omega) W
        have hq := quo_yes (bs d.value) (vl_in hv)
        rw [ls_bs] at hq
        rw [hq.1, hq.2] at cQ
        have hvt : valT d.value = if (!d.value.isEmpty && d.value.all tokU) = true then d.value else quoL d.value := rfl
        have hns : (bs d.name).size ≤ 1000000 := by rw [bs_size]; omega
        have hvs : (bs d.value).size ≤ 1000000 := by rw [bs_size]; omega
        have hqs : (bs (quoL d.value)).size ≤ 2000002 := by
          rw [bs_size]
          have := escL_len d.value
          rw [quoL]
          simp
          omega
        have e1 : ls (bs d.name) = d.name := rfl
        have e2 : ls (bs d.value) = d.value := rfl
        have e3 : ls (bs (quoL d.value)) = quoL d.value := rfl
        have HT3 : dirT (l.take (k + 1)) = preT (l.take k) ++ ls (bs d.name) ++ (if d.has = true then 61 :: (if (!d.value.isEmpty && d.value.all tokU) = true then ls (bs d.value) else ls (bs (quoL d.value))) else []) := by
          rw [HT2, Dv.text, hvt, e1, e2, e3, List.append_assoc]
        rw [hpre] at HT3
        clear HT2 hv hsm hpre hkl hq hvt e1 e2 e3
        generalize bs d.name = N at *
        generalize bs d.value = V at *
        generalize bs (quoL d.value) = QV at *
        generalize (!d.value.isEmpty && d.value.all tokU) = tk at *
        generalize d.has = HH at *
        have z2 : (⟨#[59, 32]⟩ : ByteArray).size = 2 := rfl
        have z1 : (⟨#[61]⟩ : ByteArray).size = 1 := rfl
        have l2 : ls ⟨#[59, 32]⟩ = [59, 32] := rfl
        have l1 : ls ⟨#[61]⟩ = [61] := rfl
        have HZ := Lib.hid (And.intro l2 l1)
        clear l1 l2
        by_cases hk0 : k = 0
        · cases HH with
          | false =>
            have t1 : decide ((0 : Int) < (k : Int)) = false := decide_eq_false (by omega)
            have n1 : ¬ 0 < k := by omega
            have HP : Hid (dirT (l.take (k + 1)) = ls S ++ ls N ++ []) := by
              show _ = _
              rw [HT3, if_pos hk0, hp0 hk0]
              rfl
            have a3 : ¬ 9223372036854775807 < S.size + N.size := by omega
            clear HT3 hp0 hk0 z1 z2
            go_wp2
            go_roundw
            case rel => exact ⟨k + 1, _, by omega, by go_num, rfl, by show _ = _; rw [HP.out]; simp [ls_append], HW⟩
            case measure => simp [intOf]; omega
          | true =>
            cases tk with
            | false =>
              have t1 : decide ((0 : Int) < (k : Int)) = false := decide_eq_false (by omega)
              have n1 : ¬ 0 < k := by omega
              have HP : Hid (dirT (l.take (k + 1)) = ls S ++ ls N ++ 61 :: ls QV) := by
                show _ = _
                rw [HT3, if_pos hk0, hp0 hk0]
                rfl
              have a3 : ¬ 9223372036854775807 < S.size + N.size := by omega
              have a4 : ¬ 9223372036854775807 < S.size + N.size + (1 + QV.size) := by omega
              have a5 : ¬ 9223372036854775807 < (S ++ N).size + ((⟨#[61]⟩ : ByteArray) ++ QV).size := by rw [ByteArray.size_append, ByteArray.size_append, z1]; omega
              have a6 : ¬ 9223372036854775807 < 1 + QV.size := by omega
              have a7 : ¬ 9223372036854775807 < (⟨#[61]⟩ : ByteArray).size + QV.size := by rw [z1]; omega
              clear HT3 hp0 hk0 z1 z2
              go_wp2_with fail
              refine (cT _).mono ?_
              rintro e w' ⟨rfl, rfl⟩
              go_wp2_with fail
              refine (cQ _).mono ?_
              rintro e w' ⟨rfl, rfl⟩
              go_wp2
              go_roundw
              case rel => exact ⟨k + 1, _, by omega, by go_num, rfl, by show _ = _; rw [HP.out]; simp [ls_append, HZ.out.2], HW⟩
              case measure => simp [intOf]; omega
            | true =>
              have t1 : decide ((0 : Int) < (k : Int)) = false := decide_eq_false (by omega)
              have n1 : ¬ 0 < k := by omega
              have HP : Hid (dirT (l.take (k + 1)) = ls S ++ ls N ++ 61 :: ls V) := by
                show _ = _
                rw [HT3, if_pos hk0, hp0 hk0]
                rfl
              have a3 : ¬ 9223372036854775807 < S.size + N.size := by omega
              have a4 : ¬ 9223372036854775807 < S.size + N.size + (1 + V.size) := by omega
              have a5 : ¬ 9223372036854775807 < (S ++ N).size + ((⟨#[61]⟩ : ByteArray) ++ V).size := by rw [ByteArray.size_append, ByteArray.size_append, z1]; omega
              have a6 : ¬ 9223372036854775807 < 1 + V.size := by omega
              have a7 : ¬ 9223372036854775807 < (⟨#[61]⟩ : ByteArray).size + V.size := by rw [z1]; omega
              clear HT3 hp0 hk0 z1 z2
              go_wp2_with fail
              refine (cT _).mono ?_
              rintro e w' ⟨rfl, rfl⟩
              go_wp2
              go_roundw
              case rel => exact ⟨k + 1, _, by omega, by go_num, rfl, by show _ = _; rw [HP.out]; simp [ls_append, HZ.out.2], HW⟩
              case measure => simp [intOf]; omega
        · cases HH with
          | false =>
            have t1 : decide ((0 : Int) < (k : Int)) = true := decide_eq_true (by omega)
            have n1 : 0 < k := by omega
            have HP : Hid (dirT (l.take (k + 1)) = ls S ++ [59, 32] ++ ls N ++ []) := by
              show _ = _
              rw [HT3, if_neg hk0]
              rfl
            have a1 : ¬ 9223372036854775807 < S.size + 2 := by omega
            have a2 : ¬ 9223372036854775807 < S.size + (⟨#[59, 32]⟩ : ByteArray).size := by rw [z2]; omega
            have a3 : ¬ 9223372036854775807 < S.size + 2 + N.size := by omega
            have a3b : ¬ 9223372036854775807 < (S ++ (⟨#[59, 32]⟩ : ByteArray)).size + N.size := by rw [ByteArray.size_append, z2]; omega
            clear HT3 hp0 hk0 z1 z2
            go_wp2
            go_roundw
            case rel => exact ⟨k + 1, _, by omega, by go_num, rfl, by show _ = _; rw [HP.out]; simp [ls_append, HZ.out.1], HW⟩
            case measure => simp [intOf]; omega
          | true =>
            cases tk with
            | false =>
              have t1 : decide ((0 : Int) < (k : Int)) = true := decide_eq_true (by omega)
              have n1 : 0 < k := by omega
              have HP : Hid (dirT (l.take (k + 1)) = ls S ++ [59, 32] ++ ls N ++ 61 :: ls QV) := by
                show _ = _
                rw [HT3, if_neg hk0]
                rfl
              have a1 : ¬ 9223372036854775807 < S.size + 2 := by omega
              have a2 : ¬ 9223372036854775807 < S.size + (⟨#[59, 32]⟩ : ByteArray).size := by rw [z2]; omega
              have a3 : ¬ 9223372036854775807 < S.size + 2 + N.size := by omega
              have a3b : ¬ 9223372036854775807 < (S ++ (⟨#[59, 32]⟩ : ByteArray)).size + N.size := by rw [ByteArray.size_append, z2]; omega
              have a4 : ¬ 9223372036854775807 < S.size + 2 + N.size + (1 + QV.size) := by omega
              have a5 : ¬ 9223372036854775807 < (S ++ (⟨#[59, 32]⟩ : ByteArray) ++ N).size + ((⟨#[61]⟩ : ByteArray) ++ QV).size := by rw [ByteArray.size_append, ByteArray.size_append, ByteArray.size_append, z1, z2]; omega
              have a6 : ¬ 9223372036854775807 < 1 + QV.size := by omega
              have a7 : ¬ 9223372036854775807 < (⟨#[61]⟩ : ByteArray).size + QV.size := by rw [z1]; omega
              clear HT3 hp0 hk0 z1 z2
              go_wp2_with fail
              refine (cT _).mono ?_
              rintro e w' ⟨rfl, rfl⟩
              go_wp2_with fail
              refine (cQ _).mono ?_
              rintro e w' ⟨rfl, rfl⟩
              go_wp2
              go_roundw
              case rel => exact ⟨k + 1, _, by omega, by go_num, rfl, by show _ = _; rw [HP.out]; simp [ls_append, HZ.out.1, HZ.out.2], HW⟩
              case measure => simp [intOf]; omega
            | true =>
              have t1 : decide ((0 : Int) < (k : Int)) = true := decide_eq_true (by omega)
              have n1 : 0 < k := by omega
              have HP : Hid (dirT (l.take (k + 1)) = ls S ++ [59, 32] ++ ls N ++ 61 :: ls V) := by
                show _ = _
                rw [HT3, if_neg hk0]
                rfl
              have a1 : ¬ 9223372036854775807 < S.size + 2 := by omega
              have a2 : ¬ 9223372036854775807 < S.size + (⟨#[59, 32]⟩ : ByteArray).size := by rw [z2]; omega
              have a3 : ¬ 9223372036854775807 < S.size + 2 + N.size := by omega
              have a3b : ¬ 9223372036854775807 < (S ++ (⟨#[59, 32]⟩ : ByteArray)).size + N.size := by rw [ByteArray.size_append, z2]; omega
              have a4 : ¬ 9223372036854775807 < S.size + 2 + N.size + (1 + V.size) := by omega
              have a5 : ¬ 9223372036854775807 < (S ++ (⟨#[59, 32]⟩ : ByteArray) ++ N).size + ((⟨#[61]⟩ : ByteArray) ++ V).size := by rw [ByteArray.size_append, ByteArray.size_append, ByteArray.size_append, z1, z2]; omega
              have a6 : ¬ 9223372036854775807 < 1 + V.size := by omega
              have a7 : ¬ 9223372036854775807 < (⟨#[61]⟩ : ByteArray).size + V.size := by rw [z1]; omega
              clear HT3 hp0 hk0 z1 z2
              go_wp2_with fail
              refine (cT _).mono ?_
              rintro e w' ⟨rfl, rfl⟩
              go_wp2
              go_roundw
              case rel => exact ⟨k + 1, _, by omega, by go_num, rfl, by show _ = _; rw [HP.out]; simp [ls_append, HZ.out.1, HZ.out.2], HW⟩
              case measure => simp [intOf]; omega
      · obtain rfl : k = n := by omega
        have HE : Hid (S = bs (dirT l)) := by
          show _ = _
          rw [← bs_ls S, HT.out, List.take_of_length_le (by rw [HL.out]; exact Nat.le_refl _)]
        have hsz : S.size = (dirT l).length := by rw [HE.out, bs_size]
        by_cases hbig : 4096 < (dirT l).length
        · have hd : decide ((4096 : Int) < (S.size : Int)) = true := decide_eq_true (by omega)
          have HX := Lib.hid (fmt_long HO.out hbig)
          clear hbig hsz
          go_wp2
          go_ret2
          exact fmt_ret HX.out HW.out rfl
        · have hd : decide ((4096 : Int) < (S.size : Int)) = false := decide_eq_false (by omega)
          have HX := Lib.hid (fmt_good HO.out hbig)
          clear hbig hsz
          go_wp2
          go_ret2
          exact fmt_ret HX.out HW.out (by rw [← HE.out]; rfl)

end Go.Proofs.Ytpopkeidpohdiaa
