/-
Contract of the reference's Points of layer 13.
Contract of Lower of the reference of layer 1.
Contracts of the reference of layer 13: Valid, ToASCII.
Contracts of the small functions of package punycode: isPoint, digitByte, digitOf, adapted.
Contracts of package punycode's closure of thresholds, and of the functions that call it: thresholds, appendNumber, addNumber.
Contract of package punycode's addNumber.
-/
import Derived.Test.YtpccpgihldpiiaaGreatDoorC02
import Derived.Test.YtpccpgihldpiiaaGreatDoorC16
import Derived.Test.YtpccpgihldpiiaaGreatDoorD02
import Derived.Test.YtpccpgihldpiiaaGreatDoorC07
import Derived.Deep.LoopGhost
import Derived.BigQuiet
import Derived.Deep.CutRange
import Derived.Deep.CutBlock
import Derived.Test.YtpccpgihldpiiaaGreatDoorC01
import Derived.Test.YtpccpgihldpiiaaGreatDoorD04
import Derived.OneCell
namespace Go.Proofs.YtpccpgihldpiiaaGreatDoor
section
open Go.RowKit

/-- What Points answers, in memory. -/
def PtsPost (l : List UInt8) (w : World) (e : Ending) (w' : World) : Prop :=
  (∃ v, e = .returned (.tuple #[v, .bool (ptsL l).isSome]) ∧ w'.ownsRow w.heap.size 3 1 v ((ptsL l).getD []).length (((ptsL l).getD []).map nvI)) ∧ Below w.heap.size w w'
theorem PtsPost.no {l : List UInt8} {w w' : World} (h : ptsL l = none) (hb : Below w.heap.size w w') : PtsPost l w (.returned (.tuple #[.slice none 0 0, .bool false])) w' := by
  refine ⟨⟨_, by rw [h]; rfl, ?_⟩, hb⟩
  rw [h]
  exact World.ownsRow_nil _ _ _ _
theorem PtsPost.yes {l : List UInt8} {P : List Nat} {w w' : World} {v : Value} (h : ptsL l = some P) (ho : w'.ownsRow w.heap.size 3 1 v P.length (P.map nvI)) (hb : Below w.heap.size w w') : PtsPost l w (.returned (.tuple #[v, .bool true])) w' := by
  refine ⟨⟨v, by rw [h]; rfl, ?_⟩, hb⟩
  rw [h]
  exact ho
/-- How large a value may be behind j bytes. -/
def bnd8 (j : Nat) : Nat := 256 * 64 ^ (j - 1)
theorem bnd8_le {j : Nat} (h : j ≤ 4) : bnd8 j ≤ 67108864 := by
  unfold bnd8
  have : 64 ^ (j - 1) ≤ 64 ^ 3 := Nat.pow_le_pow_right (by omega) (by omega)
  omega
theorem bnd8_step {j u c : Nat} (hj : 1 ≤ j) (hu : u < bnd8 j) (hc : c ≤ 191) : u * 64 + c - 128 < bnd8 (j + 1) := by
  have e : bnd8 (j + 1) = bnd8 j * 64 := by
    unfold bnd8
    rw [show j + 1 - 1 = j - 1 + 1 by omega, Nat.pow_succ, Nat.mul_assoc]
  omega
theorem lead8_range {b k v least : Nat} (h : lead8 b = some (k, v, least)) (hb : b < 256) : k ≤ 3 ∧ v < 256 ∧ least ≤ 65536 := by
  unfold lead8 at h
  split at h
  · obtain ⟨e1, e23⟩ := Prod.mk.inj (Option.some.inj h)
    obtain ⟨e2, e3⟩ := Prod.mk.inj e23
    omega
  · split at h
    · obtain ⟨e1, e23⟩ := Prod.mk.inj (Option.some.inj h)
      obtain ⟨e2, e3⟩ := Prod.mk.inj e23
      omega
    · split at h
      · obtain ⟨e1, e23⟩ := Prod.mk.inj (Option.some.inj h)
        obtain ⟨e2, e3⟩ := Prod.mk.inj e23
        omega
      · split at h
        · obtain ⟨e1, e23⟩ := Prod.mk.inj (Option.some.inj h)
          obtain ⟨e2, e3⟩ := Prod.mk.inj e23
          omega
        · cases h

set_option maxRecDepth 20000 in
set_option maxHeartbeats 8000000 in
theorem refPts_any (s : ByteArray) (w : World) (hs : s.size ≤ 1000000000) :
    Calls Tryz.prog 93 #[.string s] w (PtsPost (ls s) w) := by
  obtain ⟨i3, hi3, hz0, hz1, hz2⟩ := info_parts infoInt
  go_enter Tryz.func93, Tryz.ntmps93
  go_wp2
  go_loopg [4, 5] s.size (fun g v i wr => ∃ (k : Nat) (acc : List Nat), k ≤ s.size ∧ g = s.size - k ∧ i = .int .i64 k ∧ acc.length ≤ k ∧ Hid (ptsL (ls s) = (ptsL ((ls s).drop k)).map (acc ++ ·)) ∧
    wr.ownsRow w.heap.size 3 1 v acc.length (acc.map nvI) ∧ Below w.heap.size w wr)
  case atStart => exact ⟨0, [], Nat.zero_le _, rfl, rfl, Nat.le_refl _, Lib.hid (by rw [List.drop_zero]; cases ptsL (ls s) <;> rfl), World.ownsRow_nil _ _ _ _, Below.refl _ _⟩
  case round =>
    obtain ⟨k, acc, hk, hg, rfl, hacc, HP, hown, hb⟩ := hrel
    have HG := Lib.hid hg
    clear hg
    obtain ⟨A4, c4, rfl, _, _⟩ := Has.of_own hown
    by_cases hlt : k < s.size
    · have hdr := drop_ls_cons s k hlt
      have hkd : decide ((k : Int) < (s.size : Int)) = true := decide_eq_true (by omega)
      have hbl := byte_lt s[k]
      have hw64 : wrap64 (s[k].toNat : Int) = (s[k].toNat : Int) := by unfold wrap64; omega
      go_upto_block 2 with fail
      go_cut [7, 8, 9] from 21 to 50 (fun n v l wx => wr = wx ∧ ∃ kk m vv ll : Nat, m = kk + 1 ∧ n = .int .i64 (m : Int) ∧ v = .int .i64 (vv : Int) ∧ l = .int .i64 (ll : Int) ∧ Hid (lead8 s[k].toNat = some (kk, vv, ll)))
      case first =>
        by_cases h1 : s[k].toNat < 128
        · have dl128 : decide ((s[k].toNat : Int) < 128) = true := decide_eq_true (by omega)
          have dl224 : decide ((s[k].toNat : Int) < 224) = true := decide_eq_true (by omega)
          have dl240 : decide ((s[k].toNat : Int) < 240) = true := decide_eq_true (by omega)
          have dl245 : decide ((s[k].toNat : Int) < 245) = true := decide_eq_true (by omega)
          have dg194 : decide ((194 : Int) ≤ (s[k].toNat : Int)) = false := decide_eq_false (by omega)
          have dg224 : decide ((224 : Int) ≤ (s[k].toNat : Int)) = false := decide_eq_false (by omega)
          have dg240 : decide ((240 : Int) ≤ (s[k].toNat : Int)) = false := decide_eq_false (by omega)
          have HL : Hid (lead8 s[k].toNat = some (0, s[k].toNat, 0)) := by show _ = _; unfold lead8; rw [if_pos (by omega)]
          go_wp2_with fail
          go_meet
          exact ⟨rfl, 0, 1, s[k].toNat, 0, rfl, rfl, by go_num, rfl, HL⟩
        · by_cases h2 : s[k].toNat < 194
          · have dl128 : decide ((s[k].toNat : Int) < 128) = false := decide_eq_false (by omega)
            have dl224 : decide ((s[k].toNat : Int) < 224) = true := decide_eq_true (by omega)
            have dl240 : decide ((s[k].toNat : Int) < 240) = true := decide_eq_true (by omega)
            have dl245 : decide ((s[k].toNat : Int) < 245) = true := decide_eq_true (by omega)
            have dg194 : decide ((194 : Int) ≤ (s[k].toNat : Int)) = false := decide_eq_false (by omega)
            have dg224 : decide ((224 : Int) ≤ (s[k].toNat : Int)) = false := decide_eq_false (by omega)
            have dg240 : decide ((240 : Int) ≤ (s[k].toNat : Int)) = false := decide_eq_false (by omega)
            have HE : Hid (ptsL (ls s) = none) := by
              show _ = _
              have hl : lead8 s[k].toNat = none := by unfold lead8; rw [if_neg (by omega), if_neg (by omega), if_neg (by omega), if_neg (by omega)]
              rw [HP.out, hdr, ptsL_cons, one8, hl]
              rfl
            clear hdr HP
            go_wp2_with fail
            go_ret2
            exact PtsPost.no HE.out hb
          · by_cases h3 : s[k].toNat < 224
            · have dl128 : decide ((s[k].toNat : Int) < 128) = false := decide_eq_false (by omega)
              have dl224 : decide ((s[k].toNat : Int) < 224) = true := decide_eq_true (by omega)
              have dl240 : decide ((s[k].toNat : Int) < 240) = true := decide_eq_true (by omega)
              have dl245 : decide ((s[k].toNat : Int) < 245) = true := decide_eq_true (by omega)
              have dg194 : decide ((194 : Int) ≤ (s[k].toNat : Int)) = true := decide_eq_true (by omega)
              have dg224 : decide ((224 : Int) ≤ (s[k].toNat : Int)) = false := decide_eq_false (by omega)
              have dg240 : decide ((240 : Int) ≤ (s[k].toNat : Int)) = false := decide_eq_false (by omega)
              have HL : Hid (lead8 s[k].toNat = some (1, s[k].toNat - 192, 128)) := by show _ = _; unfold lead8; rw [if_neg (by omega), if_pos (by omega)]
              go_wp2_with fail
              go_meet
              exact ⟨rfl, 1, 2, s[k].toNat - 192, 128, rfl, rfl, by go_num, rfl, HL⟩
            · by_cases h4 : s[k].toNat < 240
              · have dl128 : decide ((s[k].toNat : Int) < 128) = false := decide_eq_false (by omega)
                have dl224 : decide ((s[k].toNat : Int) < 224) = false := decide_eq_false (by omega)
                have dl240 : decide ((s[k].toNat : Int) < 240) = true := decide_eq_true (by omega)
                have dl245 : decide ((s[k].toNat : Int) < 245) = true := decide_eq_true (by omega)
                have dg194 : decide ((194 : Int) ≤ (s[k].toNat : Int)) = true := decide_eq_true (by omega)
                have dg224 : decide ((224 : Int) ≤ (s[k].toNat : Int)) = true := decide_eq_true (by omega)
                have dg240 : decide ((240 : Int) ≤ (s[k].toNat : Int)) = false := decide_eq_false (by omega)
                have HL : Hid (lead8 s[k].toNat = some (2, s[k].toNat - 224, 2048)) := by show _ = _; unfold lead8; rw [if_neg (by omega), if_neg (by omega), if_pos (by omega)]
                go_wp2_with fail
                go_meet
                exact ⟨rfl, 2, 3, s[k].toNat - 224, 2048, rfl, rfl, by go_num, rfl, HL⟩
              · by_cases h5 : s[k].toNat < 245
                · have dl128 : decide ((s[k].toNat : Int) < 128) = false := decide_eq_false (by omega)
                  have dl224 : decide ((s[k].toNat : Int) < 224) = false := decide_eq_false (by omega)
                  have dl240 : decide ((s[k].toNat : Int) < 240) = false := decide_eq_false (by omega)
                  have dl245 : decide ((s[k].toNat : Int) < 245) = true := decide_eq_true (by omega)
                  have dg194 : decide ((194 : Int) ≤ (s[k].toNat : Int)) = true := decide_eq_true (by omega)
                  have dg224 : decide ((224 : Int) ≤ (s[k].toNat : Int)) = true := decide_eq_true (by omega)
                  have dg240 : decide ((240 : Int) ≤ (s[k].toNat : Int)) = true := decide_eq_true (by omega)
                  have HL : Hid (lead8 s[k].toNat = some (3, s[k].toNat - 240, 65536)) := by show _ = _; unfold lead8; rw [if_neg (by omega), if_neg (by omega), if_neg (by omega), if_pos (by omega)]
                  go_wp2_with fail
                  go_meet
                  exact ⟨rfl, 3, 4, s[k].toNat - 240, 65536, rfl, rfl, by go_num, rfl, HL⟩
                · have dl128 : decide ((s[k].toNat : Int) < 128) = false := decide_eq_false (by omega)
                  have dl224 : decide ((s[k].toNat : Int) < 224) = false := decide_eq_false (by omega)
                  have dl240 : decide ((s[k].toNat : Int) < 240) = false := decide_eq_false (by omega)
                  have dl245 : decide ((s[k].toNat : Int) < 245) = false := decide_eq_false (by omega)
                  have dg194 : decide ((194 : Int) ≤ (s[k].toNat : Int)) = true := decide_eq_true (by omega)
                  have dg224 : decide ((224 : Int) ≤ (s[k].toNat : Int)) = true := decide_eq_true (by omega)
                  have dg240 : decide ((240 : Int) ≤ (s[k].toNat : Int)) = true := decide_eq_true (by omega)
                  have HE : Hid (ptsL (ls s) = none) := by
                    show _ = _
                    have hl : lead8 s[k].toNat = none := by unfold lead8; rw [if_neg (by omega), if_neg (by omega), if_neg (by omega), if_neg (by omega)]
                    rw [HP.out, hdr, ptsL_cons, one8, hl]
                    rfl
                  clear hdr HP
                  go_wp2_with fail
                  go_ret2
                  exact PtsPost.no HE.out hb

      case rest =>
        obtain ⟨rfl, kk, m, vv, ll, hm, rfl, rfl, rfl, HL⟩ := hcut
        have hrange := lead8_range HL.out s[k].toNat_lt
        obtain ⟨hkk, hvv, hll⟩ := hrange
        by_cases hroom : s.size - k < m
        · have hd : decide ((s.size : Int) - (k : Int) < (m : Int)) = true := decide_eq_true (by omega)
          have HE : Hid (ptsL (ls s) = none) := by
            show _ = _
            have hc : cont8 kk vv ((ls s).drop (k + 1)) = none := by
              cases hcc : cont8 kk vv ((ls s).drop (k + 1)) with
              | none => rfl
              | some u =>
                have := cont8_drop _ _ _ _ hcc
                rw [List.length_drop, ls_length] at this
                omega
            rw [HP.out, hdr, ptsL_cons, one8, HL.out]
            simp only [hc]
            rfl
          clear hdr HP
          go_wp2_with fail
          go_ret2
          exact PtsPost.no HE.out hb
        · have hd : decide ((s.size : Int) - (k : Int) < (m : Int)) = false := decide_eq_false (by omega)
          have HDR := Lib.hid hdr
          clear hdr
          go_wp2_with fail
          obtain ⟨wo, rfl⟩ : ∃ wo : World, wo = wr := ⟨_, rfl⟩
          obtain ⟨go, rfl⟩ : ∃ go : Nat, go = gk := ⟨_, rfl⟩
          go_loopg [8, 10] (m - 1) (fun g av jj wr => ∃ (u j : Nat), wr = wo ∧ 1 ≤ j ∧ j ≤ m ∧ g = m - j ∧ av = .int .i64 u ∧ jj = .int .i64 j ∧ u < bnd8 j ∧ Hid (cont8 kk vv ((ls s).drop (k + 1)) = cont8 (m - j) u ((ls s).drop (k + j))))
          case atStart => exact ⟨vv, 1, rfl, Nat.le_refl _, by omega, rfl, rfl, rfl, by unfold bnd8; omega, Lib.hid (by rw [show m - 1 = kk by omega])⟩
          case round =>
            obtain ⟨u, j, rfl, hj1, hjm, hgj, rfl, rfl, hub, HC⟩ := hrel
            have HGJ := Lib.hid hgj
            clear hgj
            have hbn := bnd8_le (show j ≤ 4 by omega)
            by_cases hjlt : j < m
            · have hjd : decide ((j : Int) < (m : Int)) = true := decide_eq_true (by omega)
              have hks : k + j < s.size := by omega
              have hidx : (k : Int) + (j : Int) = ((k + j : Nat) : Int) := by omega
              obtain ⟨q, hq⟩ : ∃ q, q = k + j := ⟨_, rfl⟩
              rw [← hq] at hks hidx HC
              have hdr2 := drop_ls_cons s q hks
              have hcl := byte_lt s[q]
              by_cases hbad : 128 ≤ s[q].toNat ∧ s[q].toNat ≤ 191
              · have hc1 : decide ((s[q].toNat : Int) < 128) = false := decide_eq_false (by omega)
                have hc2 : decide ((191 : Int) < (s[q].toNat : Int)) = false := decide_eq_false (by omega)
                obtain ⟨u2, hu2⟩ : ∃ u2, u2 = u * 64 + s[q].toNat - 128 := ⟨_, rfl⟩
                have hub2 : u2 < bnd8 (j + 1) := by rw [hu2]; exact bnd8_step hj1 hub hbad.2
                have hbn2 := bnd8_le (show j + 1 ≤ 4 by omega)
                have HC2 : Hid (cont8 kk vv ((ls s).drop (k + 1)) = cont8 (m - (j + 1)) u2 ((ls s).drop (k + (j + 1)))) := by
                  show _ = _
                  rw [HC.out, hdr2, show m - j = m - (j + 1) + 1 by omega, cont8, if_pos hbad, ← hu2, show k + (j + 1) = q + 1 by omega]
                have hu2i : (u : Int) * 64 + (s[q].toNat : Int) - 128 = (u2 : Int) := by omega
                clear hdr2 hq hbad hu2
                go_wp2_with fail
                go_roundg (m - (j + 1))
                case rel => exact ⟨u2, j + 1, rfl, by omega, by omega, rfl, by go_num, by go_num, hub2, HC2⟩
                case measure => rw [HGJ.out]; omega
              · have HE : Hid (ptsL (ls s) = none) := by
                  show _ = _
                  have hc : cont8 kk vv ((ls s).drop (k + 1)) = none := by rw [HC.out, hdr2, show m - j = m - (j + 1) + 1 by omega, cont8, if_neg hbad]
                  rw [HP.out, HDR.out, ptsL_cons, one8, HL.out]
                  simp only [hc]
                  rfl
                clear hdr2 hq
                by_cases hlo : s[q].toNat < 128
                · have hc1 : decide ((s[q].toNat : Int) < 128) = true := decide_eq_true (by omega)
                  clear hbad
                  go_wp2_with fail
                  go_ret2
                  exact PtsPost.no HE.out hb
                · have hc1 : decide ((s[q].toNat : Int) < 128) = false := decide_eq_false (by omega)
                  have hc2 : decide ((191 : Int) < (s[q].toNat : Int)) = true := decide_eq_true (by omega)
                  clear hbad
                  go_wp2_with fail
                  go_ret2
                  exact PtsPost.no HE.out hb
            · obtain rfl : j = m := by omega
              have hjd : decide ((j : Int) < (j : Int)) = false := by simp
              have HC3 : Hid (cont8 kk vv ((ls s).drop (k + 1)) = some u) := by
                show _ = _
                rw [HC.out, Nat.sub_self, cont8]
              have cP := refPoint_any (u : Int)
              rw [ptZ_nat] at cP
              have hno : (u < ll ∨ ptN u = false) → ptsL (ls s) = none := by
                intro hh
                rw [HP.out, HDR.out, ptsL_cons, one8, HL.out]
                simp only [HC3.out]
                rw [if_pos hh]
                rfl
              by_cases hll2 : u < ll
              · have hld : decide ((u : Int) < (ll : Int)) = true := decide_eq_true (by omega)
                have HE : Hid (ptsL (ls s) = none) := Lib.hid (hno (.inl hll2))
                clear hno
                go_wp2_with (go_at_call 131; refine (cP _).mono ?_; rintro e w' ⟨rfl, rfl⟩)
                go_ret2
                exact PtsPost.no HE.out hb
              · have hld : decide ((u : Int) < (ll : Int)) = false := decide_eq_false (by omega)
                cases hpt : ptN u with
                | false =>
                  rw [hpt] at cP
                  have HE : Hid (ptsL (ls s) = none) := Lib.hid (hno (.inr hpt))
                  clear hno hpt
                  go_wp2_with (go_at_call 131; refine (cP _).mono ?_; rintro e w' ⟨rfl, rfl⟩)
                  go_ret2
                  exact PtsPost.no HE.out hb
                | true =>
                  rw [hpt] at cP
                  have hkj : k + j ≤ s.size := by omega
                  have hkji : (k : Int) + (j : Int) = ((k + j : Nat) : Int) := by omega
                  have HP2 : Hid (ptsL (ls s) = (ptsL ((ls s).drop (k + j))).map ((acc ++ [u]) ++ ·)) := by
                    show _ = _
                    have hj : k + 1 + kk = k + j := by omega
                    rw [HP.out, HDR.out, ptsL_cons, one8, HL.out]
                    simp only [HC3.out]
                    rw [if_neg (by rw [hpt]; simp; omega)]
                    simp only [List.drop_drop, hj]
                    cases ptsL ((ls s).drop (k + j)) with
                    | none => rfl
                    | some Q => simp
                  have hul := ptN_le hpt
                  have HACC : Hid ((acc ++ [u]).map nvI = acc.map nvI ++ [.int .i64 (u : Int)] ∧ (acc ++ [u]).length = acc.length + 1) := Lib.hid ⟨by simp, by simp⟩
                  obtain ⟨q, hq⟩ : ∃ q, q = k + j := ⟨_, rfl⟩
                  have hq1 : k < q := by omega
                  rw [← hq] at hkj hkji HP2
                  clear hno hpt hq
                  go_wp2_with (first | (go_at_call 131; refine (cP _).mono ?_; rintro e w' ⟨rfl, rfl⟩) | (at_builtin; refine wpList_app_one wr rfl _ _ 38 rfl w.heap.size 3 i3 (.int .i64 0) 8 tyInts hi3 hz0 hz1 hz2 rfl _ (by exact rfl) _ _ _ (by exact rfl) hown (by exact rfl) (by unfold maxLen; omega) (by omega) hb (Nat.le_refl _) ?_; intro v' w' hown' hb' _))
                  go_roundg (s.size - q)
                  case rel =>
                    refine ⟨q, acc ++ [u], by omega, rfl, by go_num, by rw [HACC.out.2]; omega, HP2, ?_, hb'⟩
                    rw [HACC.out.1, HACC.out.2]
                    exact hown'
                  case measure => rw [HG.out]; omega

    · obtain rfl : k = s.size := by omega
      have hkd : decide ((s.size : Int) < (s.size : Int)) = false := by simp
      have HE : Hid (ptsL (ls s) = some acc) := by
        show _ = _
        rw [HP.out, drop_ls_all, ptsL_nil]
        simp
      go_wp2
      go_ret2
      exact PtsPost.yes HE.out hown hb
end

section
open Go.RowKit

set_option maxHeartbeats 1000000 in
theorem refLower_any (s : ByteArray) (w : World) (hs : s.size ≤ 1000000000) :
    Calls Tryz.prog 43 #[.string s] w fun e w' => e = .returned (.string (lowS s)) ∧ Below w.heap.size w w' := by
  obtain ⟨i5, hi5, hz0, hz1, hz2⟩ := info_parts infoU8
  go_enter Tryz.func43, Tryz.ntmps43
  go_wp2
  go_loopw [3, 4] (fun v i wr => ∃ k : Nat, k ≤ s.size ∧ i = .int .i64 k ∧ wr.ownsRow w.heap.size 5 1 v k (((lowL (ls s)).take k).map bv) ∧ Below w.heap.size w wr) (fun _ i _ => s.size - (intOf i).toNat)
  case atStart => exact ⟨0, Nat.zero_le _, rfl, World.ownsRow_nil _ _ _ _, Below.refl _ _⟩
  case round =>
    obtain ⟨k, hk, rfl, hown, hb⟩ := hrel
    by_cases hlt : k < s.size
    · have hnext : Hid ((((lowL (ls s)).take k).map bv) ++ [.int .u8 (lowI (s[k].toNat : Int))] = ((lowL (ls s)).take (k + 1)).map bv) := by
        have hl : k < (lowL (ls s)).length := by rw [lowL_length, ls_length]; exact hlt
        rw [List.take_succ_eq_append_getElem hl, List.map_append]
        simp only [lowL, List.getElem_map, ls_getE s k hlt, List.map_cons, List.map_nil, bv_eq, lowU_toNat]
        rfl
      have hbl := byte_lt s[k]
      by_cases hu : upperB (s[k].toNat : Int) = true
      · have hlo : Hid (lowI (s[k].toNat : Int) = (s[k].toNat : Int) + 32) := by show _ = _; simp [lowI, hu]
        have h65 : (65 : Int) ≤ (s[k].toNat : Int) := by simp [upperB] at hu; omega
        have h90 : (s[k].toNat : Int) ≤ 90 := by simp [upperB] at hu; omega
        clear hu
        go_wp2_with (at_builtin; refine wpList_app_one _ rfl _ _ 40 rfl w.heap.size 5 i5 (.int .u8 0) 1 tyBs hi5 hz0 hz1 hz2 rfl _ (by exact rfl) _ _ _ (by exact rfl) hown (by exact rfl) (by unfold maxLen; omega) (by omega) hb (Nat.le_refl _) ?_; intro v' w' hown' hb' _)
        go_roundw
        case rel => exact ⟨k + 1, by omega, by go_num, by rw [← hnext.out, hlo.out]; exact hown', hb'⟩
        case measure => simp [intOf]; omega
      · have hlo : Hid (lowI (s[k].toNat : Int) = (s[k].toNat : Int)) := by show _ = _; simp [lowI, hu]
        have hnu : ¬ ((65 : Int) ≤ (s[k].toNat : Int) ∧ (s[k].toNat : Int) ≤ 90) := by
          intro hc
          exact hu (by simp [upperB]; omega)
        clear hu
        by_cases h65 : (65 : Int) ≤ (s[k].toNat : Int)
        · have h90 : ¬ (s[k].toNat : Int) ≤ 90 := fun hc => hnu ⟨h65, hc⟩
          clear hnu
          go_wp2_with (at_builtin; refine wpList_app_one _ rfl _ _ 40 rfl w.heap.size 5 i5 (.int .u8 0) 1 tyBs hi5 hz0 hz1 hz2 rfl _ (by exact rfl) _ _ _ (by exact rfl) hown (by exact rfl) (by unfold maxLen; omega) (by omega) hb (Nat.le_refl _) ?_; intro v' w' hown' hb' _)
          go_roundw
          case rel => exact ⟨k + 1, by omega, by go_num, by rw [← hnext.out, hlo.out]; exact hown', hb'⟩
          case measure => simp [intOf]; omega
        · clear hnu
          go_wp2_with (at_builtin; refine wpList_app_one _ rfl _ _ 40 rfl w.heap.size 5 i5 (.int .u8 0) 1 tyBs hi5 hz0 hz1 hz2 rfl _ (by exact rfl) _ _ _ (by exact rfl) hown (by exact rfl) (by unfold maxLen; omega) (by omega) hb (Nat.le_refl _) ?_; intro v' w' hown' hb' _)
          go_roundw
          case rel => exact ⟨k + 1, by omega, by go_num, by rw [← hnext.out, hlo.out]; exact hown', hb'⟩
          case measure => simp [intOf]; omega
    · obtain rfl : k = s.size := by omega
      have hall : Hid (((lowL (ls s)).take s.size) = lowL (ls s)) := by
        show _ = _
        rw [List.take_of_length_le (by rw [lowL_length, ls_length]; exact Nat.le_refl _)]
      rw [hall.out] at hown
      have hconv := str_owned wr _ _ _ _ hown
      go_wp2
      go_ret
      exact ⟨rfl, hb⟩
end

section
open Go.RowKit

set_option maxRecDepth 20000 in
set_option maxHeartbeats 2000000 in
theorem refLab_any (s : ByteArray) (w : World) (hs : s.size ≤ 1000000000) :
    Calls Tryz.prog 57 #[.string s] w fun e w' => e = .returned (.bool (labL (ls s))) ∧ Below w.heap.size w w' := by
  by_cases h0 : s.size = 0
  · have hlab := Lib.hid (lab_zero h0)
    have he : s.toList.isEmpty = true := by rw [toList_ls]; exact List.isEmpty_iff.2 (List.eq_nil_of_length_eq_zero (by rw [ls_length]; exact h0))
    go_enter Tryz.func57, Tryz.ntmps57
    go_wp2
    go_ret
    exact ⟨ret_bool hlab.out.symm, Below.refl _ _⟩
  · have he : s.toList.isEmpty = false := by rw [toList_ls]; exact ne_empty h0
    by_cases h1 : 63 < s.size
    · have hlab := Lib.hid (lab_long h1)
      have hd : decide ((63 : Int) < (s.size : Int)) = true := decide_eq_true (by omega)
      go_enter Tryz.func57, Tryz.ntmps57
      go_wp2
      go_ret
      exact ⟨ret_bool hlab.out.symm, Below.refl _ _⟩
    · have hd : decide ((63 : Int) < (s.size : Int)) = false := decide_eq_false (by omega)
      have hz0 : (0 : Int) < (s.size : Int) := by omega
      have hf0 : 0 < s.size := by omega
      obtain ⟨y0, hy0⟩ : ∃ y0 : Nat, y0 = (s[0]'hf0).toNat := ⟨_, rfl⟩
      obtain ⟨y1, hy1⟩ : ∃ y1 : Nat, y1 = (s[s.size - 1]'(by omega)).toNat := ⟨_, rfl⟩
      have hends := Lib.hid (lab_ends hf0 hy0 hy1)
      by_cases h2 : y0 = 45
      · have hlab := Lib.hid (hends.out.1 (.inl h2))
        have e0 : (((s[0]'hf0).toNat : Int) == 45) = true := by rw [← hy0, h2]; rfl
        clear hy0 hy1
        go_enter Tryz.func57, Tryz.ntmps57
        go_wp2
        go_ret
        exact ⟨ret_bool hlab.out.symm, Below.refl _ _⟩
      · have e0 : (((s[0]'hf0).toNat : Int) == 45) = false := by rw [← hy0]; simp; omega
        have hsub : (s.size : Int) - 1 = ((s.size - 1 : Nat) : Int) := by omega
        by_cases h3 : y1 = 45
        · have hlab := Lib.hid (hends.out.1 (.inr h3))
          have e1 : (((s[s.size - 1]'(by omega)).toNat : Int) == 45) = true := by rw [← hy1, h3]; rfl
          clear hy0 hy1
          go_enter Tryz.func57, Tryz.ntmps57
          go_wp2
          go_ret
          exact ⟨ret_bool hlab.out.symm, Below.refl _ _⟩
        · have hlab := Lib.hid (hends.out.2 ⟨h2, h3, by omega⟩)
          have e1 : (((s[s.size - 1]'(by omega)).toNat : Int) == 45) = false := by rw [← hy1]; simp; omega
          clear hy0 hy1 hends
          rw [hlab.out]
          have HS : Hid (s.size ≤ 63) := by show _ ≤ _; omega
          obtain ⟨R, hR⟩ : ∃ R, R = restLab (ls s) := ⟨_, rfl⟩
          have HR := Lib.hid hR
          rw [← hR]
          clear hR hlab
          go_enter Tryz.func57, Tryz.ntmps57
          go_wp2
          clear e0 e1 h2 h3 hsub he
          go_loop [3] (fun i => ∃ k : Nat, k ≤ s.size ∧ i = .int .i64 k ∧ Hid (okK (ls s) k = true)) (fun i => s.size - (intOf i).toNat)
          case atStart => exact ⟨0, Nat.zero_le _, rfl, rfl⟩
          case round =>
            obtain ⟨k, hk, rfl, HK⟩ := hrel
            have hs63 : s.size ≤ 63 := HS.out
            by_cases hlt : k < s.size
            · have hkl : k < (ls s).length := by rw [ls_length]; exact hlt
              have HG := Lib.hid (okK_succ (ls s) k hkl)
              have HB : Hid (okN (ls s)[k].toNat = false → R = false) := fun hb => by rw [HR.out]; exact rest_bad k hkl hb
              rw [ls_getE s k hlt hkl] at HG HB
              have hkd : decide ((k : Int) < (s.size : Int)) = true := decide_eq_true (by omega)
              have hyl := byte_lt s[k]
              go_wp2
              all_goals
                first
                | (go_ret
                   have hno : okN s[k].toNat = false := by
                     rw [okN_no]
                     first
                     | omega
                     | (have h := ‹(_ ∧ _) ∧ _›; simp at h; first | done | omega)
                     | (have h := ‹_ ∧ _›; simp at h; first | done | omega)
                   exact ⟨ret_bool (HB.out hno).symm, Below.refl _ _⟩)
                | (have hyes : okN s[k].toNat = true := by
                     rw [okN_yes]
                     first
                     | omega
                     | (have h := ‹(_ ∨ _) ∨ _›; simp at h; first | done | omega)
                     | (have h := ‹_ ∨ _›; simp at h; first | done | omega)
                   have HK2 : Hid (okK (ls s) (k + 1) = true) := by show _ = _; rw [HG.out, HK.out, hyes]; rfl
                   clear hyes
                   go_round
                   case rel => exact ⟨k + 1, by omega, by go_num, HK2⟩
                   case measure => simp [intOf]; omega)
            · obtain rfl : k = s.size := by omega
              have hkd : decide ((s.size : Int) < (s.size : Int)) = false := by simp
              have HR2 : Hid (R = (decide ((ls s).take 4 ≠ xnL) || propL ((ls s).drop 4))) := by
                show _ = _
                rw [HR.out]
                exact rest_all (by rw [ls_length]; exact HK.out)
              by_cases h4 : s.size < 4
              · have hd4 : decide ((s.size : Int) < 4) = true := decide_eq_true (by omega)
                have HR3 : Hid (R = true) := by show _ = _; rw [HR2.out, xn_short (by rw [ls_length]; exact h4)]; rfl
                go_wp2
                go_ret
                exact ⟨ret_bool HR3.out.symm, Below.refl _ _⟩
              · have hd4 : decide ((s.size : Int) < 4) = false := decide_eq_false (by omega)
                have h4z : (4 : Int) ≤ (s.size : Int) := by omega
                have hx : (s.extract 0 4).toList = (ls s).take 4 := by rw [toList_ls, ls_extract, List.drop_zero]
                by_cases hxn : (ls s).take 4 = xnL
                · have q1 : ((s.extract 0 4).toList != [120, 110, 45, 45]) = false := by rw [hx, hxn]; rfl
                  have q2 : ((s.extract 0 4).toList == [120, 110, 45, 45]) = true := by rw [hx, hxn]; rfl
                  have c1 := refProper_any (s.extract 4 s.size) w
                  have hr : Hid (R = propL (ls (s.extract 4 s.size))) := by
                    show _ = _
                    rw [HR2.out, decide_eq_false (by simp [hxn]), Bool.false_or, ls_extract, List.take_of_length_le (by rw [List.length_drop, ls_length]; exact Nat.le_refl _)]
                  rw [← hr.out] at c1
                  clear hx hxn
                  go_wp2_with (go_at_call 95; refine c1.mono ?_; rintro e w' ⟨rfl, hb'⟩)
                  go_ret
                  exact ⟨rfl, hb'⟩
                · have q1 : ((s.extract 0 4).toList != [120, 110, 45, 45]) = true := by rw [hx, bne_iff_ne]; exact hxn
                  have q2 : ((s.extract 0 4).toList == [120, 110, 45, 45]) = false := by rw [hx]; exact beq_false_of_ne hxn
                  have HR3 : Hid (R = true) := by show _ = _; rw [HR2.out, decide_eq_true hxn]; rfl
                  clear hx hxn
                  go_wp2
                  go_ret
                  exact ⟨ret_bool HR3.out.symm, Below.refl _ _⟩


theorem xn_size {s : ByteArray} (h : (ls s).take 4 = xnL) : 4 ≤ s.size := by
  have := congrArg List.length h
  rw [List.length_take, ls_length] at this
  unfold xnL at this
  simp at this
  omega
theorem ls_from (s : ByteArray) (k : Nat) : ls (s.extract k s.size) = (ls s).drop k := by
  rw [ls_extract, List.take_of_length_le (by rw [List.length_drop, ls_length]; exact Nat.le_refl _)]
theorem toU_no {l : List UInt8} (h : labL l = false) : toU l = (14, []) := by unfold toU; rw [if_neg (by rw [h]; simp)]
theorem toU_xn {l : List UInt8} {p : List Nat} (h : labL l = true) (hx : l.take 4 = xnL) (hd : decL (l.drop 4) = .ok p) : toU l = (0, txtL p) := by
  unfold toU toUOut toUOut.puV'
  rw [if_pos h, if_pos hx, hd]
theorem toU_self {l : List UInt8} (h : labL l = true) (hx : ¬ l.take 4 = xnL) : toU l = (0, l) := by
  unfold toU toUOut
  rw [if_pos h, if_neg hx]
theorem toA_none {l : List UInt8} (h : ptsL l = none) : toA l = (4, []) := by unfold toA; rw [h]
theorem toA_many {l : List UInt8} {P : List Nat} (h : ptsL l = some P) (hl : 256 < P.length) : toA l = (3, []) := by
  unfold toA
  rw [h]
  exact if_pos hl
theorem toA_some {l : List UInt8} {P : List Nat} (h : ptsL l = some P) (hl : ¬ 256 < P.length) : toA l = if labL (toAOut l P) = true then (0, toAOut l P) else (14, []) := by
  unfold toA
  rw [h]
  exact if_neg hl

set_option maxRecDepth 20000 in
set_option maxHeartbeats 2000000 in
theorem refToA_any (s : ByteArray) (w : World) (hs : s.size ≤ 1000000000) :
    Calls Tryz.prog 56 #[.string s] w fun e w' => e = .returned (.tuple #[.string (bs (toA (ls s)).2), .int .i64 ((toA (ls s)).1 : Nat)]) ∧ Below w.heap.size w w' := by
  have c1 := refPts_any s w hs
  unfold PtsPost at c1
  cases hp : ptsL (ls s) with
  | none =>
    rw [toA_none hp]
    rw [hp] at c1
    clear hp
    go_enter Tryz.func56, Tryz.ntmps56
    go_wp2_with fail
    refine c1.mono ?_
    rintro e w1 ⟨⟨v, rfl, _⟩, hb⟩
    go_wp2
    go_ret2
    exact ⟨rfl, hb⟩
  | some P =>
    obtain ⟨hpt, htx⟩ := txt_pts hp
    have hle := (txtL_len P).1
    rw [htx, ls_length] at hle
    rw [hp] at c1
    by_cases h256 : 256 < P.length
    · rw [toA_many hp h256]
      have hd : decide ((256 : Int) < (P.length : Int)) = true := decide_eq_true (by omega)
      clear hp hpt htx
      go_enter Tryz.func56, Tryz.ntmps56
      go_wp2_with fail
      refine c1.mono ?_
      rintro e w1 ⟨⟨v, rfl, hown⟩, hb⟩
      obtain ⟨A1, k1, rfl, hh, _⟩ := Has.of_own hown
      rw [show (some P).getD [] = P from rfl] at *
      rw [show (some P).isSome = true from rfl]
      go_wp2
      go_ret2
      exact ⟨rfl, hb⟩
    · rw [toA_some hp h256]
      have hd : decide ((256 : Int) < (P.length : Int)) = false := decide_eq_false (by omega)
      have cL := fun W => refLower_any s W hs
      by_cases hlt : P.length < s.size
      · have hlN : decide ((P.length : Int) < (s.size : Int)) = true := decide_eq_true (by omega)
        have hsz : (lowS s).size = s.size := by rw [← ls_length, show ls (lowS s) = lowL (ls s) from rfl, lowL_length, ls_length]
        have c2 := fun W => refPts_any (lowS s) W (by omega)
        unfold PtsPost at c2
        rw [show ls (lowS s) = lowL (ls s) from rfl, pts_low, hp, Option.map_some, show (some (P.map lowP)).getD [] = P.map lowP from rfl, show (some (P.map lowP)).isSome = true from rfl] at c2
        have hpt2 : ∀ x ∈ P.map lowP, ptN x = true := by
          intro x hx
          obtain ⟨y, hy, rfl⟩ := List.mem_map.1 hx
          exact lowP_pt (hpt y hy)
        have eO : toAOut (ls s) P = xnL ++ encB (P.map lowP) := by unfold toAOut; rw [if_pos (by rw [ls_length]; exact hlt)]
        obtain ⟨Q, hQ⟩ : ∃ Q, Q = P.map lowP := ⟨_, rfl⟩
        have hQl : Q.length = P.length := by rw [hQ, List.length_map]
        rw [← hQ] at c2 hpt2 eO
        have cE := fun A c B W hA hB => refEnc_any (Q.map (fun n : Nat => (n : Int))) A Q.length c B W hA hB
        rw [encL_of hpt2 (by omega)] at cE
        obtain ⟨X, hX⟩ : ∃ X, X = bs (encB Q) := ⟨_, rfl⟩
        rw [show ((0 : Nat), encB Q).2 = encB Q from rfl, show (((0 : Nat), encB Q).1 : Nat) = 0 from rfl, ← hX] at cE
        have hXl : X.size ≤ 4000 := by
          have := encB_len hpt2 (by omega)
          rw [hX, bs_size]
          omega
        have hY : ∀ Y : ByteArray, Y = (⟨#[120, 110, 45, 45]⟩ : ByteArray) ++ X → Y.size ≤ 1000000000 ∧ ls Y = toAOut (ls s) P := by
          intro Y hY
          refine ⟨?_, ?_⟩
          · rw [hY, ByteArray.size_append, show (⟨#[120, 110, 45, 45]⟩ : ByteArray).size = 4 from rfl]; omega
          · rw [hY, ls_append, hX, eO]; rfl
        obtain ⟨hYs, eY⟩ := hY _ rfl
        have c4 := fun W => refLab_any _ W hYs
        rw [eY] at c4
        have HB : Hid (bs (toAOut (ls s) P) = (⟨#[120, 110, 45, 45]⟩ : ByteArray) ++ X) := by show _ = _; rw [← eY, bs_ls]
        obtain ⟨O, hO⟩ : ∃ O, O = toAOut (ls s) P := ⟨_, rfl⟩
        rw [← hO] at c4 HB ⊢
        rw [show (some P).getD [] = P from rfl, show (some P).isSome = true from rfl] at c1
        obtain ⟨q, hq⟩ : ∃ q, q = labL O := ⟨_, rfl⟩
        rw [← hq] at c4 ⊢
        clear hp hpt htx hX hY eY hO hq eO hQ hQl hpt2 hsz hs hYs hle
        have hfin : (if q = true then ((0 : Nat), O) else (14, [])) = (if q = true then 0 else 14, if q = true then O else []) := by cases q <;> rfl
        rw [hfin]
        have HF : Hid (bs (if q = true then O else []) = if q = true then (⟨#[120, 110, 45, 45]⟩ : ByteArray) ++ X else ByteArray.mk #[]) := by
          show _ = _
          cases q
          · rfl
          · exact HB.out
        rw [HF.out]
        clear HF HB hfin
        go_enter Tryz.func56, Tryz.ntmps56
        go_wp2_with fail
        refine c1.mono ?_
        rintro e w1 ⟨⟨v, rfl, hown⟩, hb⟩
        obtain ⟨A1, k1, rfl, hh, _⟩ := Has.of_own hown
        clear hh hown
        go_wp2_with fail
        refine (cL _).mono ?_
        rintro e w2 ⟨rfl, hb2⟩
        replace hb2 := hb.trans (hb2.mono hb.size)
        go_wp2_with fail
        refine (c2 _).mono ?_
        rintro e w3 ⟨⟨v3, rfl, hown3⟩, hb3⟩
        rw [nvI_zv] at hown3
        obtain ⟨A3, k3, rfl, hh3, _⟩ := Has.of_own hown3
        replace hb3 := hb2.trans (hb3.mono hb2.size)
        clear hown3
        go_wp2_with fail
        refine (cE A3 k3 _ w3 hh3 (Nat.le_refl _)).mono ?_
        rintro e w4 ⟨rfl, hb4⟩
        replace hb4 := hb3.trans (hb4.mono hb3.size)
        cases q
        all_goals
          go_wp2_with fail
          refine (c4 _).mono ?_
          rintro e w5 ⟨rfl, hb5⟩
          replace hb5 := hb4.trans (hb5.mono hb4.size)
          go_wp2
          go_ret2
          exact ⟨rfl, hb5⟩
      · have hlN : decide ((P.length : Int) < (s.size : Int)) = false := decide_eq_false (by omega)
        have eO : toAOut (ls s) P = lowL (ls s) := by unfold toAOut; rw [if_neg (by rw [ls_length]; exact hlt)]
        rw [eO]
        have c4 := fun W => refLab_any (lowS s) W (by rw [← ls_length, show ls (lowS s) = lowL (ls s) from rfl, lowL_length, ls_length]; exact hs)
        rw [show ls (lowS s) = lowL (ls s) from rfl] at c4
        have HB : Hid (bs (lowL (ls s)) = lowS s) := rfl
        rw [show (some P).getD [] = P from rfl, show (some P).isSome = true from rfl] at c1
        obtain ⟨O, hO⟩ : ∃ O, O = lowL (ls s) := ⟨_, rfl⟩
        rw [← hO] at c4 HB ⊢
        obtain ⟨q, hq⟩ : ∃ q, q = labL O := ⟨_, rfl⟩
        rw [← hq] at c4 ⊢
        clear hp hpt htx hO hq eO hle
        have hfin : (if q = true then ((0 : Nat), O) else (14, [])) = (if q = true then 0 else 14, if q = true then O else []) := by cases q <;> rfl
        rw [hfin]
        have HF : Hid (bs (if q = true then O else []) = if q = true then lowS s else ByteArray.mk #[]) := by
          show _ = _
          cases q
          · rfl
          · exact HB.out
        rw [HF.out]
        clear HF HB hfin
        go_enter Tryz.func56, Tryz.ntmps56
        go_wp2_with fail
        refine c1.mono ?_
        rintro e w1 ⟨⟨v, rfl, hown⟩, hb⟩
        obtain ⟨A1, k1, rfl, hh, _⟩ := Has.of_own hown
        clear hh hown
        go_wp2_with fail
        refine (cL _).mono ?_
        rintro e w2 ⟨rfl, hb2⟩
        replace hb2 := hb.trans (hb2.mono hb.size)
        cases q
        all_goals
          go_wp2_with fail
          refine (c4 _).mono ?_
          rintro e w5 ⟨rfl, hb5⟩
          replace hb5 := hb2.trans (hb5.mono hb2.size)
          go_wp2
          go_ret2
          exact ⟨rfl, hb5⟩
end

section
open Go.RowKit

theorem isPt_any (z : Int) (w : World) :
    Calls Tryz.prog 162 #[.int .i64 z] w fun e w' => e = .returned (.bool (ptZ z)) ∧ w = w' := by
  by_cases h0 : 0 ≤ z
  · by_cases h1 : z ≤ 1114111
    · by_cases h2 : z < 55296
      · have HE : Hid (ptZ z = true) := by show _ = _; unfold ptZ ptN; simp; omega
        have d0 : decide ((0 : Int) ≤ z) = true := decide_eq_true h0
        have d1 : decide (z ≤ 1114111) = true := decide_eq_true h1
        have d2 : decide (z < 55296) = true := decide_eq_true h2
        go_enter Tryz.func162, Tryz.ntmps162
        go_wp2
        go_ret
        exact ⟨ret_bool HE.out.symm, rfl⟩
      · by_cases h3 : 57343 < z
        · have HE : Hid (ptZ z = true) := by show _ = _; unfold ptZ ptN; simp; omega
          have d0 : decide ((0 : Int) ≤ z) = true := decide_eq_true h0
          have d1 : decide (z ≤ 1114111) = true := decide_eq_true h1
          have d2 : decide (z < 55296) = false := decide_eq_false h2
          have d3 : decide ((57343 : Int) < z) = true := decide_eq_true h3
          go_enter Tryz.func162, Tryz.ntmps162
          go_wp2
          go_ret
          exact ⟨ret_bool HE.out.symm, rfl⟩
        · have HE : Hid (ptZ z = false) := by show _ = _; unfold ptZ ptN; simp; omega
          have d0 : decide ((0 : Int) ≤ z) = true := decide_eq_true h0
          have d1 : decide (z ≤ 1114111) = true := decide_eq_true h1
          have d2 : decide (z < 55296) = false := decide_eq_false h2
          have d3 : decide ((57343 : Int) < z) = false := decide_eq_false h3
          go_enter Tryz.func162, Tryz.ntmps162
          go_wp2
          go_ret
          exact ⟨ret_bool HE.out.symm, rfl⟩
    · have HE : Hid (ptZ z = false) := by show _ = _; unfold ptZ ptN; simp; omega
      have d0 : decide ((0 : Int) ≤ z) = true := decide_eq_true h0
      have d1 : decide (z ≤ 1114111) = false := decide_eq_false h1
      go_enter Tryz.func162, Tryz.ntmps162
      go_wp2
      go_ret
      exact ⟨ret_bool HE.out.symm, rfl⟩
  · have HE : Hid (ptZ z = false) := by show _ = _; unfold ptZ; simp; omega
    have d0 : decide ((0 : Int) ≤ z) = false := decide_eq_false h0
    go_enter Tryz.func162, Tryz.ntmps162
    go_wp2
    go_ret
    exact ⟨ret_bool HE.out.symm, rfl⟩

theorem digB_any (d : Nat) (hd : d < 36) (w : World) :
    Calls Tryz.prog 199 #[.int .i64 (d : Int)] w fun e w' => e = .returned (.int .u8 ((digB d).toNat : Int)) ∧ w = w' := by
  by_cases h : d < 26
  · have d1 : decide ((d : Int) < 26) = true := decide_eq_true (by omega)
    have HE : Hid (((digB d).toNat : Int) = 97 + (d : Int)) := by
      show _ = _
      unfold digB
      rw [if_pos h, UInt8.toNat_ofNat']
      omega
    go_enter Tryz.func199, Tryz.ntmps199
    go_wp2
    go_ret
    exact ⟨ret_int HE.out.symm, rfl⟩
  · have d1 : decide ((d : Int) < 26) = false := decide_eq_false (by omega)
    have HE : Hid (((digB d).toNat : Int) = 48 + ((d : Int) - 26)) := by
      show _ = _
      unfold digB
      rw [if_neg h, UInt8.toNat_ofNat']
      omega
    go_enter Tryz.func199, Tryz.ntmps199
    go_wp2
    go_ret
    exact ⟨ret_int HE.out.symm, rfl⟩

/-- The value of a digit, or 36. -/
def dvN (b : UInt8) : Nat := match pval b with
  | some d => d
  | none => 36
theorem dvN_some {b : UInt8} {d : Nat} (h : pval b = some d) : dvN b = d := by unfold dvN; rw [h]
theorem dvN_none {b : UInt8} (h : pval b = none) : dvN b = 36 := by unfold dvN; rw [h]
theorem digOf_any (b : UInt8) (w : World) :
    Calls Tryz.prog 224 #[.int .u8 (b.toNat : Int)] w fun e w' => e = .returned (.int .i64 (dvN b : Nat)) ∧ w = w' := by
  have hlt := b.toNat_lt
  by_cases h1 : 97 ≤ b.toNat ∧ b.toNat ≤ 122
  · have HE : Hid (((dvN b : Nat) : Int) = (b.toNat : Int) - 97) := by show _ = _; unfold dvN pval; rw [if_pos h1]; show ((b.toNat - 97 : Nat) : Int) = _; omega
    have d1 : decide ((97 : Int) ≤ (b.toNat : Int)) = true := decide_eq_true (by omega)
    have d2 : decide ((b.toNat : Int) ≤ 122) = true := decide_eq_true (by omega)
    go_enter Tryz.func224, Tryz.ntmps224
    go_wp2
    go_ret
    exact ⟨ret_int HE.out.symm, rfl⟩
  · by_cases h2 : 65 ≤ b.toNat ∧ b.toNat ≤ 90
    · have HE : Hid (((dvN b : Nat) : Int) = (b.toNat : Int) - 65) := by show _ = _; unfold dvN pval; rw [if_neg h1, if_pos h2]; show ((b.toNat - 65 : Nat) : Int) = _; omega
      have d1 : decide ((97 : Int) ≤ (b.toNat : Int)) = false := decide_eq_false (by omega)
      have d2 : decide ((65 : Int) ≤ (b.toNat : Int)) = true := decide_eq_true (by omega)
      have d3 : decide ((b.toNat : Int) ≤ 90) = true := decide_eq_true (by omega)
      go_enter Tryz.func224, Tryz.ntmps224
      go_wp2
      go_ret
      exact ⟨ret_int HE.out.symm, rfl⟩
    · by_cases h3 : 48 ≤ b.toNat ∧ b.toNat ≤ 57
      · have HE : Hid (((dvN b : Nat) : Int) = 26 + ((b.toNat : Int) - 48)) := by show _ = _; unfold dvN pval; rw [if_neg h1, if_neg h2, if_pos h3]; show ((b.toNat - 22 : Nat) : Int) = _; omega
        have d1 : decide ((97 : Int) ≤ (b.toNat : Int)) = false := decide_eq_false (by omega)
        have d2 : decide ((65 : Int) ≤ (b.toNat : Int)) = false := decide_eq_false (by omega)
        have d3 : decide ((48 : Int) ≤ (b.toNat : Int)) = true := decide_eq_true (by omega)
        have d4 : decide ((b.toNat : Int) ≤ 57) = true := decide_eq_true (by omega)
        go_enter Tryz.func224, Tryz.ntmps224
        go_wp2
        go_ret
        exact ⟨ret_int HE.out.symm, rfl⟩
      · have HE : Hid (((dvN b : Nat) : Int) = 36) := by show _ = _; unfold dvN pval; rw [if_neg h1, if_neg h2, if_neg h3]; rfl
        have c1 : (decide ((97 : Int) ≤ (b.toNat : Int)) && decide ((b.toNat : Int) ≤ 122)) = false := by rw [Bool.and_eq_false_iff, decide_eq_false_iff_not, decide_eq_false_iff_not]; omega
        have c2 : (decide ((65 : Int) ≤ (b.toNat : Int)) && decide ((b.toNat : Int) ≤ 90)) = false := by rw [Bool.and_eq_false_iff, decide_eq_false_iff_not, decide_eq_false_iff_not]; omega
        have c3 : (decide ((48 : Int) ≤ (b.toNat : Int)) && decide ((b.toNat : Int) ≤ 57)) = false := by rw [Bool.and_eq_false_iff, decide_eq_false_iff_not, decide_eq_false_iff_not]; omega
        go_enter Tryz.func224, Tryz.ntmps224
        go_wp2
        all_goals (go_ret; exact ⟨ret_int HE.out.symm, rfl⟩)

set_option maxHeartbeats 800000 in
theorem adp_any (delta n : Nat) (first : Bool) (hd : delta ≤ 2199023255552) (hn : 1 ≤ n) (hn2 : n ≤ 1000000000) (w : World) :
    Calls Tryz.prog 166 #[.int .i64 (delta : Int), .int .i64 (n : Int), .bool first] w fun e w' => e = .returned (.int .i64 (adp delta n first : Nat)) ∧ w = w' := by
  obtain ⟨R, hR⟩ : ∃ R, R = adp delta n first := ⟨_, rfl⟩
  rw [← hR]
  have e700 : Int.tdiv (delta : Int) 700 = ((delta / 700 : Nat) : Int) := by rw [Int.tdiv_eq_ediv_of_nonneg (by omega)]; omega
  have e2 : Int.tdiv (delta : Int) 2 = ((delta / 2 : Nat) : Int) := by rw [Int.tdiv_eq_ediv_of_nonneg (by omega)]; omega
  have key : ∀ d0 : Nat, d0 ≤ 1099511627776 → Int.tdiv (d0 : Int) (n : Int) = ((d0 / n : Nat) : Int) := by
    intro d0 _
    rw [Int.tdiv_eq_ediv_of_nonneg (by omega)]
    exact (Int.natCast_ediv d0 n).symm
  have hn0 : ¬ (n : Int) = 0 := by omega
  cases first with
  | true =>
    obtain ⟨d0, hd0⟩ : ∃ d0 : Nat, d0 = delta / 700 := ⟨_, rfl⟩
    have hb0 : d0 ≤ 1099511627776 := by omega
    have k0 := key d0 hb0
    obtain ⟨q, hq⟩ : ∃ q : Nat, q = d0 / n := ⟨_, rfl⟩
    have hqb : q ≤ d0 := by rw [hq]; exact Nat.div_le_self _ _
    rw [← hq] at k0
    rw [← hd0] at e700
    have HA : Hid (adpGo (d0 + q) 0 = R) := Lib.hid (by rw [hR, hq, hd0]; rfl)
    clear key hq hd0 hR e2
    go_enter Tryz.func166, Tryz.ntmps166
    go_wp2
    go_loop [0, 7] (fun d k => ∃ D K : Nat, d = .int .i64 D ∧ k = .int .i64 K ∧ K + D ≤ 4398046511104 ∧ Hid (adpGo D K = R)) (fun d _ => (intOf d).toNat)
    case atStart => exact ⟨d0 + q, 0, by go_num, rfl, by omega, HA⟩
    case round =>
      obtain ⟨D, K, rfl, rfl, hDK, HG⟩ := hrel
      by_cases h455 : 455 < D
      · have hc : decide ((455 : Int) < (D : Int)) = true := decide_eq_true (by omega)
        have h35 : Int.tdiv (D : Int) 35 = ((D / 35 : Nat) : Int) := by rw [Int.tdiv_eq_ediv_of_nonneg (by omega)]; omega
        have HG2 : Hid (adpGo (D / 35) (K + 36) = R) := by
          show _ = _
          rw [← HG.out, adpGo.eq_def D K, if_pos h455]
        go_wp2
        go_round
        case rel => exact ⟨D / 35, K + 36, by go_num, by go_num, by omega, HG2⟩
        case measure => simp [intOf]; omega
      · have hc : decide ((455 : Int) < (D : Int)) = false := decide_eq_false (by omega)
        have h38 : Int.tdiv (36 * (D : Int)) ((D : Int) + 38) = ((36 * D / (D + 38) : Nat) : Int) := by
          rw [Int.tdiv_eq_ediv_of_nonneg (by omega)]
          exact (Int.natCast_ediv (36 * D) (D + 38)).symm
        have hq2 : 36 * D / (D + 38) ≤ 36 := by
          refine Nat.div_le_of_le_mul ?_
          rw [Nat.add_mul]
          omega
        have hne : ¬ (D : Int) + 38 = 0 := by omega
        have HG2 : Hid (((K + 36 * D / (D + 38) : Nat) : Int) = (R : Int)) := by
          show _ = _
          rw [← HG.out, adpGo.eq_def D K, if_neg h455]
        obtain ⟨z, hz⟩ : ∃ z, z = 36 * D / (D + 38) := ⟨_, rfl⟩
        rw [← hz] at h38 hq2 HG2
        clear hz
        go_wp2
        go_ret
        exact ⟨ret_int (by rw [← HG2.out]; omega), rfl⟩
  | false =>
    obtain ⟨d0, hd0⟩ : ∃ d0 : Nat, d0 = delta / 2 := ⟨_, rfl⟩
    have hb0 : d0 ≤ 1099511627776 := by omega
    have k0 := key d0 hb0
    obtain ⟨q, hq⟩ : ∃ q : Nat, q = d0 / n := ⟨_, rfl⟩
    have hqb : q ≤ d0 := by rw [hq]; exact Nat.div_le_self _ _
    rw [← hq] at k0
    rw [← hd0] at e2
    have HA : Hid (adpGo (d0 + q) 0 = R) := Lib.hid (by rw [hR, hq, hd0]; rfl)
    clear key hq hd0 hR e700
    go_enter Tryz.func166, Tryz.ntmps166
    go_wp2
    go_loop [0, 7] (fun d k => ∃ D K : Nat, d = .int .i64 D ∧ k = .int .i64 K ∧ K + D ≤ 4398046511104 ∧ Hid (adpGo D K = R)) (fun d _ => (intOf d).toNat)
    case atStart => exact ⟨d0 + q, 0, by go_num, rfl, by omega, HA⟩
    case round =>
      obtain ⟨D, K, rfl, rfl, hDK, HG⟩ := hrel
      by_cases h455 : 455 < D
      · have hc : decide ((455 : Int) < (D : Int)) = true := decide_eq_true (by omega)
        have h35 : Int.tdiv (D : Int) 35 = ((D / 35 : Nat) : Int) := by rw [Int.tdiv_eq_ediv_of_nonneg (by omega)]; omega
        have HG2 : Hid (adpGo (D / 35) (K + 36) = R) := by
          show _ = _
          rw [← HG.out, adpGo.eq_def D K, if_pos h455]
        go_wp2
        go_round
        case rel => exact ⟨D / 35, K + 36, by go_num, by go_num, by omega, HG2⟩
        case measure => simp [intOf]; omega
      · have hc : decide ((455 : Int) < (D : Int)) = false := decide_eq_false (by omega)
        have h38 : Int.tdiv (36 * (D : Int)) ((D : Int) + 38) = ((36 * D / (D + 38) : Nat) : Int) := by
          rw [Int.tdiv_eq_ediv_of_nonneg (by omega)]
          exact (Int.natCast_ediv (36 * D) (D + 38)).symm
        have hq2 : 36 * D / (D + 38) ≤ 36 := by
          refine Nat.div_le_of_le_mul ?_
          rw [Nat.add_mul]
          omega
        have hne : ¬ (D : Int) + 38 = 0 := by omega
        have HG2 : Hid (((K + 36 * D / (D + 38) : Nat) : Int) = (R : Int)) := by
          show _ = _
          rw [← HG.out, adpGo.eq_def D K, if_neg h455]
        obtain ⟨z, hz⟩ : ∃ z, z = 36 * D / (D + 38) := ⟨_, rfl⟩
        rw [← hz] at h38 hq2 HG2
        clear hz
        go_wp2
        go_ret
        exact ⟨ret_int (by rw [← HG2.out]; omega), rfl⟩
end

section
open Go.RowKit

/-- The two variables of a closure of thresholds: K calls of it are done. -/
structure Clo (w : World) (B bk bb K bias : Nat) : Prop where
  lk : B ≤ bk
  ne : bk ≠ bb
  hk : w.heap[bk]? = some (.cells #[.int .i64 ((36 * K : Nat) : Int)] 3 (0, 0))
  hb : w.heap[bb]? = some (.cells #[.int .i64 (bias : Int)] 3 (0, 0))
theorem Clo.mono {w : World} {B B' bk bb K bias : Nat} (h : Clo w B bk bb K bias) (hB : B' ≤ B) : Clo w B' bk bb K bias := ⟨Nat.le_trans hB h.lk, h.ne, h.hk, h.hb⟩
theorem Clo.kept {w w' : World} {B bk bb K bias : Nat} {row : Option Nat} (h : Clo w B bk bb K bias) (hg : w.grownBy w' row) (h1 : some bk ≠ row) (h2 : some bb ≠ row) : Clo w' B bk bb K bias :=
  ⟨h.lk, h.ne, (hg.block bk (lt_of_block h.hk) h1).trans h.hk, (hg.block bb (lt_of_block h.hb) h2).trans h.hb⟩
theorem own_no_int {w : World} {base b n : Nat} {v u : Value} {xs : List Value} (h : w.ownsRow base 5 1 v n xs) (hb : w.heap[b]? = some (.cells #[u] 3 (0, 0))) : some b ≠ v.ownBlock := by
  rcases h.2 with ⟨rfl, _⟩ | ⟨g, cap, cur, rfl, _, hg, _⟩
  · simp [Value.ownBlock]
  · intro he
    simp [Value.ownBlock] at he
    subst he
    rw [hb] at hg
    simp at hg
theorem grown_setCell (w : World) (b : Nat) (u : Value) : w.grownBy (w.setCell ⟨b, 0, none⟩ u) (some b) :=
  ⟨rfl, rfl, rfl, by simp [World.setCell], fun k _ hne => Below.heap_setCell _ _ _ _ (fun e => hne (by rw [e]))⟩

set_option maxRecDepth 20000 in
theorem thr_make (bias : Nat) (_hb : bias ≤ 1000000) (w : World) :
    Calls Tryz.prog 165 #[.int .i64 (bias : Int)] w fun e w' => (∃ bk bb, e = .returned (.func (.func 200) #[] #[.pointer (some ⟨bk, 0, none⟩), .pointer (some ⟨bb, 0, none⟩)]) ∧ Clo w' w.heap.size bk bb 0 bias) ∧ Below w.heap.size w w' := by
  have hmf : ∀ (fn : Fn) (first cap : Array Value) (w : World), (Instr.makeFunc fn first cap).run Tryz.prog w = .ok (.func fn first cap) w := fun _ _ _ _ => rfl
  go_enter Tryz.func165, Tryz.ntmps165
  go_wp2
  go_ret
  refine ⟨⟨_, _, rfl, ⟨by omega, by omega, ?_, ?_⟩⟩, ((Below.refl _ _).alloc (Nat.le_refl _) _).alloc (by simp) _⟩
  · show ((w.heap.push _).push _)[w.heap.size + 1]? = _
    rw [Array.getElem?_push, if_pos (by simp)]
    rfl
  · show ((w.heap.push _).push _)[w.heap.size]? = _
    rw [Array.getElem?_push, if_neg (by simp), Array.getElem?_push, if_pos rfl]

theorem thr_clo (K bias : Nat) (x : Int) (hx : max ((36 : Int) * K + 36 - bias) 1 = x) : min x 26 = ((thr K bias : Nat) : Int) := by rw [← hx]; unfold thr; omega

set_option maxRecDepth 20000 in
/-- One call of the closure. -/
theorem clo_call (w : World) (B bk bb K bias : Nat) (hc : Clo w B bk bb K bias) (hK : K ≤ 100000000) (hbi : bias ≤ 1000000) :
    Calls Tryz.prog 200 #[.pointer (some ⟨bk, 0, none⟩), .pointer (some ⟨bb, 0, none⟩)] w fun e w' => e = .returned (.int .i64 (thr K bias : Nat)) ∧ Clo w' B bk bb (K + 1) bias ∧ w.grownBy w' (some bk) := by
  have c1 := cell_of_one hc.hk
  have c2 := cell_of_one hc.hb
  have f1 := free_of_one hc.hk
  obtain ⟨z, hz⟩ : ∃ z : Int, z = ((36 * K : Nat) : Int) := ⟨_, rfl⟩
  rw [← hz] at c1
  have hne := hc.ne
  have c3 : (w.setCell ⟨bk, 0, none⟩ (.int .i64 (z + 36))).cell? ⟨bk, 0, none⟩ = some (.int .i64 (z + 36)) := cell_of_one (one_setCell hc.hk)
  have c4 : (w.setCell ⟨bk, 0, none⟩ (.int .i64 (z + 36))).cell? ⟨bb, 0, none⟩ = some (.int .i64 (bias : Int)) := by
    rw [World.cell?_of_block (w := w) (Below.heap_setCell _ _ _ _ (fun e => hne e.symm))]
    exact c2
  obtain ⟨x, hx⟩ : ∃ x, max (z + 36 - (bias : Int)) (1 : Int) = x := ⟨_, rfl⟩
  have hy : min x (26 : Int) = (thr K bias : Nat) := thr_clo K bias x (by rw [← hx, hz]; omega)
  have hmax : ∀ (W : World) ts ty, (Builtin.max_ ts ty #[.int .i64 (z + 36 - (bias : Int)), .int .i64 1]).run Tryz.prog W = .ok (.int .i64 x) W := fun W ts ty => max_two W ts ty _ _ _ hx
  have hmin : ∀ (W : World) ts ty, (Builtin.min_ ts ty #[.int .i64 x, .int .i64 26]).run Tryz.prog W = .ok (.int .i64 (thr K bias : Nat)) W := fun W ts ty => min_two W ts ty _ _ _ hy
  have hz0 : 0 ≤ z := by omega
  have hz1 : z ≤ 3600000000 := by omega
  have HC : Hid (Clo (w.setCell ⟨bk, 0, none⟩ (.int .i64 (z + 36))) B bk bb (K + 1) bias) := by
    refine Lib.hid ⟨hc.lk, hne, ?_, (Below.heap_setCell _ _ _ _ (fun e => hne e.symm)).trans hc.hb⟩
    have := one_setCell (u := .int .i64 (z + 36)) hc.hk
    rw [show ((36 * (K + 1) : Nat) : Int) = z + 36 by omega]
    exact this
  clear hx hy hz hc
  go_enter Tryz.func200, Tryz.ntmps200
  go_wp2
  go_ret
  exact ⟨rfl, HC.out, grown_setCell _ _ _⟩

set_option maxRecDepth 20000 in
set_option maxHeartbeats 2000000 in
/-- appendNumber: the digits of a number behind bytes of the caller's own. -/
theorem appN_any (B : Nat) (w0 w : World) (v : Value) (X : List UInt8) (N : Nat) (hN : N = X.length) (e bias bk bb : Nat) (hown : w.ownsRow B 5 1 v N (X.map bv)) (hc : Clo w B bk bb 0 bias) (hb : Below B w0 w) (hB : B ≤ w0.heap.size) (he : e ≤ 17179869184) (hbi : bias ≤ 1000) (hX : N ≤ 4000) :
    Calls Tryz.prog 164 #[v, .int .i64 (e : Int), .func (.func 200) #[] #[.pointer (some ⟨bk, 0, none⟩), .pointer (some ⟨bb, 0, none⟩)]] w fun e' w' => (∃ v', e' = .returned v' ∧ w'.ownsRow B 5 1 v' (N + (genV e 0 bias).length) ((X ++ (genV e 0 bias).map digB).map bv)) ∧ Below B w0 w' := by
  obtain ⟨i5, hi5, hz0, hz1, hz2⟩ := info_parts infoU8
  have hgl : (genV e 0 bias).length ≤ 12 := genV_len 11 e 0 bias (Nat.lt_of_le_of_lt he (by decide))
  have HGL := Lib.hid hgl
  have HC0 := Lib.hid hc
  clear hgl hc
  go_enter Tryz.func164, Tryz.ntmps164
  go_wp2_with fail
  go_loopw [0, 1] (fun v q wr => ∃ (Q K : Nat) (L : List Nat), q = .int .i64 Q ∧ Q ≤ 17179869184 ∧ K ≤ 12 ∧ Hid (K = L.length) ∧ Hid (L ++ genV Q K bias = genV e 0 bias) ∧
    wr.ownsRow B 5 1 v (N + K) ((X ++ L.map digB).map bv) ∧ Hid (Clo wr B bk bb K bias) ∧ Below B w0 wr) (fun _ q _ => (intOf q).toNat)
  case atStart => exact ⟨e, 0, [], rfl, he, by omega, Lib.hid rfl, Lib.hid rfl, by simpa using hown, HC0, hb⟩
  case round =>
    clear hown hb
    obtain ⟨Q, K, L, rfl, hQ, hK, HK, HLG, hown, HC, hb⟩ := hrel
    have ht := thr_range K bias
    have cT := fun h1 h2 => clo_call wr B bk bb K bias HC.out h1 h2
    replace cT := cT (by omega) (by omega)
    have hlenG : L.length + (genV Q K bias).length ≤ 12 := by have := HGL.out; rw [← HLG.out, List.length_append] at this; exact this
    have hno := own_no_int hown HC.out.hk
    have HNO := Lib.hid hno
    have HLK := Lib.hid HC.out.lk
    clear hno
    by_cases hqt : Q < thr K bias
    · have hone := genV_one hqt
      have hge : decide ((Q : Int) < ((thr K bias : Nat) : Int)) = true := decide_eq_true (by omega)
      have hgeN : decide (Q < thr K bias) = true := decide_eq_true hqt
      have cD := digB_any Q (by omega)
      have HLE : Hid (X ++ (genV e 0 bias).map digB = (X ++ L.map digB) ++ [digB Q]) := by
        show _ = _
        rw [← HLG.out, hone, List.map_append, List.append_assoc]
        rfl
      have HLL : Hid (N + (genV e 0 bias).length = N + K + 1) := by
        show _ = _
        rw [← HLG.out, hone, List.length_append, HK.out]
        rfl
      generalize thr K bias = t at *
      clear hone hlenG
      go_wp2_with fail
      refine cT.mono ?_
      rintro e' w1 ⟨rfl, hc1, hg1⟩
      have hown1 := hown.kept hg1 (.inr (fun h => HNO.out h.symm))
      have hb1 := hb.grown hg1 (Nat.le_trans hB hb.size) (fun k hk => by injection hk with hk; rw [← hk]; exact HLK.out)
      clear hg1 hown hb hc1
      go_wp2_with (first
        | (go_at_call 199; refine (cD _).mono ?_; rintro e w' ⟨rfl, rfl⟩)
        | (at_builtin; refine wpList_app_one w1 rfl _ _ 40 rfl B 5 i5 (.int .u8 0) 1 tyBs hi5 hz0 hz1 hz2 rfl _ (by exact rfl) _ _ _ (by exact rfl) hown1 (by exact rfl) (by unfold maxLen; omega) (by omega) hb1 hB ?_; intro v' w' hown' hb' _))
      go_ret
      refine ⟨⟨_, rfl, ?_⟩, hb'⟩
      rw [HLE.out, HLL.out, List.map_append]
      exact hown'
    · have hmore := genV_more hqt
      have hge : decide ((Q : Int) < ((thr K bias : Nat) : Int)) = false := decide_eq_false (by omega)
      have hgeN : decide (Q < thr K bias) = false := decide_eq_false hqt
      have hless := gen_less Q _ hqt ht.1
      obtain ⟨t, hte⟩ : ∃ t, t = thr K bias := ⟨_, rfl⟩
      rw [← hte] at hmore hge hgeN hless ht hqt cT
      obtain ⟨rm, hrm⟩ : ∃ rm, rm = (Q - t) % (36 - t) := ⟨_, rfl⟩
      obtain ⟨Q2, hQ2⟩ : ∃ Q2, Q2 = (Q - t) / (36 - t) := ⟨_, rfl⟩
      have hrmb : rm < 36 - t := by rw [hrm]; exact Nat.mod_lt _ (by omega)
      have hmod : Int.tmod ((Q : Int) - (t : Int)) (36 - (t : Int)) = (rm : Int) := by
        rw [Int.tmod_eq_emod_of_nonneg (by omega), hrm, show ((Q : Int) - (t : Int)) = ((Q - t : Nat) : Int) by omega, show (36 - (t : Int)) = ((36 - t : Nat) : Int) by omega]
        exact (Int.natCast_emod _ _).symm
      have hdiv : Int.tdiv ((Q : Int) - (t : Int)) (36 - (t : Int)) = (Q2 : Int) := by
        rw [Int.tdiv_eq_ediv_of_nonneg (by omega), hQ2, show ((Q : Int) - (t : Int)) = ((Q - t : Nat) : Int) by omega, show (36 - (t : Int)) = ((36 - t : Nat) : Int) by omega]
        exact (Int.natCast_ediv _ _).symm
      have hne0 : ¬ (36 - (t : Int) = 0) := by omega
      rw [← hrm, ← hQ2] at hmore
      rw [← hQ2] at hless
      have cD := digB_any (t + rm) (by omega)
      rw [show ((t + rm : Nat) : Int) = (t : Int) + (rm : Int) by omega] at cD
      have HL2 : Hid ((L ++ [t + rm]) ++ genV Q2 (K + 1) bias = genV e 0 bias) := by
        show _ = _
        rw [← HLG.out, hmore, List.append_assoc]
        rfl
      have hK12 : K + 1 ≤ 12 := by
        rw [hmore, List.length_cons] at hlenG
        have := HK.out
        omega
      have HXL : Hid ((X ++ (L ++ [t + rm]).map digB).map bv = (X ++ L.map digB).map bv ++ [bv (digB (t + rm))]) := by
        show _ = _
        simp
      clear hmore hrm hQ2 hlenG hte hqt
      go_wp2_with fail
      refine cT.mono ?_
      rintro e' w1 ⟨rfl, hc1, hg1⟩
      have hown1 := hown.kept hg1 (.inr (fun h => HNO.out h.symm))
      have hb1 := hb.grown hg1 (Nat.le_trans hB hb.size) (fun k hk => by injection hk with hk; rw [← hk]; exact HLK.out)
      have HN1 := Lib.hid (own_no_int hown1 hc1.hk)
      have HN2 := Lib.hid (own_no_int hown1 hc1.hb)
      have HC1 := Lib.hid hc1
      clear hg1 hown hb hc1
      go_wp2_with (first
        | (go_at_call 199; refine (cD _).mono ?_; rintro e w' ⟨rfl, rfl⟩)
        | (at_builtin; refine wpList_app_one w1 rfl _ _ 40 rfl B 5 i5 (.int .u8 0) 1 tyBs hi5 hz0 hz1 hz2 rfl _ (by exact rfl) _ _ _ (by exact rfl) hown1 (by exact rfl) (by unfold maxLen; omega) (by omega) hb1 hB ?_; intro v' w' hown' hb' hg'))
      go_roundw
      case rel =>
        refine ⟨Q2, K + 1, L ++ [t + rm], rfl, by omega, hK12, ?_, HL2, ?_, Lib.hid (HC1.out.kept hg' HN1.out HN2.out), hb'⟩
        · show _ = _
          rw [List.length_append, ← HK.out]
          rfl
        · rw [HXL.out]
          exact hown'
      case measure => simp [intOf]; omega
end

section
open Go.RowKit

/-- What addNumber answers. -/
def addE : Except Nat (Nat × List UInt8) → Nat
  | .error c => c
  | .ok _ => 0
def addI : Except Nat (Nat × List UInt8) → Nat
  | .error _ => 0
  | .ok (j, _) => j
def addS (n : Nat) : Except Nat (Nat × List UInt8) → Nat
  | .error _ => 0
  | .ok (_, r) => n - r.length
theorem add_err {x : Except Nat (Nat × List UInt8)} {c n : Nat} (h : x = .error c) : addE x = c ∧ addI x = 0 ∧ addS n x = 0 := by subst h; exact ⟨rfl, rfl, rfl⟩
theorem add_ok {x : Except Nat (Nat × List UInt8)} {j n : Nat} {r : List UInt8} (h : x = .ok (j, r)) : addE x = 0 ∧ addI x = j ∧ addS n x = n - r.length := by subst h; exact ⟨rfl, rfl, rfl⟩
theorem ret_three {a a' b b' c c' : Nat} (h1 : a = a') (h2 : b = b') (h3 : c = c') : Ending.returned (.tuple #[.int .i64 (a : Int), .int .i64 (b : Int), .int .i64 (c : Int)]) = .returned (.tuple #[.int .i64 (a' : Int), .int .i64 (b' : Int), .int .i64 (c' : Int)]) := by rw [h1, h2, h3]

set_option maxRecDepth 20000 in
set_option maxHeartbeats 4000000 in
theorem addN_any (B : Nat) (w : World) (s : ByteArray) (I bias bk bb : Nat) (hc : Clo w B bk bb 0 bias) (hB : B ≤ w.heap.size) (hI : I ≤ 1000000) (hbi : bias ≤ 1000) (hs : s.size ≤ 1000000) :
    Calls Tryz.prog 205 #[.int .i64 (I : Int), .string s, .func (.func 200) #[] #[.pointer (some ⟨bk, 0, none⟩), .pointer (some ⟨bb, 0, none⟩)]] w fun e w' =>
      e = .returned (.tuple #[.int .i64 (addI (rdNum (ls s) bias 0 1 I) : Nat), .int .i64 (addS s.size (rdNum (ls s) bias 0 1 I) : Nat), .int .i64 (addE (rdNum (ls s) bias 0 1 I) : Nat)]) ∧ Below B w w' := by
  obtain ⟨R, hR⟩ : ∃ R, R = rdNum (ls s) bias 0 1 I := ⟨_, rfl⟩
  rw [← hR]
  have HR := Lib.hid hR
  have HC0 := Lib.hid hc
  clear hR hc
  go_enter Tryz.func205, Tryz.ntmps205
  go_wp2_with fail
  go_loopw [0, 9, 15] (fun iv wv av wr => ∃ (a i' w' : Nat), iv = .int .i64 i' ∧ wv = .int .i64 w' ∧ av = .int .i64 a ∧ a ≤ s.size ∧ i' ≤ 1099511627776 ∧ w' ≤ 1099511627776 ∧ Hid (R = rdNum ((ls s).drop a) bias a w' i') ∧ Hid (Clo wr B bk bb a bias) ∧ Below B w wr) (fun _ _ av _ => s.size - (intOf av).toNat)
  case atStart => exact ⟨0, I, 1, rfl, rfl, rfl, Nat.zero_le _, by omega, by omega, HR, HC0, Below.refl _ _⟩
  case round =>
    obtain ⟨a', i', w', rfl, rfl, rfl, ha', hi', hw', HRD, HC, hb⟩ := hrel
    by_cases hlt5 : a' < s.size
    · have hged : decide ((a' : Int) < (s.size : Int)) = true := decide_eq_true (by omega)
      have hgeN : decide (a' < s.size) = true := decide_eq_true hlt5
      have hdr := drop_ls_cons s a' hlt5
      have cV := digOf_any s[a']
      cases hpv : pval s[a'] with
      | none =>
        rw [dvN_none hpv] at cV
        obtain ⟨e1, e2, e3⟩ := add_err (n := s.size) (show R = .error 4 by rw [HRD.out, hdr, rdNum, hpv])
        have HE := Lib.hid e1
        have HE2 := Lib.hid e2
        have HE3 := Lib.hid e3
        clear hdr hpv e1 e2 e3
        go_wp2_with (go_at_call 224; refine (cV _).mono ?_; rintro e w' ⟨rfl, rfl⟩)
        go_ret3
        exact ⟨ret_three HE2.out.symm HE3.out.symm HE.out.symm, hb⟩
      | some d =>
        rw [dvN_some hpv] at cV
        have hd36 := pval_lt hpv
        have hdn : ((d : Int) == 36) = false := by rw [beq_eq_false_iff_ne]; omega
        have hdnN : (d == 36) = false := by rw [beq_eq_false_iff_ne]; omega
        have hrd : R = if 1099511627776 < i' + d * w' then .error 19 else if d < thr a' bias then .ok (i' + d * w', (ls s).drop (a' + 1)) else if 1099511627776 < w' * (36 - thr a' bias) then .error 19 else rdNum ((ls s).drop (a' + 1)) bias (a' + 1) (w' * (36 - thr a' bias)) (i' + d * w') := by rw [HRD.out, hdr, rdNum, hpv]
        have hdw : (d : Int) * (w' : Int) = ((d * w' : Nat) : Int) := by simp
        have hdwb : d * w' ≤ 35 * 1099511627776 := Nat.mul_le_mul (by omega) hw'
        obtain ⟨i2, hi2⟩ : ∃ i2, i2 = i' + d * w' := ⟨_, rfl⟩
        rw [← hi2] at hrd
        have hdw0 : 0 ≤ (d : Int) * (w' : Int) := by omega
        have hdw1 : (d : Int) * (w' : Int) ≤ 38482906972160 := by omega
        have hi2i : (i' : Int) + (d : Int) * (w' : Int) = (i2 : Int) := by omega
        have hi2b : i2 ≤ 39582418599936 := by omega
        have ht := thr_range a' bias
        have cT := clo_call wr B bk bb a' bias HC.out (by omega) (by omega)
        have HRD2 := Lib.hid hrd
        have HLK := Lib.hid HC.out.lk
        clear hdr hpv hdw hdwb hi2 hrd
        by_cases hov : 1099511627776 < i2
        · have hovd : decide ((1099511627776 : Int) < (i2 : Int)) = true := decide_eq_true (by omega)
          have hovN : decide (1099511627776 < i2) = true := decide_eq_true hov
          obtain ⟨e1, e2, e3⟩ := add_err (n := s.size) (show R = .error 19 by rw [HRD2.out, if_pos hov])
          have HE := Lib.hid e1
          have HE2 := Lib.hid e2
          have HE3 := Lib.hid e3
          clear e1 e2 e3
          go_wp2_with (go_at_call 224; refine (cV _).mono ?_; rintro e w' ⟨rfl, rfl⟩)
          go_ret3
          exact ⟨ret_three HE2.out.symm HE3.out.symm HE.out.symm, hb⟩
        · have hovd : decide ((1099511627776 : Int) < (i2 : Int)) = false := decide_eq_false (by omega)
          have hovN : decide (1099511627776 < i2) = false := decide_eq_false hov
          obtain ⟨t, hte⟩ : ∃ t, t = thr a' bias := ⟨_, rfl⟩
          rw [← hte] at HRD2 ht cT
          clear hte
          by_cases hdt : d < t
          · have hdtd : decide ((d : Int) < (t : Int)) = true := decide_eq_true (by omega)
            have hdtN : decide (d < t) = true := decide_eq_true hdt
            obtain ⟨e1, e2, e3⟩ := add_ok (n := s.size) (show R = .ok (i2, (ls s).drop (a' + 1)) by rw [HRD2.out, if_neg hov, if_pos hdt])
            rw [List.length_drop, ls_length, show s.size - (s.size - (a' + 1)) = a' + 1 by omega] at e3
            have HE := Lib.hid e1
            have HE2 := Lib.hid e2
            have HE3 := Lib.hid e3
            clear e1 e2 e3
            go_wp2_with (go_at_call 224; refine (cV _).mono ?_; rintro e w' ⟨rfl, rfl⟩)
            refine cT.mono ?_
            rintro e w1 ⟨rfl, hc1, hg1⟩
            have hb1 := hb.grown hg1 (Nat.le_trans hB hb.size) (fun k hk => by injection hk with hk; rw [← hk]; exact HLK.out)
            clear hc1 hg1 hb
            go_wp2
            go_ret3
            exact ⟨ret_three HE2.out.symm HE3.out.symm HE.out.symm, hb1⟩
          · have hdtd : decide ((d : Int) < (t : Int)) = false := decide_eq_false (by omega)
            have hdtN : decide (d < t) = false := decide_eq_false hdt
            have hwt : (w' : Int) * (36 - (t : Int)) = ((w' * (36 - t) : Nat) : Int) := by rw [Int.natCast_mul, Int.natCast_sub (by omega)]; rfl
            have hwtb : w' * (36 - t) ≤ 1099511627776 * 35 := Nat.mul_le_mul hw' (by omega)
            obtain ⟨w2, hw2⟩ : ∃ w2, w2 = w' * (36 - t) := ⟨_, rfl⟩
            rw [← hw2] at hwt hwtb
            have hwt0 : 0 ≤ (w' : Int) * (36 - (t : Int)) := by omega
            have hwt1 : (w' : Int) * (36 - (t : Int)) ≤ 38482906972160 := by omega
            have HRD3 : Hid (R = if 1099511627776 < w2 then .error 19 else rdNum ((ls s).drop (a' + 1)) bias (a' + 1) w2 i2) := by
              show _ = _
              rw [HRD2.out, if_neg hov, if_neg hdt, ← hw2]
            clear hw2 HRD2
            by_cases hwo : 1099511627776 < w2
            · have hwod : decide ((1099511627776 : Int) < (w2 : Int)) = true := decide_eq_true (by omega)
              have hwoN : decide (1099511627776 < w2) = true := decide_eq_true hwo
              obtain ⟨e1, e2, e3⟩ := add_err (n := s.size) (show R = .error 19 by rw [HRD3.out, if_pos hwo])
              have HE := Lib.hid e1
              have HE2 := Lib.hid e2
              have HE3 := Lib.hid e3
              clear e1 e2 e3
              go_wp2_with (go_at_call 224; refine (cV _).mono ?_; rintro e w' ⟨rfl, rfl⟩)
              refine cT.mono ?_
              rintro e w1 ⟨rfl, hc1, hg1⟩
              have hb1 := hb.grown hg1 (Nat.le_trans hB hb.size) (fun k hk => by injection hk with hk; rw [← hk]; exact HLK.out)
              clear hc1 hg1 hb
              go_wp2
              go_ret3
              exact ⟨ret_three HE2.out.symm HE3.out.symm HE.out.symm, hb1⟩
            · have hwod : decide ((1099511627776 : Int) < (w2 : Int)) = false := decide_eq_false (by omega)
              have hwoN : decide (1099511627776 < w2) = false := decide_eq_false hwo
              have HRD4 : Hid (R = rdNum ((ls s).drop (a' + 1)) bias (a' + 1) w2 i2) := by
                show _ = _
                rw [HRD3.out, if_neg hwo]
              go_wp2_with (go_at_call 224; refine (cV _).mono ?_; rintro e w' ⟨rfl, rfl⟩)
              refine cT.mono ?_
              rintro e w1 ⟨rfl, hc1, hg1⟩
              have hb1 := hb.grown hg1 (Nat.le_trans hB hb.size) (fun k hk => by injection hk with hk; rw [← hk]; exact HLK.out)
              have HC1 := Lib.hid hc1
              clear hc1 hg1 hb
              go_wp2
              go_roundw
              case rel => exact ⟨a' + 1, i2, w2, by go_num, by go_num, by go_num, by omega, by omega, by omega, HRD4, HC1, hb1⟩
              case measure => simp [intOf]; omega
    · obtain rfl : a' = s.size := by omega
      have hged : decide ((s.size : Int) < (s.size : Int)) = false := by simp
      obtain ⟨e1, e2, e3⟩ := add_err (n := s.size) (show R = .error 4 by rw [HRD.out, drop_ls_all, rdNum])
      have HE := Lib.hid e1
      have HE2 := Lib.hid e2
      have HE3 := Lib.hid e3
      clear e1 e2 e3
      go_wp2
      go_ret3
      exact ⟨ret_three HE2.out.symm HE3.out.symm HE.out.symm, hb⟩
end

end Go.Proofs.YtpccpgihldpiiaaGreatDoor
