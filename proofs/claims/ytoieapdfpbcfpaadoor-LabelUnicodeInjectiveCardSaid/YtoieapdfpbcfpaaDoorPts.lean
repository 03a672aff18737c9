/-
  Contract of the reference's Points of layer 13.
-/
import Derived.Test.YtoieapdfpbcfpaaDoorLabP
import Derived.Test.YtoieapdfpbcfpaaDoorPuQ
import Derived.Test.YtoieapdfpbcfpaaDoorPu1
import Derived.Test.YtoieapdfpbcfpaaDoorStill
import Derived.Deep.LoopGhost
import Derived.BigQuiet
import Derived.Deep.CutRange
import Derived.Deep.CutBlock
namespace Go.Proofs.YtoieapdfpbcfpaaDoor
open Go.RowKit

/-- What Points answers, in memory. -/
def PtsPost (l : List UInt8) (w : World) (e : Ending) (w' : World) : Prop :=
  (∃ v, e = .returned (.tuple #[v, .bool (ptsL l).isSome]) ∧ w'.ownsRow w.heap.size 3 1 v ((ptsL l).getD []).length (((ptsL l).getD []).map nvI)) ∧ Below w.heap.size w w'
theorem PtsPost.no {l : List UInt8} {w w' : World} (h : ptsL l = none) (hb : Below w.heap.size w w') : PtsPost l w (.returned (.tuple #[.slice none 0 0, .bool false])) w' := by
  refine ⟨⟨_, by rw [h]; rfl, ?_⟩, hb⟩
  rw [h]
  exact World.ownsRow_nil _ _ _ _
theorem PtsPost.yes {l : List UInt8} {P : List Nat} {w w' : World} {v : Value} (h : ptsL l = some P) (ho : w'.ownsRow w.heap.size 3 1 v P.length (P.map nvI)) (hb : Below w.heap.size w w') : PtsPost l w (.returned (.tuple #[v, .bool true])) w' := by
  refine ⟨⟨v, by rw [h]; rfl, ?_⟩, hb⟩
  rw [h]
  exact ho
/-- How large a value may be behind j bytes. -/
def bnd8 (j : Nat) : Nat := 256 * 64 ^ (j - 1)
theorem bnd8_le {j : Nat} (h : j ≤ 4) : bnd8 j ≤ 67108864 := by
  unfold bnd8
  have : 64 ^ (j - 1) ≤ 64 ^ 3 := Nat.pow_le_pow_right (by omega) (by omega)
  omega
theorem bnd8_step {j u c : Nat} (hj : 1 ≤ j) (hu : u < bnd8 j) (hc : c ≤ 191) : u * 64 + c - 128 < bnd8 (j + 1) := by
  have e : bnd8 (j + 1) = bnd8 j * 64 := by
    unfold bnd8
    rw [show j + 1 - 1 = j - 1 + 1 by omega, Nat.pow_succ, Nat.mul_assoc]
  omega
theorem lead8_range {b k v least : Nat} (h : lead8 b = some (k, v, least)) (hb : b < 256) : k ≤ 3 ∧ v < 256 ∧ least ≤ 65536 := by
  unfold lead8 at h
  split at h
  · obtain ⟨e1, e23⟩ := Prod.mk.inj (Option.some.inj h)
    obtain ⟨e2, e3⟩ := Prod.mk.inj e23
    omega
  · split at h
    · obtain ⟨e1, e23⟩ := Prod.mk.inj (Option.some.inj h)
      obtain ⟨e2, e3⟩ := Prod.mk.inj e23
      omega
    · split at h
      · obtain ⟨e1, e23⟩ := Prod.mk.inj (Option.some.inj h)
        obtain ⟨e2, e3⟩ := Prod.mk.inj e23
        omega
      · split at h
        · obtain ⟨e1, e23⟩ := Prod.mk.inj (Option.some.inj h)
          obtain ⟨e2, e3⟩ := Prod.mk.inj e23
          omega
        · cases h

set_option maxRecDepth 20000 in
set_option maxHeartbeats 8000000 in
theorem refPts_any (s : ByteArray) (w : World) (hs : s.size ≤ 1000000000) :
    Calls Tryd.prog 21 #[.string s] w (PtsPost (ls s) w) := by
  obtain ⟨i3, hi3, hz0, hz1, hz2⟩ := info_parts infoInt
  go_enter Tryd.func21, Tryd.ntmps21
  go_wp2
  go_loopg [4, 5] s.size (fun g v i wr => ∃ (k : Nat) (acc : List Nat), k ≤ s.size ∧ g = s.size - k ∧ i = .int .i64 k ∧ acc.length ≤ k ∧ Hid (ptsL (ls s) = (ptsL ((ls s).drop k)).map (acc ++ ·)) ∧
    wr.ownsRow w.heap.size 3 1 v acc.length (acc.map nvI) ∧ Below w.heap.size w wr)
  case atStart => exact ⟨0, [], Nat.zero_le _, rfl, rfl, Nat.le_refl _, Lib.hid (by rw [List.drop_zero]; cases ptsL (ls s) <;> rfl), World.ownsRow_nil _ _ _ _, Below.refl _ _⟩
  case round =>
    obtain ⟨k, acc, hk, hg, rfl, hacc, HP, hown, hb⟩ := hrel
    have HG := Lib.hid hg
    clear hg
    obtain ⟨A4, c4, rfl, _, _⟩ := Has.of_own hown
    by_cases hlt : k < s.size
    · have hdr := drop_ls_cons s k hlt
      have hkd : decide ((k : Int) < (s.size : Int)) = true := decide_eq_true (by omega)
      have hbl := byte_lt s[k]
      have hw64 : wrap64 (s[k].toNat : Int) = (s[k].toNat : Int) := by unfold wrap64; omega
      go_upto_block 2 with fail
      go_cut [7, 8, 9] from 21 to 50 (fun n v l wx => wr = wx ∧ ∃ kk m vv ll : Nat, m = kk + 1 ∧ n = .int .i64 (m : Int) ∧ v = .int .i64 (vv : Int) ∧ l = .int .i64 (ll : Int) ∧ Hid (lead8 s[k].toNat = some (kk, vv, ll)))
      case first =>
        by_cases h1 : s[k].toNat < 128
        · have dl128 : decide ((s[k].toNat : Int) < 128) = true := decide_eq_true (by omega)
          have dl224 : decide ((s[k].toNat : Int) < 224) = true := decide_eq_true (by omega)
          have dl240 : decide ((s[k].toNat : Int) < 240) = true := decide_eq_true (by omega)
          have dl245 : decide ((s[k].toNat : Int) < 245) = true := decide_eq_true (by omega)
          have dg194 : decide ((194 : Int) ≤ (s[k].toNat : Int)) = false := decide_eq_false (by omega)
          have dg224 : decide ((224 : Int) ≤ (s[k].toNat : Int)) = false := decide_eq_false (by omega)
          have dg240 : decide ((240 : Int) ≤ (s[k].toNat : Int)) = false := decide_eq_false (by omega)
          have HL : Hid (lead8 s[k].toNat = some (0, s[k].toNat, 0)) := by show _ = _; unfold lead8; rw [if_pos (by omega)]
          go_wp2_with fail
          go_meet
          exact ⟨rfl, 0, 1, s[k].toNat, 0, rfl, rfl, by go_num, rfl, HL⟩
        · by_cases h2 : s[k].toNat < 194
          · have dl128 : decide ((s[k].toNat : Int) < 128) = false := decide_eq_false (by omega)
            have dl224 : decide ((s[k].toNat : Int) < 224) = true := decide_eq_true (by omega)
            have dl240 : decide ((s[k].toNat : Int) < 240) = true := decide_eq_true (by omega)
            have dl245 : decide ((s[k].toNat : Int) < 245) = true := decide_eq_true (by omega)
            have dg194 : decide ((194 : Int) ≤ (s[k].toNat : Int)) = false := decide_eq_false (by omega)
            have dg224 : decide ((224 : Int) ≤ (s[k].toNat : Int)) = false := decide_eq_false (by omega)
            have dg240 : decide ((240 : Int) ≤ (s[k].toNat : Int)) = false := decide_eq_false (by omega)
            have HE : Hid (ptsL (ls s) = none) := by
              show _ = _
              have hl : lead8 s[k].toNat = none := by unfold lead8; rw [if_neg (by omega), if_neg (by omega), if_neg (by omega), if_neg (by omega)]
              rw [HP.out, hdr, ptsL_cons, one8, hl]
              rfl
            clear hdr HP
            go_wp2_with fail
            go_ret2
            exact PtsPost.no HE.out hb
          · by_cases h3 : s[k].toNat < 224
            · have dl128 : decide ((s[k].toNat : Int) < 128) = false := decide_eq_false (by omega)
              have dl224 : decide ((s[k].toNat : Int) < 224) = true := decide_eq_true (by omega)
              have dl240 : decide ((s[k].toNat : Int) < 240) = true := decide_eq_true (by omega)
              have dl245 : decide ((s[k].toNat : Int) < 245) = true := decide_eq_true (by omega)
              have dg194 : decide ((194 : Int) ≤ (s[k].toNat : Int)) = true := decide_eq_true (by omega)
              have dg224 : decide ((224 : Int) ≤ (s[k].toNat : Int)) = false := decide_eq_false (by omega)
              have dg240 : decide ((240 : Int) ≤ (s[k].toNat : Int)) = false := decide_eq_false (by omega)
              have HL : Hid (lead8 s[k].toNat = some (1, s[k].toNat - 192, 128)) := by show _ = _; unfold lead8; rw [if_neg (by omega), if_pos (by omega)]
              go_wp2_with fail
              go_meet
              exact ⟨rfl, 1, 2, s[k].toNat - 192, 128, rfl, rfl, by go_num, rfl, HL⟩
            · by_cases h4 : s[k].toNat < 240
              · have dl128 : decide ((s[k].toNat : Int) < 128) = false := decide_eq_false (by omega)
                have dl224 : decide ((s[k].toNat : Int) < 224) = false := decide_eq_false (by omega)
                have dl240 : decide ((s[k].toNat : Int) < 240) = true := decide_eq_true (by omega)
                have dl245 : decide ((s[k].toNat : Int) < 245) = true := decide_eq_true (by omega)
                have dg194 : decide ((194 : Int) ≤ (s[k].toNat : Int)) = true := decide_eq_true (by omega)
                have dg224 : decide ((224 : Int) ≤ (s[k].toNat : Int)) = true := decide_eq_true (by omega)
                have dg240 : decide ((240 : Int) ≤ (s[k].toNat : Int)) = false := decide_eq_false (by omega)
                have HL : Hid (lead8 s[k].toNat = some (2, s[k].toNat - 224, 2048)) := by show _ = _; unfold lead8; rw [if_neg (by omega), if_neg (by omega), if_pos (by omega)]
                go_wp2_with fail
                go_meet
                exact ⟨rfl, 2, 3, s[k].toNat - 224, 2048, rfl, rfl, by go_num, rfl, HL⟩
              · by_cases h5 : s[k].toNat < 245
                · have dl128 : decide ((s[k].toNat : Int) < 128) = false := decide_eq_false (by omega)
                  have dl224 : decide ((s[k].toNat : Int) < 224) = false := decide_eq_false (by omega)
                  have dl240 : decide ((s[k].toNat : Int) < 240) = false := decide_eq_false (by omega)
                  have dl245 : decide ((s[k].toNat : Int) < 245) = true := decide_eq_true (by omega)
                  have dg194 : decide ((194 : Int) ≤ (s[k].toNat : Int)) = true := decide_eq_true (by omega)
                  have dg224 : decide ((224 : Int) ≤ (s[k].toNat : Int)) = true := decide_eq_true (by omega)
                  have dg240 : decide ((240 : Int) ≤ (s[k].toNat : Int)) = true := decide_eq_true (by omega)
                  have HL : Hid (lead8 s[k].toNat = some (3, s[k].toNat - 240, 65536)) := by show _ = _; unfold lead8; rw [if_neg (by omega), if_neg (by omega), if_neg (by omega), if_pos (by omega)]
                  go_wp2_with fail
                  go_meet
                  exact ⟨rfl, 3, 4, s[k].toNat - 240, 65536, rfl, rfl, by go_num, rfl, HL⟩
                · have dl128 : decide ((s[k].toNat : Int) < 128) = false := decide_eq_false (by omega)
                  have dl224 : decide ((s[k].toNat : Int) < 224) = false := decide_eq_false (by omega)
                  have dl240 : decide ((s[k].toNat : Int) < 240) = false := decide_eq_false (by omega)
                  have dl245 : decide ((s[k].toNat : Int) < 245) = false := decide_eq_false (by omega)
                  have dg194 : decide ((194 : Int) ≤ (s[k].toNat : Int)) = true := decide_eq_true (by omega)
                  have dg224 : decide ((224 : Int) ≤ (s[k].toNat : Int)) = true := decide_eq_true (by omega)
                  have dg240 : decide ((240 : Int) ≤ (s[k].toNat : Int)) = true := decide_eq_true (by omega)
                  have HE : Hid (ptsL (ls s) = none) := by
                    show _ = _
                    have hl : lead8 s[k].toNat = none := by unfold lead8; rw [if_neg (by omega), if_neg (by omega), if_neg (by omega), if_neg (by omega)]
                    rw [HP.out, hdr, ptsL_cons, one8, hl]
                    rfl
                  clear hdr HP
                  go_wp2_with fail
                  go_ret2
                  exact PtsPost.no HE.out hb

      case rest =>
        obtain ⟨rfl, kk, m, vv, ll, hm, rfl, rfl, rfl, HL⟩ := hcut
        have hrange := lead8_range HL.out s[k].toNat_lt
        obtain ⟨hkk, hvv, hll⟩ := hrange
        by_cases hroom : s.size - k < m
        · have hd : decide ((s.size : Int) - (k : Int) < (m : Int)) = true := decide_eq_true (by omega)
          have HE : Hid (ptsL (ls s) = none) := by
            show _ = _
            have hc : cont8 kk vv ((ls s).drop (k + 1)) = none := by
              cases hcc : cont8 kk vv ((ls s).drop (k + 1)) with
              | none => rfl
              | some u =>
                have := cont8_drop _ _ _ _ hcc
                rw [List.length_drop, ls_length] at this
                omega
            rw [HP.out, hdr, ptsL_cons, one8, HL.out]
            simp only [hc]
            rfl
          clear hdr HP
          go_wp2_with fail
          go_ret2
          exact PtsPost.no HE.out hb
        · have hd : decide ((s.size : Int) - (k : Int) < (m : Int)) = false := decide_eq_false (by omega)
          have HDR := Lib.hid hdr
          clear hdr
          go_wp2_with fail
          obtain ⟨wo, rfl⟩ : ∃ wo : World, wo = wr := ⟨_, rfl⟩
          obtain ⟨go, rfl⟩ : ∃ go : Nat, go = gk := ⟨_, rfl⟩
          go_loopg [8, 10] (m - 1) (fun g av jj wr => ∃ (u j : Nat), wr = wo ∧ 1 ≤ j ∧ j ≤ m ∧ g = m - j ∧ av = .int .i64 u ∧ jj = .int .i64 j ∧ u < bnd8 j ∧ Hid (cont8 kk vv ((ls s).drop (k + 1)) = cont8 (m - j) u ((ls s).drop (k + j))))
          case atStart => exact ⟨vv, 1, rfl, Nat.le_refl _, by omega, rfl, rfl, rfl, by unfold bnd8; omega, Lib.hid (by rw [show m - 1 = kk by omega])⟩
          case round =>
            obtain ⟨u, j, rfl, hj1, hjm, hgj, rfl, rfl, hub, HC⟩ := hrel
            have HGJ := Lib.hid hgj
            clear hgj
            have hbn := bnd8_le (show j ≤ 4 by omega)
            by_cases hjlt : j < m
            · have hjd : decide ((j : Int) < (m : Int)) = true := decide_eq_true (by omega)
              have hks : k + j < s.size := by omega
              have hidx : (k : Int) + (j : Int) = ((k + j : Nat) : Int) := by omega
              obtain ⟨q, hq⟩ : ∃ q, q = k + j := ⟨_, rfl⟩
              rw [← hq] at hks hidx HC
              have hdr2 := drop_ls_cons s q hks
              have hcl := byte_lt s[q]
              by_cases hbad : 128 ≤ s[q].toNat ∧ s[q].toNat ≤ 191
              · have hc1 : decide ((s[q].toNat : Int) < 128) = false := decide_eq_false (by omega)
                have hc2 : decide ((191 : Int) < (s[q].toNat : Int)) = false := decide_eq_false (by omega)
                obtain ⟨u2, hu2⟩ : ∃ u2, u2 = u * 64 + s[q].toNat - 128 := ⟨_, rfl⟩
                have hub2 : u2 < bnd8 (j + 1) := by rw [hu2]; exact bnd8_step hj1 hub hbad.2
                have hbn2 := bnd8_le (show j + 1 ≤ 4 by omega)
                have HC2 : Hid (cont8 kk vv ((ls s).drop (k + 1)) = cont8 (m - (j + 1)) u2 ((ls s).drop (k + (j + 1)))) := by
                  show _ = _
                  rw [HC.out, hdr2, show m - j = m - (j + 1) + 1 by omega, cont8, if_pos hbad, ← hu2, show k + (j + 1) = q + 1 by omega]
                have hu2i : (u : Int) * 64 + (s[q].toNat : Int) - 128 = (u2 : Int) := by omega
                clear hdr2 hq hbad hu2
                go_wp2_with fail
                go_roundg (m - (j + 1))
                case rel => exact ⟨u2, j + 1, rfl, by omega, by omega, rfl, by go_num, by go_num, hub2, HC2⟩
                case measure => rw [HGJ.out]; omega
              · have HE : Hid (ptsL (ls s) = none) := by
                  show _ = _
                  have hc : cont8 kk vv ((ls s).drop (k + 1)) = none := by rw [HC.out, hdr2, show m - j = m - (j + 1) + 1 by omega, cont8, if_neg hbad]
                  rw [HP.out, HDR.out, ptsL_cons, one8, HL.out]
                  simp only [hc]
                  rfl
                clear hdr2 hq
                by_cases hlo : s[q].toNat < 128
                · have hc1 : decide ((s[q].toNat : Int) < 128) = true := decide_eq_true (by omega)
                  clear hbad
                  go_wp2_with fail
                  go_ret2
                  exact PtsPost.no HE.out hb
                · have hc1 : decide ((s[q].toNat : Int) < 128) = false := decide_eq_false (by omega)
                  have hc2 : decide ((191 : Int) < (s[q].toNat : Int)) = true := decide_eq_true (by omega)
                  clear hbad
                  go_wp2_with fail
                  go_ret2
                  exact PtsPost.no HE.out hb
            · obtain rfl : j = m := by omega
              have hjd : decide ((j : Int) < (j : Int)) = false := by simp
              have HC3 : Hid (cont8 kk vv ((ls s).drop (k + 1)) = some u) := by
                show _ = _
                rw [HC.out, Nat.sub_self, cont8]
              have cP := refPoint_any (u : Int)
              rw [ptZ_nat] at cP
              have hno : (u < ll ∨ ptN u = false) → ptsL (ls s) = none := by
                intro hh
                rw [HP.out, HDR.out, ptsL_cons, one8, HL.out]
                simp only [HC3.out]
                rw [if_pos hh]
                rfl
              by_cases hll2 : u < ll
              · have hld : decide ((u : Int) < (ll : Int)) = true := decide_eq_true (by omega)
                have HE : Hid (ptsL (ls s) = none) := Lib.hid (hno (.inl hll2))
                clear hno
                go_wp2_with (go_at_call 39; refine (cP _).mono ?_; rintro e w' ⟨rfl, rfl⟩)
                go_ret2
                exact PtsPost.no HE.out hb
              · have hld : decide ((u : Int) < (ll : Int)) = false := decide_eq_false (by omega)
                cases hpt : ptN u with
                | false =>
                  rw [hpt] at cP
                  have HE : Hid (ptsL (ls s) = none) := Lib.hid (hno (.inr hpt))
                  clear hno hpt
                  go_wp2_with (go_at_call 39; refine (cP _).mono ?_; rintro e w' ⟨rfl, rfl⟩)
                  go_ret2
                  exact PtsPost.no HE.out hb
                | true =>
                  rw [hpt] at cP
                  have hkj : k + j ≤ s.size := by omega
                  have hkji : (k : Int) + (j : Int) = ((k + j : Nat) : Int) := by omega
                  have HP2 : Hid (ptsL (ls s) = (ptsL ((ls s).drop (k + j))).map ((acc ++ [u]) ++ ·)) := by
                    show _ = _
                    have hj : k + 1 + kk = k + j := by omega
                    rw [HP.out, HDR.out, ptsL_cons, one8, HL.out]
                    simp only [HC3.out]
                    rw [if_neg (by rw [hpt]; simp; omega)]
                    simp only [List.drop_drop, hj]
                    cases ptsL ((ls s).drop (k + j)) with
                    | none => rfl
                    | some Q => simp
                  have hul := ptN_le hpt
                  have HACC : Hid ((acc ++ [u]).map nvI = acc.map nvI ++ [.int .i64 (u : Int)] ∧ (acc ++ [u]).length = acc.length + 1) := Lib.hid ⟨by simp, by simp⟩
                  obtain ⟨q, hq⟩ : ∃ q, q = k + j := ⟨_, rfl⟩
                  have hq1 : k < q := by omega
                  rw [← hq] at hkj hkji HP2
                  clear hno hpt hq
                  go_wp2_with (first | (go_at_call 39; refine (cP _).mono ?_; rintro e w' ⟨rfl, rfl⟩) | (at_builtin; refine wpList_app_one wr rfl _ _ 32 rfl w.heap.size 3 i3 (.int .i64 0) 8 tyInts hi3 hz0 hz1 hz2 rfl _ (by exact rfl) _ _ _ (by exact rfl) hown (by exact rfl) (by unfold maxLen; omega) (by omega) hb (Nat.le_refl _) ?_; intro v' w' hown' hb' _))
                  go_roundg (s.size - q)
                  case rel =>
                    refine ⟨q, acc ++ [u], by omega, rfl, by go_num, by rw [HACC.out.2]; omega, HP2, ?_, hb'⟩
                    rw [HACC.out.1, HACC.out.2]
                    exact hown'
                  case measure => rw [HG.out]; omega

    · obtain rfl : k = s.size := by omega
      have hkd : decide ((s.size : Int) < (s.size : Int)) = false := by simp
      have HE : Hid (ptsL (ls s) = some acc) := by
        show _ = _
        rw [HP.out, drop_ls_all, ptsL_nil]
        simp
      go_wp2
      go_ret2
      exact PtsPost.yes HE.out hown hb

end Go.Proofs.YtoieapdfpbcfpaaDoor
