/-
Canonical labels, test by test. No program.
Contract of the reference's Points of layer 13.
Contracts of the reference of layer 13: Valid, ToASCII.
The reference's ValidName of layer 14.
-/
import Derived.Test.YtdfacgncphmcoaaGreatDoorB02
import Derived.Test.YtdfacgncphmcoaaGreatDoorB13
import Derived.Test.YtdfacgncphmcoaaGreatDoorB30
import Derived.Test.YtdfacgncphmcoaaGreatDoorB06
import Derived.Deep.LoopGhost
import Derived.BigQuiet
import Derived.Deep.CutRange
import Derived.Deep.CutBlock
import Derived.Test.YtdfacgncphmcoaaGreatDoorB33
import Derived.Test.YtdfacgncphmcoaaGreatDoorB27
import Derived.Test.YtdfacgncphmcoaaGreatDoorB29
namespace Go.Proofs.YtdfacgncphmcoaaGreatDoor
section
open Go.RowKit
theorem ne_empty {s : ByteArray} (h : ¬ s.size = 0) : (ls s).isEmpty = false := by
  cases hl : ls s with
  | nil => exact absurd (by rw [← ls_length, hl]; rfl) h
  | cons _ _ => rfl
theorem lab_zero {s : ByteArray} (h : s.size = 0) : labL (ls s) = false := by
  have : ls s = [] := List.eq_nil_of_length_eq_zero (by rw [ls_length]; exact h)
  rw [this]
  rfl
theorem lab_long {s : ByteArray} (h : 63 < s.size) : labL (ls s) = false := by
  unfold labL endsL
  rw [ls_length, decide_eq_false (p := s.size ≤ 63) (by omega)]
  simp
/-- What is left when the length and the ends are well. -/
def restLab (l : List UInt8) : Bool := l.all (fun b => okN b.toNat) && (decide (l.take 4 ≠ xnL) || propL (l.drop 4))
theorem u8_45 {c : UInt8} : c = 45 ↔ c.toNat = 45 := by
  constructor
  · rintro rfl; rfl
  · intro h; exact UInt8.toNat_inj.1 h
theorem lab_ends {s : ByteArray} {y0 y1 : Nat} (h : 0 < s.size) (h0 : y0 = (s[0]'h).toNat) (h1 : y1 = (s[s.size - 1]'(by omega)).toNat) :
    ((y0 = 45 ∨ y1 = 45) → labL (ls s) = false) ∧ ((y0 ≠ 45 ∧ y1 ≠ 45 ∧ s.size ≤ 63) → labL (ls s) = restLab (ls s)) := by
  have g0 : (ls s).head? = some (s[0]'h) := by rw [List.head?_eq_getElem?, ls_get s 0 h]
  have g1 : (ls s).getLast? = some (s[s.size - 1]'(by omega)) := by rw [List.getLast?_eq_getElem?, ls_length, ls_get s _ (by omega)]
  have hne : ls s ≠ [] := by
    intro e
    have := ls_length s
    rw [e] at this
    simp at this
    omega
  have e : endsL (ls s) = (decide (s.size ≤ 63) && decide (y0 ≠ 45) && decide (y1 ≠ 45)) := by
    unfold endsL
    rw [g0, g1, ls_length, decide_eq_true hne, Bool.true_and]
    congr 1
    · congr 1
      rw [decide_eq_decide]
      rw [h0, ne_eq, ne_eq, Option.some.injEq, u8_45]
    · rw [decide_eq_decide]
      rw [h1, ne_eq, ne_eq, Option.some.injEq, u8_45]
  refine ⟨?_, ?_⟩
  · intro hh
    unfold labL
    rw [e]
    rcases hh with hh | hh
    · simp [hh]
    · simp [hh]
  · rintro ⟨a, b, c⟩
    unfold labL restLab
    rw [e, decide_eq_true a, decide_eq_true b, decide_eq_true c]
    simp
theorem okN_yes (y : Nat) : okN y = true ↔ (97 ≤ y ∧ y ≤ 122) ∨ (48 ≤ y ∧ y ≤ 57) ∨ y = 45 ∨ y = 95 := by
  unfold okN
  simp only [Bool.or_eq_true, Bool.and_eq_true, decide_eq_true_eq, beq_iff_eq]
  omega
theorem okN_no (y : Nat) : okN y = false ↔ ¬ ((97 ≤ y ∧ y ≤ 122) ∨ (48 ≤ y ∧ y ≤ 57) ∨ y = 45 ∨ y = 95) := by
  rw [← okN_yes, Bool.not_eq_true]
def okK (l : List UInt8) (k : Nat) : Bool := (l.take k).all (fun b => okN b.toNat)
theorem okK_succ (l : List UInt8) (k : Nat) (h : k < l.length) : okK l (k + 1) = (okK l k && okN (l[k]).toNat) := by
  unfold okK
  rw [List.take_succ_eq_append_getElem h, List.all_append]
  simp
theorem rest_bad {l : List UInt8} (k : Nat) (h : k < l.length) (hb : okN (l[k]).toNat = false) : restLab l = false := by
  have : l.all (fun b => okN b.toNat) = false := by
    rw [List.all_eq_false]
    exact ⟨l[k], List.getElem_mem h, by rw [hb]; simp⟩
  unfold restLab
  rw [this]
  rfl
theorem rest_all {l : List UInt8} (h : okK l l.length = true) : restLab l = (decide (l.take 4 ≠ xnL) || propL (l.drop 4)) := by
  unfold okK at h
  rw [List.take_length] at h
  unfold restLab
  rw [h, Bool.true_and]
theorem xn_short {l : List UInt8} (h : l.length < 4) : decide (l.take 4 ≠ xnL) = true := by
  rw [decide_eq_true_iff]
  intro e
  have := congrArg List.length e
  rw [List.length_take] at this
  unfold xnL at this
  simp at this
  omega
end

section
open Go.RowKit
/-- What Points answers, in memory. -/
def PtsPost (l : List UInt8) (w : World) (e : Ending) (w' : World) : Prop :=
  (∃ v, e = .returned (.tuple #[v, .bool (ptsL l).isSome]) ∧ w'.ownsRow w.heap.size 3 1 v ((ptsL l).getD []).length (((ptsL l).getD []).map nvI)) ∧ Below w.heap.size w w'
theorem PtsPost.no {l : List UInt8} {w w' : World} (h : ptsL l = none) (hb : Below w.heap.size w w') : PtsPost l w (.returned (.tuple #[.slice none 0 0, .bool false])) w' := by
  refine ⟨⟨_, by rw [h]; rfl, ?_⟩, hb⟩
  rw [h]
  exact World.ownsRow_nil _ _ _ _
theorem PtsPost.yes {l : List UInt8} {P : List Nat} {w w' : World} {v : Value} (h : ptsL l = some P) (ho : w'.ownsRow w.heap.size 3 1 v P.length (P.map nvI)) (hb : Below w.heap.size w w') : PtsPost l w (.returned (.tuple #[v, .bool true])) w' := by
  refine ⟨⟨v, by rw [h]; rfl, ?_⟩, hb⟩
  rw [h]
  exact ho
/-- How large a value may be behind j bytes. -/
def bnd8 (j : Nat) : Nat := 256 * 64 ^ (j - 1)
theorem bnd8_le {j : Nat} (h : j ≤ 4) : bnd8 j ≤ 67108864 := by
  unfold bnd8
  have : 64 ^ (j - 1) ≤ 64 ^ 3 := Nat.pow_le_pow_right (by omega) (by omega)
  omega
theorem bnd8_step {j u c : Nat} (hj : 1 ≤ j) (hu : u < bnd8 j) (hc : c ≤ 191) : u * 64 + c - 128 < bnd8 (j + 1) := by
  have e : bnd8 (j + 1) = bnd8 j * 64 := by
    unfold bnd8
    rw [show j + 1 - 1 = j - 1 + 1 by omega, Nat.pow_succ, Nat.mul_assoc]
  omega
theorem lead8_range {b k v least : Nat} (h : lead8 b = some (k, v, least)) (hb : b < 256) : k ≤ 3 ∧ v < 256 ∧ least ≤ 65536 := by
  unfold lead8 at h
  split at h
  · obtain ⟨e1, e23⟩ := Prod.mk.inj (Option.some.inj h)
    obtain ⟨e2, e3⟩ := Prod.mk.inj e23
    omega
  · split at h
    · obtain ⟨e1, e23⟩ := Prod.mk.inj (Option.some.inj h)
      obtain ⟨e2, e3⟩ := Prod.mk.inj e23
      omega
    · split at h
      · obtain ⟨e1, e23⟩ := Prod.mk.inj (Option.some.inj h)
        obtain ⟨e2, e3⟩ := Prod.mk.inj e23
        omega
      · split at h
        · obtain ⟨e1, e23⟩ := Prod.mk.inj (Option.some.inj h)
          obtain ⟨e2, e3⟩ := Prod.mk.inj e23
          omega
        · cases h
set_option maxRecDepth 20000 in
set_option maxHeartbeats 8000000 in
theorem refPts_any (s : ByteArray) (w : World) (hs : s.size ≤ 1000000000) :
    Calls Tryz.prog 122 #[.string s] w (PtsPost (ls s) w) := by
  obtain ⟨i3, hi3, hz0, hz1, hz2⟩ := info_parts infoInt
  go_enter Tryz.func122, Tryz.ntmps122
  go_wp2
  go_loopg [4, 5] s.size (fun g v i wr => ∃ (k : Nat) (acc : List Nat), k ≤ s.size ∧ g = s.size - k ∧ i = .int .i64 k ∧ acc.length ≤ k ∧ Hid (ptsL (ls s) = (ptsL ((ls s).drop k)).map (acc ++ ·)) ∧
    wr.ownsRow w.heap.size 3 1 v acc.length (acc.map nvI) ∧ Below w.heap.size w wr)
  case atStart => exact ⟨0, [], Nat.zero_le _, rfl, rfl, Nat.le_refl _, Lib.hid (by rw [List.drop_zero]; cases ptsL (ls s) <;> rfl), World.ownsRow_nil _ _ _ _, Below.refl _ _⟩
  case round =>
    obtain ⟨k, acc, hk, hg, rfl, hacc, HP, hown, hb⟩ := hrel
    have HG := Lib.hid hg
    clear hg
    obtain ⟨A4, c4, rfl, _, _⟩ := Has.of_own hown
    by_cases hlt : k < s.size
    · have hdr := drop_ls_cons s k hlt
      have hkd : decide ((k : Int) < (s.size : Int)) = true := decide_eq_true (by omega)
      have hbl := byte_lt s[k]
      have hw64 : wrap64 (s[k].toNat : Int) = (s[k].toNat : Int) := by unfold wrap64; omega
      go_upto_block 2 with fail
      go_cut [7, 8, 9] from 21 to 50 (fun n v l wx => wr = wx ∧ ∃ kk m vv ll : Nat, m = kk + 1 ∧ n = .int .i64 (m : Int) ∧ v = .int .i64 (vv : Int) ∧ l = .int .i64 (ll : Int) ∧ Hid (lead8 s[k].toNat = some (kk, vv, ll)))
      case first =>
        by_cases h1 : s[k].toNat < 128
        · have dl128 : decide ((s[k].toNat : Int) < 128) = true := decide_eq_true (by omega)
          have dl224 : decide ((s[k].toNat : Int) < 224) = true := decide_eq_true (by omega)
          have dl240 : decide ((s[k].toNat : Int) < 240) = true := decide_eq_true (by omega)
          have dl245 : decide ((s[k].toNat : Int) < 245) = true := decide_eq_true (by omega)
          have dg194 : decide ((194 : Int) ≤ (s[k].toNat : Int)) = false := decide_eq_false (by omega)
          have dg224 : decide ((224 : Int) ≤ (s[k].toNat : Int)) = false := decide_eq_false (by omega)
          have dg240 : decide ((240 : Int) ≤ (s[k].toNat : Int)) = false := decide_eq_false (by omega)
          have HL : Hid (lead8 s[k].toNat = some (0, s[k].toNat, 0)) := by show _ = _; unfold lead8; rw [if_pos (by omega)]
          go_wp2_with fail
          go_meet
          exact ⟨rfl, 0, 1, s[k].toNat, 0, rfl, rfl, by go_num, rfl, HL⟩
        · by_cases h2 : s[k].toNat < 194
          · have dl128 : decide ((s[k].toNat : Int) < 128) = false := decide_eq_false (by omega)
            have dl224 : decide ((s[k].toNat : Int) < 224) = true := decide_eq_true (by omega)
            have dl240 : decide ((s[k].toNat : Int) < 240) = true := decide_eq_true (by omega)
            have dl245 : decide ((s[k].toNat : Int) < 245) = true := decide_eq_true (by omega)
            have dg194 : decide ((194 : Int) ≤ (s[k].toNat : Int)) = false := decide_eq_false (by omega)
            have dg224 : decide ((224 : Int) ≤ (s[k].toNat : Int)) = false := decide_eq_false (by omega)
            have dg240 : decide ((240 : Int) ≤ (s[k].toNat : Int)) = false := decide_eq_false (by omega)
            have HE : Hid (ptsL (ls s) = none) := by
              show _ = _
              have hl : lead8 s[k].toNat = none := by unfold lead8; rw [if_neg (by omega), if_neg (by omega), if_neg (by omega), if_neg (by omega)]
              rw [HP.out, hdr, ptsL_cons, one8, hl]
              rfl
            clear hdr HP
            go_wp2_with fail
            go_ret2
            exact PtsPost.no HE.out hb
          · by_cases h3 : s[k].toNat < 224
            · have dl128 : decide ((s[k].toNat : Int) < 128) = false := decide_eq_false (by omega)
              have dl224 : decide ((s[k].toNat : Int) < 224) = true := decide_eq_true (by omega)
              have dl240 : decide ((s[k].toNat : Int) < 240) = true := decide_eq_true (by omega)
              have dl245 : decide ((s[k].toNat : Int) < 245) = true := decide_eq_true (by omega)
              have dg194 : decide ((194 : Int) ≤ (s[k].toNat : Int)) = true := decide_eq_true (by omega)
              have dg224 : decide ((224 : Int) ≤ (s[k].toNat : Int)) = false := decide_eq_false (by omega)
              have dg240 : decide ((240 : Int) ≤ (s[k].toNat : Int)) = false := decide_eq_false (by omega)
              have HL : Hid (lead8 s[k].toNat = some (1, s[k].toNat - 192, 128)) := by show _ = _; unfold lead8; rw [if_neg (by omega), if_pos (by omega)]
              go_wp2_with fail
              go_meet
              exact ⟨rfl, 1, 2, s[k].toNat - 192, 128, rfl, rfl, by go_num, rfl, HL⟩
            · by_cases h4 : s[k].toNat < 240
              · have dl128 : decide ((s[k].toNat : Int) < 128) = false := decide_eq_false (by omega)
                have dl224 : decide ((s[k].toNat : Int) < 224) = false := decide_eq_false (by omega)
                have dl240 : decide ((s[k].toNat : Int) < 240) = true := decide_eq_true (by omega)
                have dl245 : decide ((s[k].toNat : Int) < 245) = true := decide_eq_true (by omega)
                have dg194 : decide ((194 : Int) ≤ (s[k].toNat : Int)) = true := decide_eq_true (by omega)
                have dg224 : decide ((224 : Int) ≤ (s[k].toNat : Int)) = true := decide_eq_true (by omega)
                have dg240 : decide ((240 : Int) ≤ (s[k].toNat : Int)) = false := decide_eq_false (by omega)
                have HL : Hid (lead8 s[k].toNat = some (2, s[k].toNat - 224, 2048)) := by show _ = _; unfold lead8; rw [if_neg (by omega), if_neg (by omega), if_pos (by omega)]
                go_wp2_with fail
                go_meet
                exact ⟨rfl, 2, 3, s[k].toNat - 224, 2048, rfl, rfl, by go_num, rfl, HL⟩
              · by_cases h5 : s[k].toNat < 245
                · have dl128 : decide ((s[k].toNat : Int) < 128) = false := decide_eq_false (by omega)
                  have dl224 : decide ((s[k].toNat : Int) < 224) = false := decide_eq_false (by omega)
                  have dl240 : decide ((s[k].toNat : Int) < 240) = false := decide_eq_false (by omega)
                  have dl245 : decide ((s[k].toNat : Int) < 245) = true := decide_eq_true (by omega)
                  have dg194 : decide ((194 : Int) ≤ (s[k].toNat : Int)) = true := decide_eq_true (by omega)
                  have dg224 : decide ((224 : Int) ≤ (s[k].toNat : Int)) = true := decide_eq_true (by omega)
                  have dg240 : decide ((240 : Int) ≤ (s[k].toNat : Int)) = true := decide_eq_true (by omega)
                  have HL : Hid (lead8 s[k].toNat = some (3, s[k].toNat - 240, 65536)) := by show _ = _; unfold lead8; rw [if_neg (by omega), if_neg (by omega), if_neg (by omega), if_pos (by omega)]
                  go_wp2_with fail
                  go_meet
                  exact ⟨rfl, 3, 4, s[k].toNat - 240, 65536, rfl, rfl, by go_num, rfl, HL⟩
                · have dl128 : decide ((s[k].toNat : Int) < 128) = false := decide_eq_false (by omega)
                  have dl224 : decide ((s[k].toNat : Int) < 224) = false := decide_eq_false (by omega)
                  have dl240 : decide ((s[k].toNat : Int) < 240) = false := decide_eq_false (by omega)
                  have dl245 : decide ((s[k].toNat : Int) < 245) = false := decide_eq_false (by omega)
                  have dg194 : decide ((194 : Int) ≤ (s[k].toNat : Int)) = true := decide_eq_true (by omega)
                  have dg224 : decide ((224 : Int) ≤ (s[k].toNat : Int)) = true := decide_eq_true (by omega)
                  have dg240 : decide ((240 : Int) ≤ (s[k].toNat : Int)) = true := decide_eq_true (by omega)
                  have HE : Hid (ptsL (ls s) = none) := by
                    show _ = _
                    have hl : lead8 s[k].toNat = none := by unfold lead8; rw [if_neg (by omega), if_neg (by omega), if_neg (by omega), if_neg (by omega)]
                    rw [HP.out, hdr, ptsL_cons, one8, hl]
                    rfl
                  clear hdr HP
                  go_wp2_with fail
                  go_ret2
                  exact PtsPost.no HE.out hb

      case rest =>
        obtain ⟨rfl, kk, m, vv, ll, hm, rfl, rfl, rfl, HL⟩ := hcut
        have hrange := lead8_range HL.out s[k].toNat_lt
        obtain ⟨hkk, hvv, hll⟩ := hrange
        by_cases hroom : s.size - k < m
        · have hd : decide ((s.size : Int) - (k : Int) < (m : Int)) = true := decide_eq_true (by omega)
          have HE : Hid (ptsL (ls s) = none) := by
            show _ = _
            have hc : cont8 kk vv ((ls s).drop (k + 1)) = none := by
              cases hcc : cont8 kk vv ((ls s).drop (k + 1)) with
              | none => rfl
              | some u =>
                have := cont8_drop _ _ _ _ hcc
                rw [List.length_drop, ls_length] at this
                omega
            rw [HP.out, hdr, ptsL_cons, one8, HL.out]
            simp only [hc]
            rfl
          clear hdr HP
          go_wp2_with fail
          go_ret2
          exact PtsPost.no HE.out hb
        · have hd : decide ((s.size : Int) - (k : Int) < (m : Int)) = false := decide_eq_false (by omega)
          have HDR := Lib.hid hdr
          clear hdr
          go_wp2_with fail
          obtain ⟨wo, rfl⟩ : ∃ wo : World, wo = wr := ⟨_, rfl⟩
          obtain ⟨go, rfl⟩ : ∃ go : Nat, go = gk := ⟨_, rfl⟩
          go_loopg [8, 10] (m - 1) (fun g av jj wr => ∃ (u j : Nat), wr = wo ∧ 1 ≤ j ∧ j ≤ m ∧ g = m - j ∧ av = .int .i64 u ∧ jj = .int .i64 j ∧ u < bnd8 j ∧ Hid (cont8 kk vv ((ls s).drop (k + 1)) = cont8 (m - j) u ((ls s).drop (k + j))))
          case atStart => exact ⟨vv, 1, rfl, Nat.le_refl _, by omega, rfl, rfl, rfl, by unfold bnd8; omega, Lib.hid (by rw [show m - 1 = kk by omega])⟩
          case round =>
            obtain ⟨u, j, rfl, hj1, hjm, hgj, rfl, rfl, hub, HC⟩ := hrel
            have HGJ := Lib.hid hgj
            clear hgj
            have hbn := bnd8_le (show j ≤ 4 by omega)
            by_cases hjlt : j < m
            · have hjd : decide ((j : Int) < (m : Int)) = true := decide_eq_true (by omega)
              have hks : k + j < s.size := by omega
              have hidx : (k : Int) + (j : Int) = ((k + j : Nat) : Int) := by omega
              obtain ⟨q, hq⟩ : ∃ q, q = k + j := ⟨_, rfl⟩
              rw [← hq] at hks hidx HC
              have hdr2 := drop_ls_cons s q hks
              have hcl := byte_lt s[q]
              by_cases hbad : 128 ≤ s[q].toNat ∧ s[q].toNat ≤ 191
              · have hc1 : decide ((s[q].toNat : Int) < 128) = false := decide_eq_false (by omega)
                have hc2 : decide ((191 : Int) < (s[q].toNat : Int)) = false := decide_eq_false (by omega)
                obtain ⟨u2, hu2⟩ : ∃ u2, u2 = u * 64 + s[q].toNat - 128 := ⟨_, rfl⟩
                have hub2 : u2 < bnd8 (j + 1) := by rw [hu2]; exact bnd8_step hj1 hub hbad.2
                have hbn2 := bnd8_le (show j + 1 ≤ 4 by omega)
                have HC2 : Hid (cont8 kk vv ((ls s).drop (k + 1)) = cont8 (m - (j + 1)) u2 ((ls s).drop (k + (j + 1)))) := by
                  show _ = _
                  rw [HC.out, hdr2, show m - j = m - (j + 1) + 1 by omega, cont8, if_pos hbad, ← hu2, show k + (j + 1) = q + 1 by omega]
                have hu2i : (u : Int) * 64 + (s[q].toNat : Int) - 128 = (u2 : Int) := by omega
                clear hdr2 hq hbad hu2
                go_wp2_with fail
                go_roundg (m - (j + 1))
                case rel => exact ⟨u2, j + 1, rfl, by omega, by omega, rfl, by go_num, by go_num, hub2, HC2⟩
                case measure => rw [HGJ.out]; omega
              · have HE : Hid (ptsL (ls s) = none) := by
                  show _ = _
                  have hc : cont8 kk vv ((ls s).drop (k + 1)) = none := by rw [HC.out, hdr2, show m - j = m - (j + 1) + 1 by omega, cont8, if_neg hbad]
                  rw [HP.out, HDR.out, ptsL_cons, one8, HL.out]
                  simp only [hc]
                  rfl
                clear hdr2 hq
                by_cases hlo : s[q].toNat < 128
                · have hc1 : decide ((s[q].toNat : Int) < 128) = true := decide_eq_true (by omega)
                  clear hbad
                  go_wp2_with fail
                  go_ret2
                  exact PtsPost.no HE.out hb
                · have hc1 : decide ((s[q].toNat : Int) < 128) = false := decide_eq_false (by omega)
                  have hc2 : decide ((191 : Int) < (s[q].toNat : Int)) = true := decide_eq_true (by omega)
                  clear hbad
                  go_wp2_with fail
                  go_ret2
                  exact PtsPost.no HE.out hb
            · obtain rfl : j = m := by omega
              have hjd : decide ((j : Int) < (j : Int)) = false := by simp
              have HC3 : Hid (cont8 kk vv ((ls s).drop (k + 1)) = some u) := by
                show _ = _
                rw [HC.out, Nat.sub_self, cont8]
              have cP := refPoint_any (u : Int)
              rw [ptZ_nat] at cP
              have hno : (u < ll ∨ ptN u = false) → ptsL (ls s) = none := by
                intro hh
                rw [HP.out, HDR.out, ptsL_cons, one8, HL.out]
                simp only [HC3.out]
                rw [if_pos hh]
                rfl
              by_cases hll2 : u < ll
              · have hld : decide ((u : Int) < (ll : Int)) = true := decide_eq_true (by omega)
                have HE : Hid (ptsL (ls s) = none) := Lib.hid (hno (.inl hll2))
                clear hno
                go_wp2_with (go_at_call 156; refine (cP _).mono ?_; rintro e w' ⟨rfl, rfl⟩)
                go_ret2
                exact PtsPost.no HE.out hb
              · have hld : decide ((u : Int) < (ll : Int)) = false := decide_eq_false (by omega)
                cases hpt : ptN u with
                | false =>
                  rw [hpt] at cP
                  have HE : Hid (ptsL (ls s) = none) := Lib.hid (hno (.inr hpt))
                  clear hno hpt
                  go_wp2_with (go_at_call 156; refine (cP _).mono ?_; rintro e w' ⟨rfl, rfl⟩)
                  go_ret2
                  exact PtsPost.no HE.out hb
                | true =>
                  rw [hpt] at cP
                  have hkj : k + j ≤ s.size := by omega
                  have hkji : (k : Int) + (j : Int) = ((k + j : Nat) : Int) := by omega
                  have HP2 : Hid (ptsL (ls s) = (ptsL ((ls s).drop (k + j))).map ((acc ++ [u]) ++ ·)) := by
                    show _ = _
                    have hj : k + 1 + kk = k + j := by omega
                    rw [HP.out, HDR.out, ptsL_cons, one8, HL.out]
                    simp only [HC3.out]
                    rw [if_neg (by rw [hpt]; simp; omega)]
                    simp only [List.drop_drop, hj]
                    cases ptsL ((ls s).drop (k + j)) with
                    | none => rfl
                    | some Q => simp
                  have hul := ptN_le hpt
                  have HACC : Hid ((acc ++ [u]).map nvI = acc.map nvI ++ [.int .i64 (u : Int)] ∧ (acc ++ [u]).length = acc.length + 1) := Lib.hid ⟨by simp, by simp⟩
                  obtain ⟨q, hq⟩ : ∃ q, q = k + j := ⟨_, rfl⟩
                  have hq1 : k < q := by omega
                  rw [← hq] at hkj hkji HP2
                  clear hno hpt hq
                  go_wp2_with (first | (go_at_call 156; refine (cP _).mono ?_; rintro e w' ⟨rfl, rfl⟩) | (at_builtin; refine wpList_app_one wr rfl _ _ 105 rfl w.heap.size 3 i3 (.int .i64 0) 8 tyInts hi3 hz0 hz1 hz2 rfl _ (by exact rfl) _ _ _ (by exact rfl) hown (by exact rfl) (by unfold maxLen; omega) (by omega) hb (Nat.le_refl _) ?_; intro v' w' hown' hb' _))
                  go_roundg (s.size - q)
                  case rel =>
                    refine ⟨q, acc ++ [u], by omega, rfl, by go_num, by rw [HACC.out.2]; omega, HP2, ?_, hb'⟩
                    rw [HACC.out.1, HACC.out.2]
                    exact hown'
                  case measure => rw [HG.out]; omega

    · obtain rfl : k = s.size := by omega
      have hkd : decide ((s.size : Int) < (s.size : Int)) = false := by simp
      have HE : Hid (ptsL (ls s) = some acc) := by
        show _ = _
        rw [HP.out, drop_ls_all, ptsL_nil]
        simp
      go_wp2
      go_ret2
      exact PtsPost.yes HE.out hown hb
end

section
open Go.RowKit
set_option maxRecDepth 20000 in
set_option maxHeartbeats 2000000 in
theorem refLab_any (s : ByteArray) (w : World) (hs : s.size ≤ 1000000000) :
    Calls Tryz.prog 100 #[.string s] w fun e w' => e = .returned (.bool (labL (ls s))) ∧ Below w.heap.size w w' := by
  by_cases h0 : s.size = 0
  · have hlab := Lib.hid (lab_zero h0)
    have he : s.toList.isEmpty = true := by rw [toList_ls]; exact List.isEmpty_iff.2 (List.eq_nil_of_length_eq_zero (by rw [ls_length]; exact h0))
    go_enter Tryz.func100, Tryz.ntmps100
    go_wp2
    go_ret
    exact ⟨ret_bool hlab.out.symm, Below.refl _ _⟩
  · have he : s.toList.isEmpty = false := by rw [toList_ls]; exact ne_empty h0
    by_cases h1 : 63 < s.size
    · have hlab := Lib.hid (lab_long h1)
      have hd : decide ((63 : Int) < (s.size : Int)) = true := decide_eq_true (by omega)
      go_enter Tryz.func100, Tryz.ntmps100
      go_wp2
      go_ret
      exact ⟨ret_bool hlab.out.symm, Below.refl _ _⟩
    · have hd : decide ((63 : Int) < (s.size : Int)) = false := decide_eq_false (by omega)
      have hz0 : (0 : Int) < (s.size : Int) := by omega
      have hf0 : 0 < s.size := by omega
      obtain ⟨y0, hy0⟩ : ∃ y0 : Nat, y0 = (s[0]'hf0).toNat := ⟨_, rfl⟩
      obtain ⟨y1, hy1⟩ : ∃ y1 : Nat, y1 = (s[s.size - 1]'(by omega)).toNat := ⟨_, rfl⟩
      have hends := Lib.hid (lab_ends hf0 hy0 hy1)
      by_cases h2 : y0 = 45
      · have hlab := Lib.hid (hends.out.1 (.inl h2))
        have e0 : (((s[0]'hf0).toNat : Int) == 45) = true := by rw [← hy0, h2]; rfl
        clear hy0 hy1
        go_enter Tryz.func100, Tryz.ntmps100
        go_wp2
        go_ret
        exact ⟨ret_bool hlab.out.symm, Below.refl _ _⟩
      · have e0 : (((s[0]'hf0).toNat : Int) == 45) = false := by rw [← hy0]; simp; omega
        have hsub : (s.size : Int) - 1 = ((s.size - 1 : Nat) : Int) := by omega
        by_cases h3 : y1 = 45
        · have hlab := Lib.hid (hends.out.1 (.inr h3))
          have e1 : (((s[s.size - 1]'(by omega)).toNat : Int) == 45) = true := by rw [← hy1, h3]; rfl
          clear hy0 hy1
          go_enter Tryz.func100, Tryz.ntmps100
          go_wp2
          go_ret
          exact ⟨ret_bool hlab.out.symm, Below.refl _ _⟩
        · have hlab := Lib.hid (hends.out.2 ⟨h2, h3, by omega⟩)
          have e1 : (((s[s.size - 1]'(by omega)).toNat : Int) == 45) = false := by rw [← hy1]; simp; omega
          clear hy0 hy1 hends
          rw [hlab.out]
          have HS : Hid (s.size ≤ 63) := by show _ ≤ _; omega
          obtain ⟨R, hR⟩ : ∃ R, R = restLab (ls s) := ⟨_, rfl⟩
          have HR := Lib.hid hR
          rw [← hR]
          clear hR hlab
          go_enter Tryz.func100, Tryz.ntmps100
          go_wp2
          clear e0 e1 h2 h3 hsub he
          go_loop [3] (fun i => ∃ k : Nat, k ≤ s.size ∧ i = .int .i64 k ∧ Hid (okK (ls s) k = true)) (fun i => s.size - (intOf i).toNat)
          case atStart => exact ⟨0, Nat.zero_le _, rfl, rfl⟩
          case round =>
            obtain ⟨k, hk, rfl, HK⟩ := hrel
            have hs63 : s.size ≤ 63 := HS.out
            by_cases hlt : k < s.size
            · have hkl : k < (ls s).length := by rw [ls_length]; exact hlt
              have HG := Lib.hid (okK_succ (ls s) k hkl)
              have HB : Hid (okN (ls s)[k].toNat = false → R = false) := fun hb => by rw [HR.out]; exact rest_bad k hkl hb
              rw [ls_getE s k hlt hkl] at HG HB
              have hkd : decide ((k : Int) < (s.size : Int)) = true := decide_eq_true (by omega)
              have hyl := byte_lt s[k]
              go_wp2
              all_goals
                first
                | (go_ret
                   have hno : okN s[k].toNat = false := by
                     rw [okN_no]
                     first
                     | omega
                     | (have h := ‹(_ ∧ _) ∧ _›; simp at h; first | done | omega)
                     | (have h := ‹_ ∧ _›; simp at h; first | done | omega)
                   exact ⟨ret_bool (HB.out hno).symm, Below.refl _ _⟩)
                | (have hyes : okN s[k].toNat = true := by
                     rw [okN_yes]
                     first
                     | omega
                     | (have h := ‹(_ ∨ _) ∨ _›; simp at h; first | done | omega)
                     | (have h := ‹_ ∨ _›; simp at h; first | done | omega)
                   have HK2 : Hid (okK (ls s) (k + 1) = true) := by show _ = _; rw [HG.out, HK.out, hyes]; rfl
                   clear hyes
                   go_round
                   case rel => exact ⟨k + 1, by omega, by go_num, HK2⟩
                   case measure => simp [intOf]; omega)
            · obtain rfl : k = s.size := by omega
              have hkd : decide ((s.size : Int) < (s.size : Int)) = false := by simp
              have HR2 : Hid (R = (decide ((ls s).take 4 ≠ xnL) || propL ((ls s).drop 4))) := by
                show _ = _
                rw [HR.out]
                exact rest_all (by rw [ls_length]; exact HK.out)
              by_cases h4 : s.size < 4
              · have hd4 : decide ((s.size : Int) < 4) = true := decide_eq_true (by omega)
                have HR3 : Hid (R = true) := by show _ = _; rw [HR2.out, xn_short (by rw [ls_length]; exact h4)]; rfl
                go_wp2
                go_ret
                exact ⟨ret_bool HR3.out.symm, Below.refl _ _⟩
              · have hd4 : decide ((s.size : Int) < 4) = false := decide_eq_false (by omega)
                have h4z : (4 : Int) ≤ (s.size : Int) := by omega
                have hx : (s.extract 0 4).toList = (ls s).take 4 := by rw [toList_ls, ls_extract, List.drop_zero]
                by_cases hxn : (ls s).take 4 = xnL
                · have q1 : ((s.extract 0 4).toList != [120, 110, 45, 45]) = false := by rw [hx, hxn]; rfl
                  have q2 : ((s.extract 0 4).toList == [120, 110, 45, 45]) = true := by rw [hx, hxn]; rfl
                  have c1 := refProper_any (s.extract 4 s.size) w
                  have hr : Hid (R = propL (ls (s.extract 4 s.size))) := by
                    show _ = _
                    rw [HR2.out, decide_eq_false (by simp [hxn]), Bool.false_or, ls_extract, List.take_of_length_le (by rw [List.length_drop, ls_length]; exact Nat.le_refl _)]
                  rw [← hr.out] at c1
                  clear hx hxn
                  go_wp2_with (go_at_call 130; refine c1.mono ?_; rintro e w' ⟨rfl, hb'⟩)
                  go_ret
                  exact ⟨rfl, hb'⟩
                · have q1 : ((s.extract 0 4).toList != [120, 110, 45, 45]) = true := by rw [hx, bne_iff_ne]; exact hxn
                  have q2 : ((s.extract 0 4).toList == [120, 110, 45, 45]) = false := by rw [hx]; exact beq_false_of_ne hxn
                  have HR3 : Hid (R = true) := by show _ = _; rw [HR2.out, decide_eq_true hxn]; rfl
                  clear hx hxn
                  go_wp2
                  go_ret
                  exact ⟨ret_bool HR3.out.symm, Below.refl _ _⟩
theorem toU_no {l : List UInt8} (h : labL l = false) : toU l = (14, []) := by unfold toU; rw [if_neg (by rw [h]; simp)]
theorem toU_xn {l : List UInt8} {p : List Nat} (h : labL l = true) (hx : l.take 4 = xnL) (hd : decL (l.drop 4) = .ok p) : toU l = (0, txtL p) := by
  unfold toU toUOut toUOut.puV'
  rw [if_pos h, if_pos hx, hd]
theorem toU_self {l : List UInt8} (h : labL l = true) (hx : ¬ l.take 4 = xnL) : toU l = (0, l) := by
  unfold toU toUOut
  rw [if_pos h, if_neg hx]
theorem toA_none {l : List UInt8} (h : ptsL l = none) : toA l = (4, []) := by unfold toA; rw [h]
theorem toA_many {l : List UInt8} {P : List Nat} (h : ptsL l = some P) (hl : 256 < P.length) : toA l = (3, []) := by
  unfold toA
  rw [h]
  exact if_pos hl
theorem toA_some {l : List UInt8} {P : List Nat} (h : ptsL l = some P) (hl : ¬ 256 < P.length) : toA l = if labL (toAOut l P) = true then (0, toAOut l P) else (14, []) := by
  unfold toA
  rw [h]
  exact if_neg hl
set_option maxRecDepth 20000 in
set_option maxHeartbeats 2000000 in
theorem refToA_any (s : ByteArray) (w : World) (hs : s.size ≤ 1000000000) :
    Calls Tryz.prog 94 #[.string s] w fun e w' => e = .returned (.tuple #[.string (bs (toA (ls s)).2), .int .i64 ((toA (ls s)).1 : Nat)]) ∧ Below w.heap.size w w' := by
  have c1 := refPts_any s w hs
  unfold PtsPost at c1
  cases hp : ptsL (ls s) with
  | none =>
    rw [toA_none hp]
    rw [hp] at c1
    clear hp
    go_enter Tryz.func94, Tryz.ntmps94
    go_wp2_with fail
    refine c1.mono ?_
    rintro e w1 ⟨⟨v, rfl, _⟩, hb⟩
    go_wp2
    go_ret2
    exact ⟨rfl, hb⟩
  | some P =>
    obtain ⟨hpt, htx⟩ := txt_pts hp
    have hle := (txtL_len P).1
    rw [htx, ls_length] at hle
    rw [hp] at c1
    by_cases h256 : 256 < P.length
    · rw [toA_many hp h256]
      have hd : decide ((256 : Int) < (P.length : Int)) = true := decide_eq_true (by omega)
      clear hp hpt htx
      go_enter Tryz.func94, Tryz.ntmps94
      go_wp2_with fail
      refine c1.mono ?_
      rintro e w1 ⟨⟨v, rfl, hown⟩, hb⟩
      obtain ⟨A1, k1, rfl, hh, _⟩ := Has.of_own hown
      rw [show (some P).getD [] = P from rfl] at *
      rw [show (some P).isSome = true from rfl]
      go_wp2
      go_ret2
      exact ⟨rfl, hb⟩
    · rw [toA_some hp h256]
      have hd : decide ((256 : Int) < (P.length : Int)) = false := decide_eq_false (by omega)
      have cL := fun W => refLower_any s W hs
      by_cases hlt : P.length < s.size
      · have hlN : decide ((P.length : Int) < (s.size : Int)) = true := decide_eq_true (by omega)
        have hsz : (lowS s).size = s.size := by rw [← ls_length, show ls (lowS s) = lowL (ls s) from rfl, lowL_length, ls_length]
        have c2 := fun W => refPts_any (lowS s) W (by omega)
        unfold PtsPost at c2
        rw [show ls (lowS s) = lowL (ls s) from rfl, pts_low, hp, Option.map_some, show (some (P.map lowP)).getD [] = P.map lowP from rfl, show (some (P.map lowP)).isSome = true from rfl] at c2
        have hpt2 : ∀ x ∈ P.map lowP, ptN x = true := by
          intro x hx
          obtain ⟨y, hy, rfl⟩ := List.mem_map.1 hx
          exact lowP_pt (hpt y hy)
        have eO : toAOut (ls s) P = xnL ++ encB (P.map lowP) := by unfold toAOut; rw [if_pos (by rw [ls_length]; exact hlt)]
        obtain ⟨Q, hQ⟩ : ∃ Q, Q = P.map lowP := ⟨_, rfl⟩
        have hQl : Q.length = P.length := by rw [hQ, List.length_map]
        rw [← hQ] at c2 hpt2 eO
        have cE := fun A c B W hA hB => refEnc_any (Q.map (fun n : Nat => (n : Int))) A Q.length c B W hA hB
        rw [encL_of hpt2 (by omega)] at cE
        obtain ⟨X, hX⟩ : ∃ X, X = bs (encB Q) := ⟨_, rfl⟩
        rw [show ((0 : Nat), encB Q).2 = encB Q from rfl, show (((0 : Nat), encB Q).1 : Nat) = 0 from rfl, ← hX] at cE
        have hXl : X.size ≤ 4000 := by
          have := encB_len hpt2 (by omega)
          rw [hX, bs_size]
          omega
        have hY : ∀ Y : ByteArray, Y = (⟨#[120, 110, 45, 45]⟩ : ByteArray) ++ X → Y.size ≤ 1000000000 ∧ ls Y = toAOut (ls s) P := by
          intro Y hY
          refine ⟨?_, ?_⟩
          · rw [hY, ByteArray.size_append, show (⟨#[120, 110, 45, 45]⟩ : ByteArray).size = 4 from rfl]; omega
          · rw [hY, ls_append, hX, eO]; rfl
        obtain ⟨hYs, eY⟩ := hY _ rfl
        have c4 := fun W => refLab_any _ W hYs
        rw [eY] at c4
        have HB : Hid (bs (toAOut (ls s) P) = (⟨#[120, 110, 45, 45]⟩ : ByteArray) ++ X) := by show _ = _; rw [← eY, bs_ls]
        obtain ⟨O, hO⟩ : ∃ O, O = toAOut (ls s) P := ⟨_, rfl⟩
        rw [← hO] at c4 HB ⊢
        rw [show (some P).getD [] = P from rfl, show (some P).isSome = true from rfl] at c1
        obtain ⟨q, hq⟩ : ∃ q, q = labL O := ⟨_, rfl⟩
        rw [← hq] at c4 ⊢
        clear hp hpt htx hX hY eY hO hq eO hQ hQl hpt2 hsz hs hYs hle
        have hfin : (if q = true then ((0 : Nat), O) else (14, [])) = (if q = true then 0 else 14, if q = true then O else []) := by cases q <;> rfl
        rw [hfin]
        have HF : Hid (bs (if q = true then O else []) = if q = true then (⟨#[120, 110, 45, 45]⟩ : ByteArray) ++ X else ByteArray.mk #[]) := by
          show _ = _
          cases q
          · rfl
          · exact HB.out
        rw [HF.out]
        clear HF HB hfin
        go_enter Tryz.func94, Tryz.ntmps94
        go_wp2_with fail
        refine c1.mono ?_
        rintro e w1 ⟨⟨v, rfl, hown⟩, hb⟩
        obtain ⟨A1, k1, rfl, hh, _⟩ := Has.of_own hown
        clear hh hown
        go_wp2_with fail
        refine (cL _).mono ?_
        rintro e w2 ⟨rfl, hb2⟩
        replace hb2 := hb.trans (hb2.mono hb.size)
        go_wp2_with fail
        refine (c2 _).mono ?_
        rintro e w3 ⟨⟨v3, rfl, hown3⟩, hb3⟩
        rw [nvI_zv] at hown3
        obtain ⟨A3, k3, rfl, hh3, _⟩ := Has.of_own hown3
        replace hb3 := hb2.trans (hb3.mono hb2.size)
        clear hown3
        go_wp2_with fail
        refine (cE A3 k3 _ w3 hh3 (Nat.le_refl _)).mono ?_
        rintro e w4 ⟨rfl, hb4⟩
        replace hb4 := hb3.trans (hb4.mono hb3.size)
        cases q
        all_goals
          go_wp2_with fail
          refine (c4 _).mono ?_
          rintro e w5 ⟨rfl, hb5⟩
          replace hb5 := hb4.trans (hb5.mono hb4.size)
          go_wp2
          go_ret2
          exact ⟨rfl, hb5⟩
      · have hlN : decide ((P.length : Int) < (s.size : Int)) = false := decide_eq_false (by omega)
        have eO : toAOut (ls s) P = lowL (ls s) := by unfold toAOut; rw [if_neg (by rw [ls_length]; exact hlt)]
        rw [eO]
        have c4 := fun W => refLab_any (lowS s) W (by rw [← ls_length, show ls (lowS s) = lowL (ls s) from rfl, lowL_length, ls_length]; exact hs)
        rw [show ls (lowS s) = lowL (ls s) from rfl] at c4
        have HB : Hid (bs (lowL (ls s)) = lowS s) := rfl
        rw [show (some P).getD [] = P from rfl, show (some P).isSome = true from rfl] at c1
        obtain ⟨O, hO⟩ : ∃ O, O = lowL (ls s) := ⟨_, rfl⟩
        rw [← hO] at c4 HB ⊢
        obtain ⟨q, hq⟩ : ∃ q, q = labL O := ⟨_, rfl⟩
        rw [← hq] at c4 ⊢
        clear hp hpt htx hO hq eO hle
        have hfin : (if q = true then ((0 : Nat), O) else (14, [])) = (if q = true then 0 else 14, if q = true then O else []) := by cases q <;> rfl
        rw [hfin]
        have HF : Hid (bs (if q = true then O else []) = if q = true then lowS s else ByteArray.mk #[]) := by
          show _ = _
          cases q
          · rfl
          · exact HB.out
        rw [HF.out]
        clear HF HB hfin
        go_enter Tryz.func94, Tryz.ntmps94
        go_wp2_with fail
        refine c1.mono ?_
        rintro e w1 ⟨⟨v, rfl, hown⟩, hb⟩
        obtain ⟨A1, k1, rfl, hh, _⟩ := Has.of_own hown
        clear hh hown
        go_wp2_with fail
        refine (cL _).mono ?_
        rintro e w2 ⟨rfl, hb2⟩
        replace hb2 := hb.trans (hb2.mono hb.size)
        cases q
        all_goals
          go_wp2_with fail
          refine (c4 _).mono ?_
          rintro e w5 ⟨rfl, hb5⟩
          replace hb5 := hb2.trans (hb5.mono hb2.size)
          go_wp2
          go_ret2
          exact ⟨rfl, hb5⟩
end

section
open Go.RowKit Go.Shelf
end

end Go.Proofs.YtdfacgncphmcoaaGreatDoor
