/-
  Contract of ParseNumbers of package ipv4.
-/
import Derived.Test.YthihfhmclmmadaaDoorIq1
import Derived.Test.YthihfhmclmmadaaDoorArr
import Derived.Test.YthihfhmclmmadaaDoorIp3
import Derived.Deep.LoopGhost
namespace Go.Proofs.YthihfhmclmmadaaDoor
open Go.RowKit

theorem tyU64 : Tryd.prog.underlying 62 = some (.int .u64) := by kernel_rfl
theorem or_64 (a b : Nat) (k : Nat) (hb : b < 2 ^ k) (hab : a * 2 ^ k + b < 18446744073709551616) : bits .or .u64 (((a * 2 ^ k : Nat)) : Int) (b : Int) = ((a * 2 ^ k + b : Nat) : Int) := by
  rw [u64_or_nat _ _ (by omega) (by omega), Nat.mul_comm a, ← Nat.two_pow_add_eq_or_of_lt hb]
theorem min_two64 {P : Program} (w : World) (ts : Array TypeId) (t : TypeId) (a b r : Int) (hr : min a b = r) :
    (Builtin.min_ ts t #[.int .u64 a, .int .u64 b]).run P w = .ok (.int .u64 r) w := by
  have e1 : (if b < a then b else a) = min a b := by omega
  simp [Builtin.min_, Builtin.min2, List.foldlM, e1]
  omega
theorem notL_le (l : List UInt8) (h : l ≠ []) : (notL l).2 ≤ l.length ∧ 1 ≤ (notL l).1 ∧ (notL l).1 ≤ 16 := by
  unfold notL
  split
  · rename_i hh
    obtain ⟨b, r, rfl, _⟩ := (hexP_iff _).1 hh
    refine ⟨by simp, by decide, by decide⟩
  · have := List.length_pos_iff.2 h
    split
    · exact ⟨this, by decide, by decide⟩
    · exact ⟨by simp, by decide, by decide⟩
theorem undot_le (l : List UInt8) : (undot l).length ≤ l.length := by
  unfold undot
  split
  · simp
  · exact Nat.le_refl _
theorem head_ls (s : ByteArray) (h : 0 < s.size) : (ls s).head? = some s[0] := by rw [List.head?_eq_getElem?, ls_get s 0 h]
theorem ls_some (s : ByteArray) (h : 0 < s.size) : ls s ≠ [] := by
  intro e
  have := ls_length s
  rw [e] at this
  simp at this
  omega
theorem empty_eq (s : ByteArray) : (s.toList == ([] : List UInt8)) = decide (s.size = 0) := by
  rw [toList_ls, ← ls_length]
  cases ls s <;> rfl
/-- A byte is not another one. -/
theorem byte_ne {b c : UInt8} (h : b ≠ c) : ((b.toNat : Int) == (c.toNat : Int)) = false := by
  rw [beq_eq_false_iff_ne]
  exact fun e => h (UInt8.toNat_inj.1 (by omega))

theorem pn_step {M k N A b st : Nat} {T : ByteArray} {V : Option Nat} (hP : pnS (M + 1) (ls T) A = V) (hne : ls T ≠ []) (hd : (ls T).head? ≠ some 46) (hb : (notL (ls T)).1 = b) (hst : (notL (ls T)).2 = st)
    (hS : scanN b ((ls T).drop k) N = scanN b ((ls T).drop st) 0) :
    V = match scanN b ((ls T).drop k) N with
      | none => none
      | some (n, none) => if n < 256 ^ (M + 1) then some (A * 256 ^ (M + 1) + n) else none
      | some (n, some r) => if n ≤ 255 then pnS M r (A * 256 + n) else none := by
  rw [← hP, pnS, if_neg (by simp [hne, hd]), hb, hst, hS]
  rfl

set_option maxRecDepth 20000 in
set_option maxHeartbeats 4000000 in
theorem pn_any (s : ByteArray) (hs : s.size ≤ 1000000000) (w : World) :
    Calls Tryd.prog 28 #[.string s] w fun e w' => e = .returned (.tuple #[.int .u32 (aV (pnL (ls s))), .bool (aK (pnL (ls s)))]) ∧ w' = w := by
  have c1 := undot_any s hs w
  obtain ⟨T0, hT0⟩ : ∃ T, T = bs (undot (ls s)) := ⟨_, rfl⟩
  rw [← hT0] at c1
  have hP0 : pnS 4 (ls T0) 0 = pnL (ls s) := by rw [hT0, ls_bs, pnL_pnS]
  have hT0s : T0.size ≤ 1000000000 := by rw [hT0, bs_size]; have := undot_le (ls s); rw [ls_length] at this; omega
  generalize pnL (ls s) = V at *
  have HP0 := Lib.hid hP0
  have HT0 := Lib.hid hT0s
  clear hT0 hP0 hs hT0s
  go_enter Tryd.func28, Tryd.ntmps28
  go_wp2
  go_step3
  go_wp2_with fail
  refine c1.mono ?_
  rintro e w' ⟨rfl, rfl⟩
  go_wp2
  go_step3
  go_wp2
  go_loopg [4, 5, 6] 4 (fun g t a m wr => ∃ (M : Nat) (T : ByteArray) (A : Nat), wr = w ∧ M ≤ 4 ∧ g = M ∧ m = .int .i64 M ∧ t = .string T ∧ a = .int .u64 A ∧ Hid (T.size ≤ 1000000000) ∧ Hid (A < 256 ^ (4 - M)) ∧ Hid (pnS M (ls T) A = V))
  case atStart => exact ⟨4, T0, 0, rfl, Nat.le_refl _, rfl, rfl, rfl, rfl, HT0, Lib.hid (by decide), HP0⟩
  case round =>
    obtain ⟨M, T, A, rfl, hM, hg, rfl, rfl, rfl, HT, HA, HP⟩ := hrel
    cases M with
    | zero =>
      have HV : Hid (V = none) := Lib.hid HP.out.symm
      go_wp2
      rw [Exit.noGoto_ret]
      go_ret2
      rw [HV.out]
      exact ⟨rfl, rfl⟩
    | succ M =>
      have HG := Lib.hid hg
      clear hg
      have hd0 : decide ((0 : Int) < ((M + 1 : Nat) : Int)) = true := decide_eq_true (by omega)
      by_cases he : T.size = 0
      · have HV : Hid (V = none) := by
          show _ = _
          rw [← HP.out, pnS, if_pos (.inl (List.eq_nil_of_length_eq_zero (by rw [ls_length]; exact he)))]
        have hE : (T.toList == ([] : List UInt8)) = true := by rw [empty_eq, decide_eq_true he]
        go_wp2
        rw [Exit.noGoto_ret]
        go_ret2
        rw [HV.out]
        exact ⟨rfl, rfl⟩
      · have hpos : 0 < T.size := Nat.pos_of_ne_zero he
        have hE : (T.toList == ([] : List UInt8)) = false := by rw [empty_eq, decide_eq_false he]
        by_cases h46 : T[0] = 46
        · have HV : Hid (V = none) := by
            show _ = _
            rw [← HP.out, pnS, if_pos (.inr (by rw [head_ls T hpos, h46]))]
          have hq : ((T[0].toNat : Int) == 46) = true := by rw [h46]; rfl
          clear h46 he
          go_wp2
          rw [Exit.noGoto_ret]
          go_ret2
          rw [HV.out]
          exact ⟨rfl, rfl⟩
        · have hq : ((T[0].toNat : Int) == 46) = false := byte_ne h46
          have HH : Hid ((ls T).head? ≠ some 46) := by show _ ≠ _; rw [head_ls T hpos]; simpa using h46
          have HNE : Hid (ls T ≠ []) := Lib.hid (ls_some T hpos)
          have c2 := notation_any T hpos
          obtain ⟨b, hb⟩ : ∃ b, (notL (ls T)).1 = b := ⟨_, rfl⟩
          obtain ⟨st, hst⟩ : ∃ st, (notL (ls T)).2 = st := ⟨_, rfl⟩
          have hle := notL_le (ls T) (ls_some T hpos)
          rw [hb, hst, ls_length] at hle
          rw [hb, hst] at c2
          obtain ⟨hst1, hb1, hb2⟩ := hle
          have HB := Lib.hid hb
          have HST := Lib.hid hst
          clear hb hst h46 he
          go_wp2_with fail
          refine (c2 _).mono ?_
          rintro e w' ⟨rfl, rfl⟩
          go_wp2
          obtain ⟨wo, rfl⟩ : ∃ wo : World, wo = wr := ⟨_, rfl⟩
          obtain ⟨go, rfl⟩ : ∃ go : Nat, go = gk := ⟨_, rfl⟩
          go_loopg [4, 5, 9, 10] (T.size + 1 - st) (fun g tv av n i wr => ∃ (k N : Nat), wr = wo ∧ k ≤ T.size ∧ g = T.size + 1 - k ∧ tv = .string T ∧ av = .int .u64 A ∧ i = .int .i64 k ∧ n = .int .u64 N ∧ N ≤ 4294967296 ∧ Hid (scanN b ((ls T).drop k) N = scanN b ((ls T).drop st) 0))
          case atStart => exact ⟨st, 0, rfl, hst1, rfl, rfl, rfl, rfl, rfl, by omega, Lib.hid rfl⟩
          case round =>
            obtain ⟨k, N, rfl, hk, hg2, rfl, rfl, rfl, rfl, hN, HS⟩ := hrel
            have HG2 := Lib.hid hg2
            have HW := Lib.hid (pn_step HP.out HNE.out HH.out HB.out HST.out HS.out)
            clear hg2
            have hTs : T.size ≤ 1000000000 := HT.out
            by_cases hlt : k < T.size
            · have hdrop := drop_ls_cons T k hlt
              by_cases h46 : T[k] = 46
              · have hq : ((T[k].toNat : Int) == 46) = true := by rw [h46]; rfl
                have HV0 : Hid (V = if N ≤ 255 then pnS M ((ls T).drop (k + 1)) (A * 256 + N) else none) := by
                  show _ = _
                  have := HW.out
                  rw [hdrop, scanN, if_pos h46] at this
                  exact this
                clear hdrop h46 HW
                by_cases hn : N ≤ 255
                · have hd : decide ((255 : Int) < (N : Int)) = false := decide_eq_false (by omega)
                  have hdN : decide (255 < N) = false := decide_eq_false (by omega)
                  have HV : Hid (pnS M ((ls T).drop (k + 1)) (A * 256 + N) = V) := by show _ = _; rw [HV0.out, if_pos hn]
                  have hA3 : A < 16777216 := by
                    have h1 : (256 : Nat) ^ (4 - (M + 1)) ≤ 256 ^ 3 := Nat.pow_le_pow_right (by decide) (by omega)
                    have h2 : (256 : Nat) ^ 3 = 16777216 := by decide
                    have := HA.out
                    omega
                  have HA2 : Hid (A * 256 + N < 256 ^ (4 - M)) := by
                    show _ < _
                    have h1 : (256 : Nat) ^ (4 - M) = 256 ^ (4 - (M + 1)) * 256 := by rw [show 4 - M = 4 - (M + 1) + 1 by omega, Nat.pow_succ]
                    have := HA.out
                    rw [h1]
                    generalize (256 : Nat) ^ (4 - (M + 1)) = p at *
                    omega
                  have o1 := or_64 A N 8 (by omega) (by omega)
                  rw [show A * 2 ^ 8 = A * 256 from rfl] at o1
                  obtain ⟨A2, hA2⟩ : ∃ A2, A2 = A * 256 + N := ⟨_, rfl⟩
                  rw [← hA2] at o1 HV HA2
                  have o2 : ((A * 256 : Nat) : Int) = (A : Int) * 256 := by omega
                  rw [o2] at o1
                  clear hA2 o2
                  have HT2 : Hid ((T.extract (k + 1) T.size).size ≤ 1000000000) := by
                    show _ ≤ _
                    rw [ByteArray.size_extract]
                    have := HT.out
                    omega
                  have HL : Hid (ls (T.extract (k + 1) T.size) = (ls T).drop (k + 1)) := by
                    show _ = _
                    rw [ls_extract]
                    exact List.take_of_length_le (by rw [List.length_drop, ls_length]; omega)
                  go_wp2
                  go_roundg M
                  case rel => exact ⟨M, _, A2, rfl, by omega, rfl, by go_num, rfl, rfl, HT2, HA2, by show _ = _; rw [HL.out]; exact HV.out⟩
                  case measure => rw [HG.out]; omega
                · have hd : decide ((255 : Int) < (N : Int)) = true := decide_eq_true (by omega)
                  have hdN : decide (255 < N) = true := decide_eq_true (by omega)
                  have HV : Hid (V = none) := by show _ = _; rw [HV0.out, if_neg hn]
                  clear hn
                  go_wp2
                  rw [Exit.noGoto_ret]
                  go_ret2
                  rw [HV.out]
                  exact ⟨rfl, rfl⟩
              · have hq : ((T[k].toNat : Int) == 46) = false := byte_ne h46
                have hdg := digit_any T[k]
                have hlt2 := pd_lt T[k] b hb2
                obtain ⟨d, hde⟩ : ∃ d, d = pd T[k] := ⟨_, rfl⟩
                have hd16 : d ≤ 16 := by rw [hde]; unfold pd; omega
                rw [← hde] at hdg hlt2
                by_cases hdb : digV T[k] < b
                · have hdv : digV T[k] = d := by
                    have := hlt2.2 hdb
                    rw [hde] at this ⊢
                    unfold pd at this ⊢
                    omega
                  have hge : decide ((b : Int) ≤ (d : Int)) = false := decide_eq_false (by have := hlt2.2 hdb; omega)
                  have hgeN : decide (b ≤ d) = false := decide_eq_false (by have := hlt2.2 hdb; omega)
                  obtain ⟨N2, hN2⟩ : ∃ N2, N2 = min (b * N + d) 4294967296 := ⟨_, rfl⟩
                  have HS2 : Hid (scanN b ((ls T).drop (k + 1)) N2 = scanN b ((ls T).drop st) 0) := by
                    show _ = _
                    have := HS.out
                    rw [hdrop, scanN, if_neg h46, if_pos hdb, hdv, ← hN2] at this
                    exact this
                  have hbN : b * N ≤ 16 * 4294967296 := Nat.mul_le_mul hb2 hN
                  have hz3 : min ((b : Int) * (N : Int) + (d : Int)) 4294967296 = (N2 : Int) := by
                    rw [hN2]
                    have : (b : Int) * (N : Int) = ((b * N : Nat) : Int) := by simp
                    rw [this]
                    omega
                  have hmul : (b : Int) * (N : Int) = ((b * N : Nat) : Int) := by simp
                  have hmul0 : 0 ≤ (b : Int) * (N : Int) := by omega
                  have hmul1 : (b : Int) * (N : Int) ≤ 68719476736 := by omega
                  clear hmul
                  have hN2b : N2 ≤ 4294967296 := by rw [hN2]; omega
                  have hmin : ∀ (W : World) ts ty, (Builtin.min_ ts ty #[.int .u64 ((b : Int) * (N : Int) + (d : Int)), .int .u64 4294967296]).run Tryd.prog W = .ok (.int .u64 (N2 : Int)) W := fun W ts ty => min_two64 W ts ty _ _ _ hz3
                  clear hz3 hN2 hde hdv hdb hlt2 hdrop h46 hbN HW HS
                  go_wp2_with (go_at_call 37; refine (hdg _).mono ?_; rintro e w' ⟨rfl, rfl⟩)
                  go_roundg (T.size + 1 - (k + 1))
                  case rel => exact ⟨k + 1, N2, rfl, by omega, rfl, rfl, rfl, by go_num, rfl, hN2b, HS2⟩
                  case measure => rw [HG2.out]; omega
                · have hge : decide ((b : Int) ≤ (d : Int)) = true := decide_eq_true (by have := mt hlt2.1 hdb; omega)
                  have hgeN : decide (b ≤ d) = true := decide_eq_true (by have := mt hlt2.1 hdb; omega)
                  have HV : Hid (V = none) := by
                    show _ = _
                    have := HW.out
                    rw [hdrop, scanN, if_neg h46, if_neg hdb] at this
                    exact this
                  clear hde hdb hlt2 hdrop h46 HW HS
                  go_wp2_with (go_at_call 37; refine (hdg _).mono ?_; rintro e w' ⟨rfl, rfl⟩)
                  rw [Exit.noGoto_ret]
                  go_ret2
                  rw [HV.out]
                  exact ⟨rfl, rfl⟩
            · obtain rfl : k = T.size := by omega
              have HV0 : Hid (V = if N < 256 ^ (M + 1) then some (A * 256 ^ (M + 1) + N) else none) := by
                show _ = _
                have := HW.out
                rw [drop_ls_all] at this
                exact this
              obtain ⟨K, hK⟩ : ∃ K, K = 8 * (M + 1) := ⟨_, rfl⟩
              have hK64 : K ≤ IntKind.u64.bits := by show K ≤ 64; omega
              have hKK : (8 : Int) * ((M : Int) + 1) = (K : Int) := by omega
              obtain ⟨R, hR⟩ : ∃ R, R = 2 ^ K := ⟨_, rfl⟩
              have hp : (256 : Nat) ^ (M + 1) = R := by rw [hR, hK, Nat.pow_mul]
              have hple := pow_le4 M hM
              rw [hp] at HV0 hple
              have hA4 : (A + 1) * R ≤ 4294967296 := by
                have h1 : (256 : Nat) ^ (4 - (M + 1)) * R = 4294967296 := by rw [← hp, ← Nat.pow_add, show 4 - (M + 1) + (M + 1) = 4 by omega]
                rw [← h1]
                exact Nat.mul_le_mul_right _ HA.out
              have hR0 : 0 < R := by rw [hR]; exact Nat.pow_pos (by decide)
              rw [Nat.add_mul, Nat.one_mul] at hA4
              have hR2 : (2 : Int) ^ K = (R : Int) := by rw [hR, Int.natCast_pow]; rfl
              have or1 : ∀ n : Nat, n < R → bits .or .u64 ((A * R : Nat) : Int) (n : Int) = ((A * R + n : Nat) : Int) := by
                intro n hn
                have := or_64 A n K (by omega) (by rw [← hR]; omega)
                rw [← hR] at this
                exact this
              obtain ⟨Z, hZ⟩ : ∃ Z, Z = A * R := ⟨_, rfl⟩
              rw [← hZ] at hA4 HV0 or1
              have hsh1 : IntKind.u64.wrap (1 * 2 ^ K) = (R : Int) := by
                rw [hR2, IntKind.wrap_u64]
                omega
              have hsh2 : IntKind.u64.wrap ((A : Int) * 2 ^ K) = (Z : Int) := by
                have : (A : Int) * (R : Int) = (Z : Int) := by rw [hZ, Int.natCast_mul]
                rw [hR2, this, IntKind.wrap_u64]
                omega
              have HS1 := Lib.hid hsh1
              have HS2 := Lib.hid hsh2
              clear hsh1 hsh2 hK hp HW HS hR hR2 hZ
              by_cases hn : N < R
              · have HV : Hid (V = some (Z + N)) := by show _ = _; rw [HV0.out, if_pos hn]
                have o1 := or1 N hn
                obtain ⟨Y, hY⟩ : ∃ Y, Y = Z + N := ⟨_, rfl⟩
                rw [← hY] at o1 HV
                have hYb : Y < 4294967296 := by omega
                have hge : decide ((R : Int) ≤ (N : Int)) = false := decide_eq_false (by omega)
                have hgeN : decide (R ≤ N) = false := decide_eq_false (by omega)
                clear hY or1 HV0
                go_wp2_with (first | (refine wpList_shl _ rfl _ _ _ _ rfl .u64 1 K hK64 (by exact rfl) (by exact rfl) _ HS1.out ?_) | (refine wpList_shl _ rfl _ _ _ _ rfl .u64 (A : Int) K hK64 (by exact rfl) (by exact rfl) _ HS2.out ?_))
                rw [Exit.noGoto_ret]
                go_ret2
                rw [HV.out]
                exact ⟨rfl, rfl⟩
              · have HV : Hid (V = none) := by show _ = _; rw [HV0.out, if_neg hn]
                have hge : decide ((R : Int) ≤ (N : Int)) = true := decide_eq_true (by omega)
                have hgeN : decide (R ≤ N) = true := decide_eq_true (by omega)
                clear or1 HV0
                go_wp2_with (first | (refine wpList_shl _ rfl _ _ _ _ rfl .u64 1 K hK64 (by exact rfl) (by exact rfl) _ HS1.out ?_) | (refine wpList_shl _ rfl _ _ _ _ rfl .u64 (A : Int) K hK64 (by exact rfl) (by exact rfl) _ HS2.out ?_))
                rw [Exit.noGoto_ret]
                go_ret2
                rw [HV.out]
                exact ⟨rfl, rfl⟩

end Go.Proofs.YthihfhmclmmadaaDoor
