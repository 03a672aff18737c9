/-
  Contract of ParseNumbers of the reference of layer 10.
-/
import Derived.Test.YtmgmepikgccmcaaDoorIp4
namespace Go.Proofs.YtmgmepikgccmcaaDoor
open Go.RowKit

theorem pnGo_last (x : List UInt8) (i acc : Nat) : pnGo [x] i acc = match numL x with
    | none => none
    | some n => if n < 256 ^ (4 - i) then some (acc + n) else none := rfl
theorem pnGo_more (x y : List UInt8) (r : List (List UInt8)) (i acc : Nat) : pnGo (x :: y :: r) i acc = match numL x with
    | none => none
    | some n => if n ≤ 255 then pnGo (y :: r) (i + 1) (acc + n * 256 ^ (3 - i)) else none := rfl
theorem nK_none {x : List UInt8} (h : numL x = none) : nV x = 0 ∧ nK x = false := by unfold nV nK; rw [h]; exact ⟨rfl, rfl⟩
theorem nK_some {x : List UInt8} {n : Nat} (h : numL x = some n) : nV x = (satN n : Nat) ∧ nK x = true := by unfold nV nK; rw [h]; exact ⟨rfl, rfl⟩
theorem pow_256_8 (k : Nat) : (256 : Int) ^ k = 2 ^ (8 * k) := by
  rw [Int.pow_mul, show (2 : Int) ^ 8 = 256 by decide]

set_option maxRecDepth 20000 in
set_option maxHeartbeats 4000000 in
theorem refParseNumbers_any (s : ByteArray) (w : World) (hs : s.size ≤ 1000000000) :
    Calls Tryd.prog 11 #[.string s] w fun e w' => e = .returned (.tuple #[.int .u32 (aV (pnL (ls s))), .bool (aK (pnL (ls s)))]) ∧ Below w.heap.size w w' := by
  have hpar := refParts_any s w hs
  have hpos := partsL_pos (ls s)
  have hlen := partsL_length (ls s)
  have hsz := partsL_sizes (ls s)
  have HP : Hid (pnL (ls s) = if 4 < (partsL (ls s)).length then none else pnGo (partsL (ls s)) 0 0) := Lib.hid rfl
  rw [ls_length] at hlen hsz
  generalize partsL (ls s) = P at *
  obtain ⟨m, hm⟩ : ∃ n, n = P.length := ⟨_, rfl⟩
  unfold StrsPost at hpar
  rw [← hm] at hpar hpos HP hlen
  have HM := Lib.hid hm
  have HSZ := Lib.hid hsz
  clear hm hsz
  by_cases h4 : 4 < m
  · have hd : decide ((4 : Int) < (m : Int)) = true := decide_eq_true (by omega)
    have HQ : Hid (pnL (ls s) = none) := by show _ = _; rw [HP.out, if_pos h4]
    clear HP
    go_enter Tryd.func11, Tryd.ntmps11
    go_wp2_with fail
    refine hpar.mono ?_
    rintro e w1 ⟨A, c, rfl, hmc, hh, hb⟩
    go_wp2
    go_ret2
    exact ⟨by rw [HQ.out]; rfl, hb⟩
  · have hd : decide ((4 : Int) < (m : Int)) = false := decide_eq_false (by omega)
    have hm4 : m ≤ 4 := by omega
    have HQ : Hid (pnL (ls s) = pnGo P 0 0) := by show _ = _; rw [HP.out, if_neg h4]
    clear HP h4
    go_enter Tryd.func11, Tryd.ntmps11
    go_wp2_with fail
    refine hpar.mono ?_
    rintro e w1 ⟨A, c, rfl, hmc, hh, hb⟩
    have HH := Lib.hid hh
    obtain ⟨b, off, rfl, _⟩ := str_cell hh 0 hpos
    clear hpar hh
    go_wp2
    go_loopw [5, 6] (fun v i wr => ∃ (k : Nat) (z : Int), k ≤ m ∧ i = .int .i64 k ∧ v = .int .i64 z ∧ 0 ≤ z ∧ z ≤ 4294967295 ∧ Hid (k < m → z + 256 ^ (4 - k) ≤ 4294967296) ∧ Hid (pnGo (P.drop k) k z.toNat = pnL (ls s)) ∧ Below w1.heap.size w1 wr) (fun _ i _ => m - (intOf i).toNat)
    case atStart => exact ⟨0, 0, Nat.zero_le _, rfl, rfl, by omega, by omega, Lib.hid (fun _ => by decide), Lib.hid HQ.out.symm, Below.refl _ _⟩
    case round =>
      obtain ⟨k, z, hk, rfl, rfl, hz0, hz1, HZ, HR, hb2⟩ := hrel
      by_cases hlt : k < m
      · obtain ⟨b', off', e, hcell⟩ := str_cell (HH.out.below hb2) k hlt
        injection e with e
        injection e with e1 e2 _
        subst e1 e2
        have hkP : k < P.length := by rw [← HM.out]; exact hlt
        have c1 := refNumber_any (bs (P.getD k []))
        rw [ls_bs, bs_size] at c1
        have hxs : (P.getD k []).length ≤ 1000000000 := by have := HSZ.out _ (getD_mem P k [] hkP); omega
        have hdr : P.drop k = P.getD k [] :: P.drop (k + 1) := by
          rw [List.drop_eq_getElem_cons hkP, List.getD_eq_getElem?_getD, List.getElem?_eq_getElem hkP, Option.getD_some]
        have HR2 := HR.out
        rw [hdr] at HR2
        generalize P.getD k [] = x at *
        have HX := Lib.hid HR2
        have c2 := fun W => c1 W hxs
        obtain ⟨X, hX⟩ : ∃ X, X = bs x := ⟨_, rfl⟩
        rw [← hX] at c2 hcell
        clear c1 HR2 hdr HR hX hxs hkP
        have hlast : ((k : Int) == (m : Int) - 1) = decide (k + 1 = m) := by
          apply Bool.eq_iff_iff.2
          simp only [beq_iff_eq, decide_eq_true_eq]
          omega
        cases hx : numL x with
        | none =>
          obtain ⟨e1, e2⟩ := nK_none hx
          have HY : Hid (pnL (ls s) = none) := by
            show _ = _
            have := HX.out
            cases hr : P.drop (k + 1) with
            | nil => rw [hr, pnGo_last, hx] at this; exact this.symm
            | cons y r => rw [hr, pnGo_more, hx] at this; exact this.symm
          rw [e1, e2] at c2
          clear hx e1 e2 hlast
          go_wp2_with (go_at_call 25; refine (c2 _).mono ?_; rintro e w3 ⟨rfl, hb3⟩)
          go_ret2
          exact ⟨by rw [HY.out]; rfl, hb.trans ((hb2.trans (hb3.mono hb2.size)).mono hb.size)⟩
        | some n =>
          obtain ⟨e1, e2⟩ := nK_some hx
          have hsat := satN_le n
          obtain ⟨nv', hnv⟩ : ∃ v : Int, v = (satN n : Nat) := ⟨_, rfl⟩
          rw [← hnv] at e1
          have hn0 : 0 ≤ nv' := by omega
          have hn1 : nv' ≤ 1099511627776 := by omega
          rw [e1, e2] at c2
          by_cases hl : k + 1 = m
          · rw [decide_eq_true hl] at hlast
            have HY : Hid (pnL (ls s) = if n < 256 ^ (4 - k) then some (z.toNat + n) else none) := by
              show _ = _
              have := HX.out
              have hd0 : P.drop (k + 1) = [] := List.drop_of_length_le (by rw [← HM.out]; omega)
              rw [hd0, pnGo_last, hx] at this
              exact this.symm
            obtain ⟨K, hK⟩ : ∃ K : Nat, K = 8 * (4 - k) := ⟨_, rfl⟩
            have hKm : (8 : Int) * (5 - (m : Int)) = (K : Int) := by omega
            have hK32 : K ≤ 32 := by omega
            have hpK : (2 : Nat) ^ K = 256 ^ (4 - k) := by rw [hK, Nat.pow_mul]
            have hp32 : (2 : Nat) ^ K ≤ 2 ^ 32 := Nat.pow_le_pow_right (by decide) hK32
            have h232 : (2 : Nat) ^ 32 = 4294967296 := by decide
            have hp1 : 0 < (2 : Nat) ^ K := Nat.pow_pos (by decide)
            obtain ⟨pw, hpw⟩ : ∃ q : Int, (2 : Int) ^ K = q := ⟨_, rfl⟩
            have hpwn : pw = ((2 ^ K : Nat) : Int) := by rw [← hpw, Int.natCast_pow]; rfl
            have HPW : Hid (pw = ((256 ^ (4 - k) : Nat) : Int)) := by show _ = _; rw [hpwn, hpK]
            have hpw0 : 0 ≤ pw := by omega
            have hpw1 : pw ≤ 4294967296 := by omega
            by_cases hge : pw ≤ nv'
            · have hdg : decide (pw ≤ nv') = true := decide_eq_true hge
              have HYN : Hid (pnL (ls s) = none) := by
                show _ = _
                rw [HY.out, if_neg]
                intro h
                have h1 := (satN_lt n (256 ^ (4 - k)) (by have := HPW.out; omega)).2 h
                have h2 := HPW.out
                omega
              clear hx e1 e2 hnv hsat hK hpK hp32 h232 hp1 hpwn
              go_wp2_with (go_at_call 25; refine (c2 _).mono ?_; rintro e w3 ⟨rfl, hb3⟩)
              go_ret2
              exact ⟨by rw [HYN.out]; rfl, hb.trans ((hb2.trans (hb3.mono hb2.size)).mono hb.size)⟩
            · have hdg : decide (pw ≤ nv') = false := decide_eq_false hge
              have hnn : nv' = (n : Int) ∧ n < 256 ^ (4 - k) := by
                have h1 := HPW.out
                have h2 : satN n < 256 ^ (4 - k) := by omega
                have h3 := (satN_lt n (256 ^ (4 - k)) (by omega)).1 h2
                refine ⟨?_, h3⟩
                rw [hnv, satN_eq n (by omega)]
              have HYN : Hid (pnGo (P.drop (k + 1)) (k + 1) (z + nv').toNat = pnL (ls s)) := by
                show _ = _
                have hd0 : P.drop (k + 1) = [] := List.drop_of_length_le (by rw [← HM.out]; omega)
                rw [HY.out, if_pos hnn.2, hd0]
                show some _ = some _
                congr 1
                have := hnn.1
                omega
              have hzn : z + nv' ≤ 4294967295 := by
                have h1 := HZ.out hlt
                have h2 := HPW.out
                rw [Int.natCast_pow] at h2
                have h3 : ((256 : Nat) : Int) = 256 := rfl
                rw [h3] at h2
                omega
              clear hx e1 e2 hnv hsat hK hpK hp32 h232 hp1 hpwn hnn
              go_wp2_with (go_at_call 25; refine (c2 _).mono ?_; rintro e w3 ⟨rfl, hb3⟩)
              go_roundw
              case rel => exact ⟨k + 1, z + nv', by omega, by go_num, by first | rfl | go_num, by omega, hzn, Lib.hid (fun h => by omega), HYN, hb2.trans (hb3.mono hb2.size)⟩
              case measure => simp [intOf]; omega
          · rw [decide_eq_false hl] at hlast
            have HY : Hid (pnL (ls s) = if n ≤ 255 then pnGo (P.drop (k + 1)) (k + 1) (z.toNat + n * 256 ^ (3 - k)) else none) := by
              show _ = _
              have := HX.out
              have hd1 : 0 < (P.drop (k + 1)).length := by simp; have := HM.out; omega
              cases hr : P.drop (k + 1) with
              | nil => rw [hr] at hd1; simp at hd1
              | cons y r => rw [hr, pnGo_more, hx] at this; exact this.symm
            by_cases hge : (255 : Int) < nv'
            · have hdg : decide ((255 : Int) < nv') = true := decide_eq_true hge
              have HYN : Hid (pnL (ls s) = none) := by
                show _ = _
                rw [HY.out, if_neg]
                intro h
                rw [satN_eq n (by omega)] at hnv
                omega
              clear hx e1 e2 hnv hsat
              go_wp2_with (go_at_call 25; refine (c2 _).mono ?_; rintro e w3 ⟨rfl, hb3⟩)
              go_ret2
              exact ⟨by rw [HYN.out]; rfl, hb.trans ((hb2.trans (hb3.mono hb2.size)).mono hb.size)⟩
            · have hdg : decide ((255 : Int) < nv') = false := decide_eq_false hge
              have hnn : nv' = (n : Int) ∧ n ≤ 255 := by
                have h1 : n ≤ 255 := by
                  rcases Nat.lt_or_ge 255 n with h | h
                  · have : 255 < satN n := by unfold satN; omega
                    omega
                  · exact h
                exact ⟨by rw [hnv, satN_eq n (by omega)], h1⟩
              obtain ⟨K, hK⟩ : ∃ K : Nat, K = 8 * (3 - k) := ⟨_, rfl⟩
              have hKm : (24 : Int) - 8 * (k : Int) = (K : Int) := by omega
              have hK24 : K ≤ 24 := by omega
              obtain ⟨y, hy⟩ : ∃ y : Int, y = nv' * 2 ^ K := ⟨_, rfl⟩
              have hpK : (2 : Int) ^ K = 256 ^ (3 - k) := by rw [hK, pow_256_8]
              have hp24 : (2 : Int) ^ K ≤ 16777216 := by
                have h1 : (2 : Nat) ^ K ≤ 2 ^ 24 := Nat.pow_le_pow_right (by decide) hK24
                have h2 : (2 : Nat) ^ 24 = 16777216 := by decide
                have h3 : (2 : Int) ^ K = ((2 ^ K : Nat) : Int) := by rw [Int.natCast_pow]; rfl
                omega
              have hp0 : (0 : Int) < 2 ^ K := Int.pow_pos (by decide)
              have hn255 : nv' ≤ 255 := by omega
              have hy0 : 0 ≤ y := by rw [hy]; exact Int.mul_nonneg hn0 (Int.le_of_lt hp0)
              have hy1 : y ≤ 255 * 2 ^ K := by rw [hy]; exact Int.mul_le_mul_of_nonneg_right hn255 (Int.le_of_lt hp0)
              have hyw : IntKind.i64.wrap (nv' * 2 ^ K) = y := by rw [← hy, IntKind.wrap_i64]; omega
              have hzy : z + y + 256 ^ (4 - (k + 1)) ≤ 4294967296 := by
                have h1 := HZ.out hlt
                have h2 : (256 : Int) ^ (4 - k) = 256 * 2 ^ K := by
                  rw [hpK, show 4 - k = (3 - k) + 1 by omega, Int.pow_succ, Int.mul_comm]
                rw [show 4 - (k + 1) = 3 - k by omega, ← hpK]
                rw [h2] at h1
                omega
              have hzy2 : z + y ≤ 4294967295 := by
                have h1 : (0 : Int) < 256 ^ (4 - (k + 1)) := Int.pow_pos (by decide)
                omega
              have HYN : Hid (pnGo (P.drop (k + 1)) (k + 1) (z + y).toNat = pnL (ls s)) := by
                show _ = _
                rw [HY.out, if_pos hnn.2]
                congr 1
                have h1 : y = ((n * 256 ^ (3 - k) : Nat) : Int) := by
                  rw [hy, hnn.1, hpK, Int.natCast_mul, Int.natCast_pow]; rfl
                omega
              have HZY := Lib.hid hzy
              have hy32 : y ≤ 4294967295 := by omega
              clear hx e1 e2 hnv hsat hK hy hpK hp24 hp0 hy1 hzy hnn
              go_wp2_with (go_at_call 25; refine (c2 _).mono ?_; rintro e w3 ⟨rfl, hb3⟩)
              go_roundw
              case rel => exact ⟨k + 1, z + y, by omega, by go_num, by first | rfl | go_num, by omega, hzy2, Lib.hid (fun _ => HZY.out), HYN, hb2.trans (hb3.mono hb2.size)⟩
              case measure => simp [intOf]; omega
      · obtain rfl : k = m := by omega
        have HY : Hid (pnL (ls s) = some z.toNat) := by
          show _ = _
          have h := HR.out
          have hd : P.drop k = [] := List.drop_of_length_le (by rw [← HM.out]; exact Nat.le_refl _)
          rw [hd] at h
          exact h.symm
        have HZZ : Hid ((z.toNat : Int) = z) := Lib.hid (by omega)
        go_wp2
        go_ret2
        refine ⟨?_, hb.trans (hb2.mono hb.size)⟩
        rw [HY.out]
        unfold aV aK
        rw [Option.getD_some, HZZ.out]
        rfl

end Go.Proofs.YtmgmepikgccmcaaDoor
