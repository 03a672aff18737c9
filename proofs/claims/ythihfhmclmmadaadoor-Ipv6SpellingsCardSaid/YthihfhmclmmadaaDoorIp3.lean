/-
  Contracts of decimal and Parse of the reference of layer 10.
-/
import Derived.Test.YthihfhmclmmadaaDoorRfF
import Derived.Test.YthihfhmclmmadaaDoorRfS
import Derived.Test.YthihfhmclmmadaaDoorStC
import Derived.Test.YthihfhmclmmadaaDoorIpP
import Derived.Lib.AppendStr
namespace Go.Proofs.YthihfhmclmmadaaDoor
open Go.RowKit

def dV (l : List UInt8) : Int := ((decV l).getD 0 : Nat)
def dK (l : List UInt8) : Bool := (decV l).isSome
theorem dec_yes {l : List UInt8} {k : Nat} (h : Lib.decDigits k = l) (hk : k < 256) : dV l = (k : Int) ∧ dK l = true := by
  unfold dV dK
  rw [← h, decV_dec k hk]
  exact ⟨rfl, rfl⟩
theorem dec_no {l : List UInt8} (h : ∀ k, k < 256 → Lib.decDigits k ≠ l) : dV l = 0 ∧ dK l = false := by
  have e : decV l = none := by
    cases hx : decV l with
    | none => rfl
    | some n =>
      have := decV_some hx
      exact absurd this.2.symm (h n this.1)
  unfold dV dK
  rw [e]
  exact ⟨rfl, rfl⟩
theorem dV_range (l : List UInt8) : 0 ≤ dV l ∧ dV l ≤ 255 := by
  unfold dV
  cases hx : decV l with
  | none => exact ⟨by simp, by simp⟩
  | some n => have := (decV_some hx).1; simp only [Option.getD_some]; omega

set_option maxRecDepth 20000 in
set_option maxHeartbeats 1000000 in
theorem refDecimal_any (s : ByteArray) (w : World) :
    Calls Tryd.prog 38 #[.string s] w fun e w' => e = .returned (.tuple #[.int .i64 (dV (ls s)), .bool (dK (ls s))]) ∧ Below w.heap.size w w' := by
  go_enter Tryd.func38, Tryd.ntmps38
  go_wp2
  go_loopw [4] (fun i wr => ∃ k : Nat, k ≤ 256 ∧ i = .int .i64 k ∧ Hid (∀ j, j < k → Lib.decDigits j ≠ ls s) ∧ Below w.heap.size w wr) (fun i _ => 256 - (intOf i).toNat)
  case atStart => exact ⟨0, Nat.zero_le _, rfl, Lib.hid (fun j h => by omega), Below.refl _ _⟩
  case round =>
    obtain ⟨k, hk, rfl, HN, hb⟩ := hrel
    by_cases hlt : k < 256
    · have c1 := refFromInt_any (k : Int) (by omega) (by omega)
      have HD : Hid (ls (bs (Lib.decDigits (k : Int).toNat)) = Lib.decDigits k) := by show _ = _; rw [ls_bs]; rfl
      generalize bs (Lib.decDigits (k : Int).toNat) = D at *
      by_cases he : D = s
      · have hq : (D.toList == s.toList) = true := by rw [he]; simp
        have HY := Lib.hid (dec_yes (l := ls s) (k := k) (by rw [← HD.out, he]) hlt)
        clear he
        go_wp2_with (go_at_call 25; refine (c1 _).mono ?_; rintro e w1 ⟨rfl, hb1⟩)
        go_ret2
        exact ⟨by rw [HY.out.1, HY.out.2]; rfl, hb.trans (hb1.mono hb.size)⟩
      · have hq : (D.toList == s.toList) = false := by
          rw [beq_eq_false_iff_ne, toList_ls, toList_ls]
          exact fun e => he (ls_inj e)
        have HY : Hid (Lib.decDigits k ≠ ls s) := Lib.hid (by rw [← HD.out]; exact fun e => he (ls_inj e))
        clear he
        go_wp2_with (go_at_call 25; refine (c1 _).mono ?_; rintro e w1 ⟨rfl, hb1⟩)
        go_roundw
        case rel =>
          refine ⟨k + 1, by omega, by go_num, Lib.hid (fun j h => ?_), hb.trans (hb1.mono hb.size)⟩
          rcases Nat.lt_or_ge j k with h1 | h1
          · exact HN.out j h1
          · obtain rfl : j = k := by omega
            exact HY.out
        case measure => simp [intOf]; omega
    · obtain rfl : k = 256 := by omega
      have HY := Lib.hid (dec_no HN.out)
      go_wp2
      go_ret2
      exact ⟨by rw [HY.out.1, HY.out.2]; rfl, hb⟩

/-- The numbers of parts, one after another. -/
def decF : List (List UInt8) → Nat → Option Nat
  | [], v => some v
  | x :: r, v => match decV x with
    | none => none
    | some n => decF r (v * 256 + n)
theorem parseL_decF (l : List UInt8) : parseL l = if (splitL 46 l).length = 4 then decF (splitL 46 l) 0 else none := by
  unfold parseL four
  generalize splitL 46 l = p
  match p with
  | [] => rfl
  | [_] => rfl
  | [_, _] => rfl
  | [_, _, _] => rfl
  | [a, b, c, d] =>
    simp only [decF, List.length_cons, List.length_nil]
    cases decV a <;> cases decV b <;> cases decV c <;> cases decV d <;> simp
  | _ :: _ :: _ :: _ :: _ :: _ => simp
/-- The address, and whether there is one. -/
def aV (o : Option Nat) : Int := (o.getD 0 : Nat)
def aK (o : Option Nat) : Bool := o.isSome

set_option maxHeartbeats 1000000 in
theorem refParse_any (s : ByteArray) (w : World) (hs : s.size ≤ 1000000000) :
    Calls Tryd.prog 32 #[.string s] w fun e w' => e = .returned (.tuple #[.int .u32 (aV (parseL (ls s))), .bool (aK (parseL (ls s)))]) ∧ Below w.heap.size w w' := by
  have hspl := refSplit_any s 46 w hs
  have hlen := splitL_length 46 (ls s)
  rw [ls_length] at hlen
  have HP := Lib.hid (parseL_decF (ls s))
  generalize splitL 46 (ls s) = P at *
  obtain ⟨n, hn⟩ : ∃ n, n = P.length := ⟨_, rfl⟩
  go_enter Tryd.func32, Tryd.ntmps32
  go_wp2_with fail
  refine hspl.mono ?_
  rintro e w1 ⟨v, m, rfl, hown, hb⟩
  obtain ⟨A, c, rfl, hh, hmc⟩ := Has.of_own hown
  obtain rfl : m = n := by have := hh.1; rw [wv_length] at this; omega
  clear hspl hown
  by_cases h4 : m = 4
  · subst h4
    have HF : Hid (parseL (ls s) = decF P 0) := by show _ = _; rw [HP.out, if_pos hn.symm]
    have HN := Lib.hid hn
    obtain ⟨b, off, rfl, _⟩ := str_cell hh 0 (by omega)
    have HH := Lib.hid hh
    clear hn hh HP
    go_wp2
    go_loopw [5, 6] (fun v i wr => ∃ (k : Nat) (z : Int), k ≤ 4 ∧ i = .int .i64 k ∧ v = .int .u32 z ∧ 0 ≤ z ∧ Hid (z < 256 ^ k) ∧ Hid (decF (P.drop k) z.toNat = parseL (ls s)) ∧ Below w1.heap.size w1 wr) (fun _ i _ => 4 - (intOf i).toNat)
    case atStart => exact ⟨0, 0, Nat.zero_le _, rfl, rfl, by omega, Lib.hid (by decide), Lib.hid HF.out.symm, Below.refl _ _⟩
    case round =>
      obtain ⟨k, z, hk, rfl, rfl, hz0, HZ, HR, hb2⟩ := hrel
      by_cases hlt : k < 4
      · obtain ⟨b', off', e, hcell⟩ := str_cell (HH.out.below hb2) k hlt
        injection e with e
        injection e with e1 e2 _
        subst e1 e2
        have c1 := refDecimal_any (bs (P.getD k []))
        rw [ls_bs] at c1
        have hdr : P.drop k = P.getD k [] :: P.drop (k + 1) := by
          have hk' : k < P.length := by rw [← HN.out]; exact hlt
          rw [List.drop_eq_getElem_cons hk', List.getD_eq_getElem?_getD, List.getElem?_eq_getElem hk', Option.getD_some]
        have HR2 := HR.out
        rw [hdr, decF] at HR2
        have hrng := dV_range (P.getD k [])
        generalize P.getD k [] = x at *
        have HX := Lib.hid HR2
        clear HR2 hdr HR
        cases hx : decV x with
        | none =>
          have e1 : dV x = 0 ∧ dK x = false := by unfold dV dK; rw [hx]; exact ⟨rfl, rfl⟩
          have HQ : Hid (parseL (ls s) = none) := by show _ = _; have := HX.out; rw [hx] at this; exact this.symm
          rw [e1.1, e1.2] at c1
          clear hx e1 hrng
          go_wp2_with (go_at_call 38; refine (c1 _).mono ?_; rintro e w3 ⟨rfl, hb3⟩)
          go_ret2
          exact ⟨by rw [HQ.out]; rfl, hb.trans ((hb2.trans (hb3.mono hb2.size)).mono hb.size)⟩
        | some d =>
          have e1 : dV x = (d : Int) ∧ dK x = true := by unfold dV dK; rw [hx]; exact ⟨rfl, rfl⟩
          have HQ : Hid (decF (P.drop (k + 1)) (z.toNat * 256 + d) = parseL (ls s)) := by show _ = _; have := HX.out; rw [hx] at this; exact this
          rw [e1.1, e1.2] at c1
          rw [e1.1] at hrng
          obtain ⟨dv, hdv⟩ : ∃ v : Int, v = (d : Int) := ⟨_, rfl⟩
          rw [← hdv] at c1 hrng
          have HZ3 : z ≤ 16777215 := by
            have h1 := HZ.out
            have h2 : (256 : Int) ^ k ≤ 256 ^ 3 := by
              have : k = 0 ∨ k = 1 ∨ k = 2 ∨ k = 3 := by omega
              rcases this with rfl | rfl | rfl | rfl <;> decide
            have h3 : (256 : Int) ^ 3 = 16777216 := by decide
            omega
          have HZN : Hid (z * 256 + dv < 256 ^ (k + 1)) := by
            show _ < _
            have h1 := HZ.out
            rw [Int.pow_succ]
            omega
          have HQ2 : Hid (decF (P.drop (k + 1)) (z * 256 + dv).toNat = parseL (ls s)) := by
            show _ = _
            rw [← HQ.out]
            congr 1
            omega
          obtain ⟨hr0, hr1⟩ := hrng
          clear hx e1 hdv
          go_wp2_with (go_at_call 38; refine (c1 _).mono ?_; rintro e w3 ⟨rfl, hb3⟩)
          go_roundw
          case rel => exact ⟨k + 1, z * 256 + dv, by omega, by go_num, by first | rfl | go_num, by omega, HZN, HQ2, hb2.trans (hb3.mono hb2.size)⟩
          case measure => simp [intOf]; omega
      · obtain rfl : k = 4 := by omega
        have HQ : Hid (parseL (ls s) = some z.toNat) := by
          show _ = _
          have h := HR.out
          have hd : P.drop 4 = [] := List.drop_of_length_le (by rw [← HN.out]; omega)
          rw [hd, decF] at h
          exact h.symm
        have HZZ : Hid ((z.toNat : Int) = z) := Lib.hid (by omega)
        go_wp2
        go_ret2
        refine ⟨?_, hb.trans (hb2.mono hb.size)⟩
        rw [HQ.out]
        unfold aV aK
        rw [Option.getD_some, HZZ.out]
        rfl
  · have hne : ((m : Int) != 4) = true := by simp; omega
    have HQ : Hid (parseL (ls s) = none) := by show _ = _; rw [HP.out, if_neg (by omega)]
    clear hn hh h4
    go_wp2
    go_ret2
    exact ⟨by rw [HQ.out]; rfl, hb⟩

end Go.Proofs.YthihfhmclmmadaaDoor
