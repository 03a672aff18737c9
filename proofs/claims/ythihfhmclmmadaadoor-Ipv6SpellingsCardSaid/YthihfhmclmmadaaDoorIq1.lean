/-
  Contracts of the small functions of package ipv4: digit, isHexadecimal, withoutLastDot, and how a part is read.
-/
import Derived.Test.YthihfhmclmmadaaDoorIqP
import Derived.Test.YthihfhmclmmadaaDoorTyB
import Derived.Test.YthihfhmclmmadaaDoorShelf
import Derived.BigQuiet
namespace Go.Proofs.YthihfhmclmmadaaDoor
open Go.RowKit

theorem digit_any (c : UInt8) (w : World) :
    Calls Tryd.prog 37 #[.int .u8 (c.toNat : Int)] w fun e w' => e = .returned (.int .u64 (pd c : Nat)) ∧ w = w' := by
  have hlt := c.toNat_lt
  by_cases h1 : 48 ≤ c.toNat ∧ c.toNat ≤ 57
  · have HE : Hid (((pd c : Nat) : Int) = (c.toNat : Int) - 48) := by show _ = _; unfold pd digV; rw [if_pos h1]; omega
    have d1 : decide ((48 : Int) ≤ (c.toNat : Int)) = true := decide_eq_true (by omega)
    have d2 : decide ((c.toNat : Int) ≤ 57) = true := decide_eq_true (by omega)
    go_enter Tryd.func37, Tryd.ntmps37
    go_wp2
    go_ret
    exact ⟨ret_int HE.out.symm, rfl⟩
  · by_cases h2 : 97 ≤ c.toNat ∧ c.toNat ≤ 102
    · have HE : Hid (((pd c : Nat) : Int) = 10 + ((c.toNat : Int) - 97)) := by show _ = _; unfold pd digV; rw [if_neg h1, if_pos h2]; omega
      have d2 : decide ((c.toNat : Int) ≤ 57) = false := decide_eq_false (by omega)
      have d3 : decide ((97 : Int) ≤ (c.toNat : Int)) = true := decide_eq_true (by omega)
      have d4 : decide ((c.toNat : Int) ≤ 102) = true := decide_eq_true (by omega)
      have d1 : decide ((48 : Int) ≤ (c.toNat : Int)) = true := decide_eq_true (by omega)
      go_enter Tryd.func37, Tryd.ntmps37
      go_wp2
      go_ret
      exact ⟨ret_int HE.out.symm, rfl⟩
    · by_cases h3 : 65 ≤ c.toNat ∧ c.toNat ≤ 70
      · have HE : Hid (((pd c : Nat) : Int) = 10 + ((c.toNat : Int) - 65)) := by show _ = _; unfold pd digV; rw [if_neg h1, if_neg h2, if_pos h3]; omega
        have d1 : decide ((48 : Int) ≤ (c.toNat : Int)) = true := decide_eq_true (by omega)
        have d2 : decide ((c.toNat : Int) ≤ 57) = false := decide_eq_false (by omega)
        have d3 : decide ((97 : Int) ≤ (c.toNat : Int)) = false := decide_eq_false (by omega)
        have d5 : decide ((65 : Int) ≤ (c.toNat : Int)) = true := decide_eq_true (by omega)
        have d6 : decide ((c.toNat : Int) ≤ 70) = true := decide_eq_true (by omega)
        go_enter Tryd.func37, Tryd.ntmps37
        go_wp2
        go_ret
        exact ⟨ret_int HE.out.symm, rfl⟩
      · have HE : Hid (((pd c : Nat) : Int) = 16) := by show _ = _; unfold pd digV; rw [if_neg h1, if_neg h2, if_neg h3]; rfl
        have c1 : (decide ((48 : Int) ≤ (c.toNat : Int)) && decide ((c.toNat : Int) ≤ 57)) = false := by rw [Bool.and_eq_false_iff, decide_eq_false_iff_not, decide_eq_false_iff_not]; omega
        have c2 : (decide ((97 : Int) ≤ (c.toNat : Int)) && decide ((c.toNat : Int) ≤ 102)) = false := by rw [Bool.and_eq_false_iff, decide_eq_false_iff_not, decide_eq_false_iff_not]; omega
        have c3 : (decide ((65 : Int) ≤ (c.toNat : Int)) && decide ((c.toNat : Int) ≤ 70)) = false := by rw [Bool.and_eq_false_iff, decide_eq_false_iff_not, decide_eq_false_iff_not]; omega
        go_enter Tryd.func37, Tryd.ntmps37
        go_wp2
        all_goals (go_ret; exact ⟨ret_int HE.out.symm, rfl⟩)

theorem isHex_any (s : ByteArray) (w : World) :
    Calls Tryd.prog 41 #[.string s] w fun e w' => e = .returned (.bool (hexP (ls s))) ∧ w = w' := by
  have c1 := fun W => Any.strings_HasPrefix Tryd.lays99 s ⟨#[48, 120]⟩ W
  have c2 := fun W => Any.strings_HasPrefix Tryd.lays99 s ⟨#[48, 88]⟩ W
  have HE : Hid (hexP (ls s) = (Lib.hasPrefix s.data.toList [48, 120] || Lib.hasPrefix s.data.toList [48, 88])) := Lib.hid rfl
  rw [show (⟨#[48, 120]⟩ : ByteArray).data.toList = [48, 120] from rfl] at c1
  rw [show (⟨#[48, 88]⟩ : ByteArray).data.toList = [48, 88] from rfl] at c2
  obtain ⟨x, hx⟩ : ∃ x, x = Lib.hasPrefix s.data.toList [48, 120] := ⟨_, rfl⟩
  obtain ⟨y, hy⟩ : ∃ y, y = Lib.hasPrefix s.data.toList [48, 88] := ⟨_, rfl⟩
  rw [← hx] at c1 HE
  rw [← hy] at c2 HE
  clear hx hy
  cases x with
  | true =>
    go_enter Tryd.func41, Tryd.ntmps41
    go_wp2_with fail
    refine (c1 _).mono ?_
    rintro e w' ⟨rfl, rfl⟩
    go_wp2
    go_ret
    exact ⟨ret_bool (by rw [HE.out]; rfl), rfl⟩
  | false =>
    go_enter Tryd.func41, Tryd.ntmps41
    go_wp2_with fail
    refine (c1 _).mono ?_
    rintro e w' ⟨rfl, rfl⟩
    go_wp2_with fail
    refine (c2 _).mono ?_
    rintro e w2 ⟨rfl, rfl⟩
    go_wp2
    go_ret
    exact ⟨ret_bool (by rw [HE.out]; rfl), rfl⟩

theorem undot_any (s : ByteArray) (hs : s.size ≤ 1000000000) (w : World) :
    Calls Tryd.prog 35 #[.string s] w fun e w' => e = .returned (.string (bs (undot (ls s)))) ∧ w = w' := by
  have c1 := Any.strings_TrimSuffix Tryd.lays102 s ⟨#[46]⟩ w (by omega)
  have HE : Hid (bs (undot (ls s)) = ⟨(Lib.trimSuffix s.data.toList [46]).toArray⟩) := by show _ = _; rw [trim_undot]; rfl
  go_enter Tryd.func35, Tryd.ntmps35
  go_wp2_with fail
  refine c1.mono ?_
  rintro e w' ⟨rfl, rfl⟩
  go_wp2
  go_ret
  exact ⟨ret_str HE.out.symm, rfl⟩

theorem notation_any (s : ByteArray) (h0 : 0 < s.size) (w : World) :
    Calls Tryd.prog 36 #[.string s] w fun e w' => e = .returned (.tuple #[.int .u64 ((notL (ls s)).1 : Nat), .int .i64 ((notL (ls s)).2 : Nat)]) ∧ w = w' := by
  have c1 := isHex_any s w
  by_cases hh : hexP (ls s) = true
  · have HE : Hid (notL (ls s) = (16, 2)) := Lib.hid (by unfold notL; rw [if_pos hh])
    rw [hh] at c1
    go_enter Tryd.func36, Tryd.ntmps36
    go_wp2_with fail
    refine c1.mono ?_
    rintro e w' ⟨rfl, rfl⟩
    go_wp2
    go_ret2
    rw [HE.out]
    exact ⟨rfl, rfl⟩
  · have hhd : (ls s).head? = some s[0] := by
      rw [List.head?_eq_getElem?, ls_get s 0 h0]
    by_cases hz : s[0] = 48
    · have HE : Hid (notL (ls s) = (8, 1)) := Lib.hid (by unfold notL; rw [if_neg hh, if_pos (by rw [hhd, hz])])
      have hq : ((s[0].toNat : Int) == 48) = true := by rw [hz]; rfl
      rw [Bool.not_eq_true] at hh
      rw [hh] at c1
      clear hhd hz
      go_enter Tryd.func36, Tryd.ntmps36
      go_wp2_with fail
      refine c1.mono ?_
      rintro e w' ⟨rfl, rfl⟩
      go_wp2
      go_ret2
      rw [HE.out]
      exact ⟨rfl, rfl⟩
    · have HE : Hid (notL (ls s) = (10, 0)) := Lib.hid (by unfold notL; rw [if_neg hh, if_neg (by rw [hhd]; simpa using hz)])
      have hq : ((s[0].toNat : Int) == 48) = false := by
        rw [beq_eq_false_iff_ne]
        exact fun e => hz (UInt8.toNat_inj.1 (by rw [show (48 : UInt8).toNat = 48 from rfl]; omega))
      rw [Bool.not_eq_true] at hh
      rw [hh] at c1
      clear hhd hz
      go_enter Tryd.func36, Tryd.ntmps36
      go_wp2_with fail
      refine c1.mono ?_
      rintro e w' ⟨rfl, rfl⟩
      go_wp2
      go_ret2
      rw [HE.out]
      exact ⟨rfl, rfl⟩

end Go.Proofs.YthihfhmclmmadaaDoor
