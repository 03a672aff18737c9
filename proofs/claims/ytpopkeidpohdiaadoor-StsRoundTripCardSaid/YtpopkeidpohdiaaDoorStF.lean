/-
  Package sts and its reference: Format.
-/
import Derived.Test.YtpopkeidpohdiaaDoorStN
import Derived.Test.YtpopkeidpohdiaaDoorStD
import Derived.Test.YtpopkeidpohdiaaDoorSecI
import Derived.Test.YtpopkeidpohdiaaDoorRfF
namespace Go.Proofs.YtpopkeidpohdiaaDoor
open Go.RowKit

/-- What Format returns. -/
def FmpPost (p : Pv) (w : World) (e : Ending) (w' : World) : Prop := e = .returned (.tuple #[.string (bs (fmtP p).1), .int .i64 (fmtP p).2]) ∧ Below w.heap.size w w'
theorem fmp_ret {p : Pv} {w w' : World} {T : ByteArray} {t : List UInt8} {r : Int} (h : fmtP p = (t, r)) (hT : T = bs t) (hb : Below w.heap.size w w') : FmpPost p w (.returned (.tuple #[.string T, .int .i64 r])) w' := by
  unfold FmpPost
  rw [h, hT]
  exact ⟨rfl, hb⟩
theorem fmp_bad {p : Pv} (h : p.age < 0 ∨ 2147483647 < p.age) : fmtP p = ([], 2) := by unfold fmtP; rw [if_pos h]
theorem fmp_good {p : Pv} (h0 : 0 ≤ p.age) (h1 : p.age ≤ 2147483647) : fmtP p = (nmA ++ 61 :: Lib.decDigits p.age.toNat ++ (if p.sub then inclT else []), 0) := by unfold fmtP; rw [if_neg (by omega)]
theorem lim_id {n : Int} (h0 : 0 ≤ n) (h1 : n ≤ 2147483647) : fmtS n = bs (Lib.decDigits n.toNat) := by
  unfold fmtS lim
  rw [show max 0 (min n 2147483647) = n by omega]
theorem txt1 (D : List UInt8) : (⟨#[109, 97, 120, 45, 97, 103, 101, 61]⟩ : ByteArray) ++ bs D = bs (nmA ++ 61 :: D ++ []) := by
  rw [List.append_nil]
  exact bsA [109, 97, 120, 45, 97, 103, 101, 61] D
theorem txt2 (D : List UInt8) : (⟨#[109, 97, 120, 45, 97, 103, 101, 61]⟩ : ByteArray) ++ bs D ++ (⟨#[59, 32, 105, 110, 99, 108, 117, 100, 101, 83, 117, 98, 68, 111, 109, 97, 105, 110, 115]⟩ : ByteArray) = bs (nmA ++ 61 :: D ++ inclT) := by
  have h := bsA [109, 97, 120, 45, 97, 103, 101, 61] D
  have h2 := bsA (nmA ++ 61 :: D) inclT
  rw [← h2]
  exact congrArg (· ++ bs inclT) h

set_option maxRecDepth 20000 in
set_option maxHeartbeats 4000000 in
theorem stsFormat_any (p : Pv) (w : World) (hp : Pow w) :
    Calls Tryd.prog 4 #[.agg #[.int .i64 p.age, .bool p.sub]] w (FmpPost p w) := by
  have cf : ∀ W, Below w.heap.size w W → Calls Tryd.prog 8 #[.int .i64 p.age] W fun e w' => e = .returned (.string (fmtS p.age)) ∧ Below W.heap.size W w' := fun W hb => format_any p.age W (pow_below hp hb)
  by_cases h0 : p.age < 0
  · have HX := Lib.hid (fmp_bad (.inl h0))
    clear cf
    generalize p.age = x at *
    generalize p.sub = sb at *
    go_enter Tryd.func4, Tryd.ntmps4
    go_wp2_with (first | (refine wpList_box_arr _ rfl 1 rfl _ _ rfl _ #[.int .i64 x, .bool sb] (by exact rfl) (by exact rfl) ?_
                          intro W3 p3 hp3 hq3 hR3 hG3
                          have k0 := (RowPv.cells hR3).1
                          have hb := below_row0 (Below.refl _ _) hG3 (Nat.le_refl _)))
    go_ret2
    exact fmp_ret HX.out rfl hb
  by_cases h1 : 2147483647 < p.age
  · have HX := Lib.hid (fmp_bad (.inr h1))
    clear cf
    generalize p.age = x at *
    generalize p.sub = sb at *
    go_enter Tryd.func4, Tryd.ntmps4
    go_wp2_with (first | (refine wpList_box_arr _ rfl 1 rfl _ _ rfl _ #[.int .i64 x, .bool sb] (by exact rfl) (by exact rfl) ?_
                          intro W3 p3 hp3 hq3 hR3 hG3
                          have k0 := (RowPv.cells hR3).1
                          have hb := below_row0 (Below.refl _ _) hG3 (Nat.le_refl _)))
    go_ret2
    exact fmp_ret HX.out rfl hb
  have hg := fmp_good (p := p) (by omega) (by omega)
  rw [lim_id (by omega) (by omega)] at cf
  have hz := dec_size p.age.toNat (by omega)
  cases hsub : p.sub with
  | false =>
    rw [hsub, if_neg (by decide)] at hg
    have HX := Lib.hid hg
    have HT := Lib.hid (txt1 (Lib.decDigits p.age.toNat))
    generalize bs (Lib.decDigits p.age.toNat) = D at *
    generalize p.age = x at *
    have hs : ¬ (9223372036854775807 < (⟨#[109, 97, 120, 45, 97, 103, 101, 61]⟩ : ByteArray).size + D.size) := by have : (⟨#[109, 97, 120, 45, 97, 103, 101, 61]⟩ : ByteArray).size = 8 := rfl; omega
    clear hg hsub hz
    go_enter Tryd.func4, Tryd.ntmps4
    go_wp2_with (first | (refine wpList_box_arr _ rfl 1 rfl _ _ rfl _ #[.int .i64 x, .bool false] (by exact rfl) (by exact rfl) ?_
                          intro W3 p3 hp3 hq3 hR3 hG3
                          have k0 := (RowPv.cells hR3).1
                          have hb := below_row0 (Below.refl _ _) hG3 (Nat.le_refl _)))
    refine (cf _ hb).mono ?_
    rintro e w4 ⟨rfl, hb4⟩
    have hr4 : RowPv w4 p3 x false := Row.below hR3 hb4 hq3
    have k1 := (RowPv.cells hr4).2
    replace hb := hb.trans (hb4.mono hb.size)
    clear hb4 hr4 hR3 hG3 k0 cf
    go_wp2
    go_ret2
    exact fmp_ret HX.out HT.out hb
  | true =>
    rw [hsub, if_pos rfl] at hg
    have HX := Lib.hid hg
    have HT := Lib.hid (txt2 (Lib.decDigits p.age.toNat))
    generalize bs (Lib.decDigits p.age.toNat) = D at *
    generalize p.age = x at *
    have hs : ¬ (9223372036854775807 < (⟨#[109, 97, 120, 45, 97, 103, 101, 61]⟩ : ByteArray).size + D.size) := by have : (⟨#[109, 97, 120, 45, 97, 103, 101, 61]⟩ : ByteArray).size = 8 := rfl; omega
    have hs2 : ¬ (9223372036854775807 < ((⟨#[109, 97, 120, 45, 97, 103, 101, 61]⟩ : ByteArray) ++ D).size + (⟨#[59, 32, 105, 110, 99, 108, 117, 100, 101, 83, 117, 98, 68, 111, 109, 97, 105, 110, 115]⟩ : ByteArray).size) := by
      rw [ByteArray.size_append]
      have : (⟨#[109, 97, 120, 45, 97, 103, 101, 61]⟩ : ByteArray).size = 8 := rfl
      have : (⟨#[59, 32, 105, 110, 99, 108, 117, 100, 101, 83, 117, 98, 68, 111, 109, 97, 105, 110, 115]⟩ : ByteArray).size = 19 := rfl
      omega
    clear hg hsub hz
    go_enter Tryd.func4, Tryd.ntmps4
    go_wp2_with (first | (refine wpList_box_arr _ rfl 1 rfl _ _ rfl _ #[.int .i64 x, .bool true] (by exact rfl) (by exact rfl) ?_
                          intro W3 p3 hp3 hq3 hR3 hG3
                          have k0 := (RowPv.cells hR3).1
                          have hb := below_row0 (Below.refl _ _) hG3 (Nat.le_refl _)))
    refine (cf _ hb).mono ?_
    rintro e w4 ⟨rfl, hb4⟩
    have hr4 : RowPv w4 p3 x true := Row.below hR3 hb4 hq3
    have k1 := (RowPv.cells hr4).2
    replace hb := hb.trans (hb4.mono hb.size)
    clear hb4 hr4 hR3 hG3 k0 cf
    go_wp2
    go_ret2
    exact fmp_ret HX.out HT.out hb

set_option maxRecDepth 20000 in
set_option maxHeartbeats 4000000 in
theorem refStsFormat_any (p : Pv) (w : World) :
    Calls Tryd.prog 5 #[.agg #[.int .i64 p.age, .bool p.sub]] w (FmpPost p w) := by
  by_cases h0 : p.age < 0
  · have HX := Lib.hid (fmp_bad (.inl h0))
    generalize p.age = x at *
    generalize p.sub = sb at *
    go_enter Tryd.func5, Tryd.ntmps5
    go_wp2_with (first | (refine wpList_box_arr _ rfl 1 rfl _ _ rfl _ #[.int .i64 x, .bool sb] (by exact rfl) (by exact rfl) ?_
                          intro W3 p3 hp3 hq3 hR3 hG3
                          have k0 := (RowPv.cells hR3).1
                          have hb := below_row0 (Below.refl _ _) hG3 (Nat.le_refl _)))
    go_ret2
    exact fmp_ret HX.out rfl hb
  by_cases h1 : 2147483647 < p.age
  · have HX := Lib.hid (fmp_bad (.inr h1))
    generalize p.age = x at *
    generalize p.sub = sb at *
    go_enter Tryd.func5, Tryd.ntmps5
    go_wp2_with (first | (refine wpList_box_arr _ rfl 1 rfl _ _ rfl _ #[.int .i64 x, .bool sb] (by exact rfl) (by exact rfl) ?_
                          intro W3 p3 hp3 hq3 hR3 hG3
                          have k0 := (RowPv.cells hR3).1
                          have hb := below_row0 (Below.refl _ _) hG3 (Nat.le_refl _)))
    go_ret2
    exact fmp_ret HX.out rfl hb
  have hg := fmp_good (p := p) (by omega) (by omega)
  have cf := fun W => refFromInt_any p.age (by omega) (by omega) W
  have hz := dec_size p.age.toNat (by omega)
  cases hsub : p.sub with
  | false =>
    rw [hsub, if_neg (by decide)] at hg
    have HX := Lib.hid hg
    have HT := Lib.hid (txt1 (Lib.decDigits p.age.toNat))
    generalize bs (Lib.decDigits p.age.toNat) = D at *
    generalize p.age = x at *
    have hs : ¬ (9223372036854775807 < (⟨#[109, 97, 120, 45, 97, 103, 101, 61]⟩ : ByteArray).size + D.size) := by have : (⟨#[109, 97, 120, 45, 97, 103, 101, 61]⟩ : ByteArray).size = 8 := rfl; omega
    clear hg hsub hz
    go_enter Tryd.func5, Tryd.ntmps5
    go_wp2_with (first | (refine wpList_box_arr _ rfl 1 rfl _ _ rfl _ #[.int .i64 x, .bool false] (by exact rfl) (by exact rfl) ?_
                          intro W3 p3 hp3 hq3 hR3 hG3
                          have k0 := (RowPv.cells hR3).1
                          have hb := below_row0 (Below.refl _ _) hG3 (Nat.le_refl _)))
    refine (cf _).mono ?_
    rintro e w4 ⟨rfl, hb4⟩
    have hr4 : RowPv w4 p3 x false := Row.below hR3 hb4 hq3
    have k1 := (RowPv.cells hr4).2
    replace hb := hb.trans (hb4.mono hb.size)
    clear hb4 hr4 hR3 hG3 k0 cf
    go_wp2
    go_ret2
    exact fmp_ret HX.out HT.out hb
  | true =>
    rw [hsub, if_pos rfl] at hg
    have HX := Lib.hid hg
    have HT := Lib.hid (txt2 (Lib.decDigits p.age.toNat))
    generalize bs (Lib.decDigits p.age.toNat) = D at *
    generalize p.age = x at *
    have hs : ¬ (9223372036854775807 < (⟨#[109, 97, 120, 45, 97, 103, 101, 61]⟩ : ByteArray).size + D.size) := by have : (⟨#[109, 97, 120, 45, 97, 103, 101, 61]⟩ : ByteArray).size = 8 := rfl; omega
    have hs2 : ¬ (9223372036854775807 < ((⟨#[109, 97, 120, 45, 97, 103, 101, 61]⟩ : ByteArray) ++ D).size + (⟨#[59, 32, 105, 110, 99, 108, 117, 100, 101, 83, 117, 98, 68, 111, 109, 97, 105, 110, 115]⟩ : ByteArray).size) := by
      rw [ByteArray.size_append]
      have : (⟨#[109, 97, 120, 45, 97, 103, 101, 61]⟩ : ByteArray).size = 8 := rfl
      have : (⟨#[59, 32, 105, 110, 99, 108, 117, 100, 101, 83, 117, 98, 68, 111, 109, 97, 105, 110, 115]⟩ : ByteArray).size = 19 := rfl
      omega
    clear hg hsub hz
    go_enter Tryd.func5, Tryd.ntmps5
    go_wp2_with (first | (refine wpList_box_arr _ rfl 1 rfl _ _ rfl _ #[.int .i64 x, .bool true] (by exact rfl) (by exact rfl) ?_
                          intro W3 p3 hp3 hq3 hR3 hG3
                          have k0 := (RowPv.cells hR3).1
                          have hb := below_row0 (Below.refl _ _) hG3 (Nat.le_refl _)))
    refine (cf _).mono ?_
    rintro e w4 ⟨rfl, hb4⟩
    have hr4 : RowPv w4 p3 x true := Row.below hR3 hb4 hq3
    have k1 := (RowPv.cells hr4).2
    replace hb := hb.trans (hb4.mono hb.size)
    clear hb4 hr4 hR3 hG3 k0 cf
    go_wp2
    go_ret2
    exact fmp_ret HX.out HT.out hb

end Go.Proofs.YtpopkeidpohdiaaDoor
