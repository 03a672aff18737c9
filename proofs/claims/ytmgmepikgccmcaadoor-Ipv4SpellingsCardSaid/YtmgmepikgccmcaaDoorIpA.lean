/-
  What is asked of package ipv4's functions, in plain words; awake of layer 10.
-/
import Derived.Test.YtmgmepikgccmcaaDoorIp5
import Derived.Test.YtmgmepikgccmcaaDoorYes
import Derived.Test.YtmgmepikgccmcaaDoorPowI
namespace Go.Proofs.YtmgmepikgccmcaaDoor
open Go.RowKit

def IpPar (F : FuncId) : Prop := ∀ (s : ByteArray) (w : World), s.size ≤ 1000000000 → Pow w → Calls Tryd.prog F #[.string s] w fun e w' => e = .returned (.tuple #[.int .u32 (aV (parseL (ls s))), .bool (aK (parseL (ls s)))]) ∧ Below w.heap.size w w'
def IpPn (F : FuncId) : Prop := ∀ (s : ByteArray) (w : World), s.size ≤ 1000000000 → Calls Tryd.prog F #[.string s] w fun e w' => e = .returned (.tuple #[.int .u32 (aV (pnL (ls s))), .bool (aK (pnL (ls s)))]) ∧ Below w.heap.size w w'
def IpNum (F : FuncId) : Prop := ∀ (s : ByteArray) (w : World), s.size ≤ 1000000000 → Calls Tryd.prog F #[.string s] w fun e w' => e = .returned (.bool (numericL (ls s))) ∧ Below w.heap.size w w'
def IpFmt (F : FuncId) : Prop := ∀ (v : Int), 0 ≤ v → v < 4294967296 → ∀ w : World, Pow w → Calls Tryd.prog F #[.int .u32 v] w fun e w' => e = .returned (.string (bs (fmtI v.toNat))) ∧ Below w.heap.size w w'

theorem ex_fmt : fmtI 16909060 = [49, 46, 50, 46, 51, 46, 52] := by
  unfold fmtI
  rw [show 16909060 / 16777216 = 1 from rfl, show 16909060 / 65536 % 256 = 2 from rfl, show 16909060 / 256 % 256 = 3 from rfl, show 16909060 % 256 = 4 from rfl,
    Lib.decDigits_one (by decide), Lib.decDigits_one (by decide), Lib.decDigits_one (by decide), Lib.decDigits_one (by decide)]
  rfl
theorem ex_pn : pnL (ls ⟨#[49, 50, 55, 46, 49]⟩) = some 2130706433 := by decide +kernel
theorem ex_parse : parseL (ls ⟨#[49, 46, 50, 46, 51, 46, 52]⟩) = some 16909060 := by
  have e : ls ⟨#[49, 46, 50, 46, 51, 46, 52]⟩ = fmtI 16909060 := ex_fmt.symm
  rw [e, parse_fmtI _ (by decide)]
theorem ex_num : numericL (ls ⟨#[97, 46, 48, 57]⟩) = true := by decide +kernel

set_option maxHeartbeats 1000000 in
theorem awake10_any (hP : IpPar 8) (hQ : IpPn 10) (hN : IpNum 12) (hF : IpFmt 14) (w : World) (hpw : Pow w) :
    Calls Tryd.prog 7 #[] w (Yes w) := by
  have c1 := fun W => hQ ⟨#[49, 50, 55, 46, 49]⟩ W (by decide)
  have c2 := fun W h => hP ⟨#[49, 46, 50, 46, 51, 46, 52]⟩ W (by decide) h
  have c3 := fun W h => hF 16909060 (by omega) (by omega) W h
  have c4 := fun W => hN ⟨#[97, 46, 48, 57]⟩ W (by decide)
  rw [ex_pn, show aV (some 2130706433) = 2130706433 from rfl, show aK (some 2130706433) = true from rfl] at c1
  rw [ex_parse, show aV (some 16909060) = 16909060 from rfl, show aK (some 16909060) = true from rfl] at c2
  rw [show (16909060 : Int).toNat = 16909060 from rfl, ex_fmt] at c3
  rw [ex_num] at c4
  have HS : Hid (bs [49, 46, 50, 46, 51, 46, 52] = ⟨#[49, 46, 50, 46, 51, 46, 52]⟩) := Lib.hid rfl
  rw [HS.out] at c3
  go_enter Tryd.func7, Tryd.ntmps7
  go_wp2_with fail
  refine (c1 _).mono ?_
  rintro e w1 ⟨rfl, hb1⟩
  go_wp2_with fail
  refine (c2 _ (pow_below hpw hb1)).mono ?_
  rintro e w2 ⟨rfl, hb2⟩
  replace hb2 := hb1.trans (hb2.mono hb1.size)
  go_wp2_with fail
  refine (c3 _ (pow_below hpw hb2)).mono ?_
  rintro e w3 ⟨rfl, hb3⟩
  replace hb3 := hb2.trans (hb3.mono hb2.size)
  go_wp2_with fail
  refine (c4 _).mono ?_
  rintro e w4 ⟨rfl, hb4⟩
  replace hb4 := hb3.trans (hb4.mono hb3.size)
  go_wp2
  go_ret
  exact ⟨rfl, hb4⟩

end Go.Proofs.YtmgmepikgccmcaaDoor
