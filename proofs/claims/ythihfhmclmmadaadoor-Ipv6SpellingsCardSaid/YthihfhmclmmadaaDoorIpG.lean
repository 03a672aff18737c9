/-
  Contract of Format of the reference of layer 10.
-/
import Derived.Test.YthihfhmclmmadaaDoorRfF
import Derived.Test.YthihfhmclmmadaaDoorIpP
import Derived.Lib.AppendStr
namespace Go.Proofs.YthihfhmclmmadaaDoor
open Go.RowKit

theorem fmtI_bs (v : Nat) : bs (fmtI v) = bs (Lib.decDigits (v / 16777216)) ++ ⟨#[46]⟩ ++ bs (Lib.decDigits (v / 65536 % 256)) ++ ⟨#[46]⟩ ++ bs (Lib.decDigits (v / 256 % 256)) ++ ⟨#[46]⟩ ++ bs (Lib.decDigits (v % 256)) := by
  apply ls_inj
  have e : ls (⟨#[46]⟩ : ByteArray) = [46] := rfl
  simp only [ls_append, ls_bs, e, fmtI, joinL]
  simp

set_option maxRecDepth 20000 in
set_option maxHeartbeats 1000000 in
theorem refFormat_any (v : Int) (h0 : 0 ≤ v) (h1 : v < 4294967296) (w : World) :
    Calls Tryd.prog 13 #[.int .u32 v] w fun e w' => e = .returned (.string (bs (fmtI v.toNat))) ∧ Below w.heap.size w w' := by
  have HF : Hid (bs (fmtI v.toNat) = bs (Lib.decDigits (v / 16777216).toNat) ++ ⟨#[46]⟩ ++ bs (Lib.decDigits (v / 65536 % 256).toNat) ++ ⟨#[46]⟩ ++ bs (Lib.decDigits (v / 256 % 256).toNat) ++ ⟨#[46]⟩ ++ bs (Lib.decDigits (v % 256).toNat)) := by
    show _ = _
    rw [fmtI_bs, show v.toNat / 16777216 = (v / 16777216).toNat by omega, show v.toNat / 65536 % 256 = (v / 65536 % 256).toNat by omega, show v.toNat / 256 % 256 = (v / 256 % 256).toNat by omega, show v.toNat % 256 = (v % 256).toNat by omega]
  obtain ⟨a, ha⟩ : ∃ x, v / 16777216 = x := ⟨_, rfl⟩
  obtain ⟨b1, hb1⟩ : ∃ x, v / 65536 = x := ⟨_, rfl⟩
  obtain ⟨c1, hc1⟩ : ∃ x, v / 256 = x := ⟨_, rfl⟩
  obtain ⟨b, hb⟩ : ∃ x, b1 % 256 = x := ⟨_, rfl⟩
  obtain ⟨c, hc⟩ : ∃ x, c1 % 256 = x := ⟨_, rfl⟩
  obtain ⟨d, hd⟩ : ∃ x, v % 256 = x := ⟨_, rfl⟩
  rw [ha, hb1, hc1, hb, hc, hd] at HF
  have ka := refFromInt_any a (by omega) (by omega)
  have kb := refFromInt_any b (by omega) (by omega)
  have kc := refFromInt_any c (by omega) (by omega)
  have kd := refFromInt_any d (by omega) (by omega)
  have sa := dec_size15 a.toNat (by omega)
  have sb := dec_size15 b.toNat (by omega)
  have sc := dec_size15 c.toNat (by omega)
  have sd := dec_size15 d.toNat (by omega)
  generalize bs (Lib.decDigits a.toNat) = DA at *
  generalize bs (Lib.decDigits b.toNat) = DB at *
  generalize bs (Lib.decDigits c.toNat) = DC at *
  generalize bs (Lib.decDigits d.toNat) = DD at *
  have hb10 : 0 ≤ b1 := by omega
  have hc10 : 0 ≤ c1 := by omega
  go_enter Tryd.func13, Tryd.ntmps13
  go_wp2_with fail
  refine (ka _).mono ?_
  rintro e w1 ⟨rfl, hw1⟩
  go_wp2_with fail
  refine (kb _).mono ?_
  rintro e w2 ⟨rfl, hw2⟩
  replace hw2 := hw1.trans (hw2.mono hw1.size)
  go_wp2_with fail
  refine (kc _).mono ?_
  rintro e w3 ⟨rfl, hw3⟩
  replace hw3 := hw2.trans (hw3.mono hw2.size)
  go_wp2_with fail
  refine (kd _).mono ?_
  rintro e w4 ⟨rfl, hw4⟩
  replace hw4 := hw3.trans (hw4.mono hw3.size)
  go_wp2
  go_ret
  exact ⟨ret_str HF.out.symm, hw4⟩

end Go.Proofs.YthihfhmclmmadaaDoor
