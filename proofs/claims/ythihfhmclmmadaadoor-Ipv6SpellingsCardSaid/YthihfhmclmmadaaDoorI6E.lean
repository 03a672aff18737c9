/-
  Contract of strconv.AppendUint to the base 16 for numbers of 16 bits.
-/
import Derived.Test.YthihfhmclmmadaaDoorI6P
import Derived.Test.YthihfhmclmmadaaDoorA16
import Derived.Test.YthihfhmclmmadaaDoorPowT
import Derived.Test.YthihfhmclmmadaaDoorApp
import Derived.Test.YthihfhmclmmadaaDoorSlA
namespace Go.Proofs.YthihfhmclmmadaaDoor
open Go.RowKit

theorem tyA65 : Tryd.prog.underlying 79 = some (.array 65 5) := by kernel_rfl
theorem infoA65 : (Tryd.prog.info? 79).map (fun i => (i.zero, i.size)) = some (some (.agg (zeros 65)), 65) := by kernel_rfl
theorem sizeU8' : (Tryd.prog.info? 5).map (·.size) = some 1 := by kernel_rfl
theorem zeroA65 : ∀ w, (zeroValue 79).run Tryd.prog w = .ok (.agg (zeros 65)) w := by
  intro w
  cases hi : Tryd.prog.info? 79 with
  | none => have := infoA65; rw [hi] at this; cases this
  | some i =>
    have := infoA65
    rw [hi] at this
    simp only [Option.map_some, Option.some.injEq, Prod.mk.injEq] at this
    simp [zeroValue, typeInfo, hi, this.1]
/-- The array with L at its end. -/
def tailRow (L : List UInt8) : Array Value := (List.replicate (65 - L.length) (Value.int .u8 0) ++ L.map bv).toArray
theorem tailRow_nil : tailRow [] = zeros 65 := by
  unfold tailRow zeros
  rw [List.map_nil, List.append_nil, List.length_nil, List.toArray_replicate]
theorem tailRow_size (L : List UInt8) (h : L.length ≤ 65) : (tailRow L).size = 65 := by simp [tailRow]; omega
theorem tailRow_set (L : List UInt8) (j : Nat) (h : j + 1 + L.length = 65) (c : UInt8) : (tailRow L).setIfInBounds j (bv c) = tailRow (c :: L) := by
  simp only [tailRow, List.setIfInBounds_toArray]
  congr 1
  rw [List.set_append_left _ _ (by simp; omega)]
  have e : 65 - L.length = j + 1 := by omega
  have e2 : 65 - (c :: L).length = j := by simp; omega
  rw [e, e2, List.replicate_succ', List.set_append_right _ _ (by simp)]
  simp
theorem tailRow_get (L : List UInt8) (j k : Nat) (h : j + L.length = 65) (hk : k < L.length) : (tailRow L)[j + k]? = some (bv (L.getD k 0)) := by
  simp only [tailRow, List.getElem?_toArray]
  rw [List.getElem?_append_right (by simp; omega)]
  simp only [List.length_replicate, List.getElem?_map]
  rw [show j + k - (65 - L.length) = k by omega, List.getElem?_eq_getElem hk, List.getD_eq_getElem?_getD, List.getElem?_eq_getElem hk]
  rfl
theorem tail_has {w : World} {g : Nat} {L : List UInt8} (h : Row w g 79 (tailRow L)) (j : Nat) (hj : j + L.length = 65) : Has w w.heap.size (some ⟨g, j, none⟩) L.length (L.map bv) := by
  refine ⟨by simp, fun _ => ⟨g, j, rfl, h.lt, fun k hk => ?_⟩⟩
  have hk' : k < L.length := by simpa using hk
  rw [cell_of_row w g (j + k) _ _ (0, 0) h, tailRow_get L j k hj hk', List.getElem_map, List.getD_eq_getElem?_getD, List.getElem?_eq_getElem hk']
  rfl
/-- A digit of the table of digits. -/
theorem lit_digit : ∀ r : Fin 16, ((⟨#[48, 49, 50, 51, 52, 53, 54, 55, 56, 57, 97, 98, 99, 100, 101, 102, 103, 104, 105, 106, 107, 108, 109, 110, 111, 112, 113, 114, 115, 116, 117, 118, 119, 120, 121, 122]⟩ : ByteArray)[r.val]?) = some (hexc r.val) := by decide +kernel
theorem wpList_digit (w : World) {ops : Array Oper} {rest : List Oper} {o : Oper} {a : Act} {Q : Exit → Act → World → Prop} (hg : o.guard = none) (x y : Operand) (hop : o.op = .index 9 x y)
    (hx : a.eval x = .string ⟨#[48, 49, 50, 51, 52, 53, 54, 55, 56, 57, 97, 98, 99, 100, 101, 102, 103, 104, 105, 106, 107, 108, 109, 110, 111, 112, 113, 114, 115, 116, 117, 118, 119, 120, 121, 122]⟩) (z : Int) (hy : a.eval y = .int .u64 z)
    (r : Nat) (hr : r < 16) (hz : z = (r : Int)) (h : wpList Tryd.prog ops Q rest (a.put o.dst (bv (hexc r))) w) : wpList Tryd.prog ops Q (o :: rest) a w := by
  refine wpList_plain hg fun K hK => ?_
  subst hz
  have e := lit_digit ⟨r, hr⟩
  simp only at e
  have e2 : Value.int .u8 ((hexc r).toNat : Int) = bv (hexc r) := rfl
  unfold Oper.wp
  simp [execOp, hop, hx, hy, Instr.index, run_underlying tyStr, asIntOf, e, e2, Result.andThen]
  exact hK _ _ h
theorem isPow_16 (w : World) : Calls Tryd.prog 50 #[.int .i64 16] w fun e w' => e = .returned (.bool true) ∧ w = w' := by
  have h1 : bits .and .i64 16 15 = 0 := by decide +kernel
  go_enter Tryd.func50, Tryd.ntmps50
  go_wp2
  go_ret
  exact ⟨rfl, rfl⟩
theorem tz64_16 (w : World) (hp : Pow6 w) : Calls Tryd.prog 54 #[.int .u64 16] w fun e w' => e = .returned (.int .i64 4) ∧ w = w' := by
  have key : IntKind.u64.wrap (bits .and .u64 16 (IntKind.u64.wrap (-16)) * 285870213051353865) / 288230376151711744 = 15 := by decide +kernel
  have h2 := hp.2
  go_enter Tryd.func54, Tryd.ntmps54
  go_wp2_with (simp only [key])
  go_ret
  exact ⟨rfl, rfl⟩
theorem tz_16 (w : World) (hp : Pow6 w) : Calls Tryd.prog 51 #[.int .u64 16] w fun e w' => e = .returned (.int .i64 4) ∧ w = w' := by
  have c1 := tz64_16 w hp
  go_enter Tryd.func51, Tryd.ntmps51
  go_wp2_with fail
  refine c1.mono ?_
  rintro e w' ⟨rfl, rfl⟩
  go_wp2
  go_ret
  exact ⟨rfl, rfl⟩

set_option maxRecDepth 20000 in
set_option maxHeartbeats 4000000 in
theorem fbits_any (B n u : Nat) (hu : u < 65536) (sv : Value) (l : List UInt8) (w : World) (hp : Pow6 w) (hown : w.ownsRow B 5 1 sv n (l.map bv)) (hB : B ≤ w.heap.size) (hn : n ≤ 1000000000) :
    Calls Tryd.prog 45 #[sv, .int .u64 u, .int .i64 16, .bool false, .bool true] w fun e w' => ∃ v', e = .returned (.tuple #[v', .string ⟨#[]⟩]) ∧ w'.ownsRow B 5 1 v' (n + (hexT u).length) ((l ++ hexT u).map bv) ∧ Below B w w' := by
  obtain ⟨i5, hi5, hz0, hz1, hz2⟩ := info_parts infoU8
  obtain ⟨hl1, hl4⟩ := hexT_len u hu
  obtain ⟨T, hT⟩ : ∃ T, T = hexT u := ⟨_, rfl⟩
  rw [← hT] at hl1 hl4 ⊢
  have HT : Hid (digsB 16 u ++ [] = T) := by show _ = _; rw [List.append_nil, hT]; rfl
  clear hT
  go_enter Tryd.func45, Tryd.ntmps45
  go_wp2_with (refine wpList_alloc_arr _ rfl 12 rfl _ rfl _ zeroA65 ?_; intro W1 g hg hl hR hG)
  have hb1 : Below B w W1 := below_row0 (Below.refl B w) hG hB
  have hb1' : Below w.heap.size w W1 := below_row0 (Below.refl w.heap.size w) hG (Nat.le_refl _)
  have hp1 := pow6_below hp hb1'
  have hown1 := own_below hown hb1'
  have hBg : B ≤ g := by omega
  have hR1 : Row W1 g 79 (tailRow []) := by rw [tailRow_nil]; exact hR
  have HBW := Lib.hid hb1.size
  have hb1w : Below w.heap.size w W1 := hb1'
  clear hR hG hb1' hown1 hb1
  refine (isPow_16 _).mono ?_
  rintro e w' ⟨rfl, rfl⟩
  go_wp2_with fail
  refine (tz_16 _ hp1).mono ?_
  rintro e w' ⟨rfl, rfl⟩
  go_wp2
  go_loopw [1, 13] (fun m i wr => ∃ (M k : Nat) (L : List UInt8), m = .int .u64 M ∧ i = .int .i64 ((k : Int) + 1) ∧ Hid (k + 1 + L.length = 65) ∧ Hid (M < 65536) ∧ Hid (digsB 16 M ++ L = T) ∧ Row wr g 79 (tailRow L) ∧ Below w.heap.size w wr) (fun m _ _ => (intOf m).toNat)
  case atStart => exact ⟨u, 64, [], rfl, rfl, Lib.hid rfl, Lib.hid hu, HT, hR1, hb1w⟩
  case round =>
    obtain ⟨M, k, L, rfl, rfl, HK, HM, HD, hrow, hb⟩ := hrel
    have hks : k < (tailRow L).size := by have := HK.out; rw [tailRow_size L (by omega)]; omega
    have hk65 : k < 65 := by have := HK.out; omega
    have hL4 : L.length ≤ 4 := by
      have := congrArg List.length HD.out
      rw [List.length_append] at this
      omega
    by_cases hM : M < 16
    · have hd : decide ((M : Int) ≥ 16) = false := decide_eq_false (by omega)
      have HT2 : Hid (hexc M :: L = T) := by show _ = _; rw [← HD.out, digsB_small hM]; rfl
      have hsl := fun W => run_slice_arr (P := Tryd.prog) 79 5 65 g k 65 tyA65 sizeU8' (some (.int .i64 (k : Int))) none (.inl rfl) (.inr ⟨rfl, rfl⟩) (by omega) (Nat.le_refl _) W
      rw [if_neg (by omega), show 65 - k = T.length by rw [← HT2.out]; have := HK.out; simp only [List.length_cons]; omega] at hsl
      go_wp2_with (first
        | (refine wpList_digit _ rfl _ _ rfl (by exact rfl) _ (by exact rfl) M hM rfl ?_)
        | (refine wpList_store_cell _ rfl rfl _ _ _ rfl g k (by exact rfl) (bv (hexc M)) (by exact rfl) (by exact rfl) _ (tailRow L) hrow hks sizeU8' ?_; intro w4 hr4 hg4; rw [tailRow_set L k HK.out] at hr4; have hb4 := below_row hb hg4 (Nat.le_refl _) hg; have hown4 := own_below hown hb4; have hh := tail_has hr4 k (by have := HK.out; simp only [List.length_cons]; omega); rw [HT2.out] at hh)
        | (at_builtin; refine wpList_app_has (w0 := w) _ rfl _ _ 60 rfl B 5 i5 (.int .u8 0) 1 tyBs hi5 hz0 hz1 hz2 rfl sv n _ (by exact rfl) hown4 _ _ _ _ _ (by exact rfl) (fun e => by cases e) hh (one_bytes T) (by unfold maxLen; omega) (by omega) (hb4.mono hB) hB ?_; intro v5 w5 hown5 hb5 hg5))
      rw [← List.map_append] at hown5
      go_ret2
      exact ⟨v5, rfl, hown5, hb5⟩
    · have hd : decide ((M : Int) ≥ 16) = true := decide_eq_true (by omega)
      obtain ⟨r, hr⟩ : ∃ r, r = M % 16 := ⟨_, rfl⟩
      obtain ⟨q, hq⟩ : ∃ q, q = M / 16 := ⟨_, rfl⟩
      have hr16 : r < 16 := by omega
      have hand : bits .and .u64 (M : Int) 15 = (r : Int) := by
        have := u64_and_nat M 15 (by have := HM.out; omega) (by omega)
        rw [show ((15 : Nat) : Int) = 15 from rfl] at this
        rw [this, hr, show 15 = 2 ^ 4 - 1 from rfl, Nat.and_two_pow_sub_one_eq_mod]
      have hsh : (M : Int) / 16 = (q : Int) := by omega
      have HD2 : Hid (digsB 16 q ++ (hexc r :: L) = T) := by
        show _ = _
        rw [← HD.out, digsB_step (by decide) (by have := HM.out; omega) hM, hr, hq, List.append_assoc]
        rfl
      have HQ : Hid (q < 65536) := by show _ < _; have := HM.out; omega
      have HQM : Hid (q < M) := by show _ < _; omega
      clear hr hq
      go_wp2_with (first
        | (refine wpList_digit _ rfl _ _ rfl (by exact rfl) _ (by exact rfl) r hr16 (by first | exact rfl | exact hand) ?_)
        | (refine wpList_store_cell _ rfl rfl _ _ _ rfl g k (by exact rfl) (bv (hexc r)) (by exact rfl) (by exact rfl) _ (tailRow L) hrow hks sizeU8' ?_; intro w4 hr4 hg4))
      rw [tailRow_set L k HK.out] at hr4
      obtain ⟨k', rfl⟩ : ∃ k', k = k' + 1 := ⟨k - 1, by have := HK.out; omega⟩
      go_roundw
      case rel => exact ⟨q, k', hexc r :: L, by first | rfl | go_num, by first | rfl | go_num, Lib.hid (by have := HK.out; simp only [List.length_cons]; omega), HQ, HD2, hr4, below_row hb hg4 (Nat.le_refl _) hg⟩
      case measure => simp [intOf]; exact HQM.out

end Go.Proofs.YthihfhmclmmadaaDoor
