/-
Contract of strconv.AppendUint to the base 16 for numbers of 16 bits.
Contracts of strconv.AppendUint to the base 16, and of joined of package ipv6.
The longest run of groups 0, met by trying (plain); contract of longestZeros of package ipv6.
Contract of Format of package ipv6.
Canonical labels, test by test. No program.
-/
import Derived.Test.YtdfacgncphmcoaaGreatDoorC03
import Derived.Test.YtdfacgncphmcoaaGreatDoorC07
import Derived.Test.YtdfacgncphmcoaaGreatDoorC30
import Derived.Test.YtdfacgncphmcoaaGreatDoorC04
import Derived.Laws.CopyRow
import Derived.Deep.RegionHeld3
import Derived.Test.YtdfacgncphmcoaaGreatDoorC02
namespace Go.Proofs.YtdfacgncphmcoaaGreatDoor
section
open Go.RowKit
theorem tyA65 : Tryz.prog.underlying 158 = some (.array 65 5) := by kernel_rfl
theorem infoA65 : (Tryz.prog.info? 158).map (fun i => (i.zero, i.size)) = some (some (.agg (zeros 65)), 65) := by kernel_rfl
theorem sizeU8' : (Tryz.prog.info? 5).map (·.size) = some 1 := by kernel_rfl
theorem zeroA65 : ∀ w, (zeroValue 158).run Tryz.prog w = .ok (.agg (zeros 65)) w := by
  intro w
  cases hi : Tryz.prog.info? 158 with
  | none => have := infoA65; rw [hi] at this; cases this
  | some i =>
    have := infoA65
    rw [hi] at this
    simp only [Option.map_some, Option.some.injEq, Prod.mk.injEq] at this
    simp [zeroValue, typeInfo, hi, this.1]
/-- The array with L at its end. -/
def tailRow (L : List UInt8) : Array Value := (List.replicate (65 - L.length) (Value.int .u8 0) ++ L.map bv).toArray
theorem tailRow_nil : tailRow [] = zeros 65 := by
  unfold tailRow zeros
  rw [List.map_nil, List.append_nil, List.length_nil, List.toArray_replicate]
theorem tailRow_size (L : List UInt8) (h : L.length ≤ 65) : (tailRow L).size = 65 := by simp [tailRow]; omega
theorem tailRow_set (L : List UInt8) (j : Nat) (h : j + 1 + L.length = 65) (c : UInt8) : (tailRow L).setIfInBounds j (bv c) = tailRow (c :: L) := by
  simp only [tailRow, List.setIfInBounds_toArray]
  congr 1
  rw [List.set_append_left _ _ (by simp; omega)]
  have e : 65 - L.length = j + 1 := by omega
  have e2 : 65 - (c :: L).length = j := by simp; omega
  rw [e, e2, List.replicate_succ', List.set_append_right _ _ (by simp)]
  simp
theorem tailRow_get (L : List UInt8) (j k : Nat) (h : j + L.length = 65) (hk : k < L.length) : (tailRow L)[j + k]? = some (bv (L.getD k 0)) := by
  simp only [tailRow, List.getElem?_toArray]
  rw [List.getElem?_append_right (by simp; omega)]
  simp only [List.length_replicate, List.getElem?_map]
  rw [show j + k - (65 - L.length) = k by omega, List.getElem?_eq_getElem hk, List.getD_eq_getElem?_getD, List.getElem?_eq_getElem hk]
  rfl
theorem tail_has {w : World} {g : Nat} {L : List UInt8} (h : Row w g 158 (tailRow L)) (j : Nat) (hj : j + L.length = 65) : Has w w.heap.size (some ⟨g, j, none⟩) L.length (L.map bv) := by
  refine ⟨by simp, fun _ => ⟨g, j, rfl, h.lt, fun k hk => ?_⟩⟩
  have hk' : k < L.length := by simpa using hk
  rw [cell_of_row w g (j + k) _ _ (0, 0) h, tailRow_get L j k hj hk', List.getElem_map, List.getD_eq_getElem?_getD, List.getElem?_eq_getElem hk']
  rfl
/-- A digit of the table of digits. -/
theorem lit_digit : ∀ r : Fin 16, ((⟨#[48, 49, 50, 51, 52, 53, 54, 55, 56, 57, 97, 98, 99, 100, 101, 102, 103, 104, 105, 106, 107, 108, 109, 110, 111, 112, 113, 114, 115, 116, 117, 118, 119, 120, 121, 122]⟩ : ByteArray)[r.val]?) = some (hexc r.val) := by decide +kernel
theorem wpList_digit (w : World) {ops : Array Oper} {rest : List Oper} {o : Oper} {a : Act} {Q : Exit → Act → World → Prop} (hg : o.guard = none) (x y : Operand) (hop : o.op = .index 9 x y)
    (hx : a.eval x = .string ⟨#[48, 49, 50, 51, 52, 53, 54, 55, 56, 57, 97, 98, 99, 100, 101, 102, 103, 104, 105, 106, 107, 108, 109, 110, 111, 112, 113, 114, 115, 116, 117, 118, 119, 120, 121, 122]⟩) (z : Int) (hy : a.eval y = .int .u64 z)
    (r : Nat) (hr : r < 16) (hz : z = (r : Int)) (h : wpList Tryz.prog ops Q rest (a.put o.dst (bv (hexc r))) w) : wpList Tryz.prog ops Q (o :: rest) a w := by
  refine wpList_plain hg fun K hK => ?_
  subst hz
  have e := lit_digit ⟨r, hr⟩
  simp only at e
  have e2 : Value.int .u8 ((hexc r).toNat : Int) = bv (hexc r) := rfl
  unfold Oper.wp
  simp [execOp, hop, hx, hy, Instr.index, run_underlying tyStr, asIntOf, e, e2, Result.andThen]
  exact hK _ _ h
theorem isPow_16 (w : World) : Calls Tryz.prog 193 #[.int .i64 16] w fun e w' => e = .returned (.bool true) ∧ w = w' := by
  have h1 : bits .and .i64 16 15 = 0 := by decide +kernel
  go_enter Tryz.func193, Tryz.ntmps193
  go_wp2
  go_ret
  exact ⟨rfl, rfl⟩
theorem tz64_16 (w : World) (hp : Pow6 w) : Calls Tryz.prog 214 #[.int .u64 16] w fun e w' => e = .returned (.int .i64 4) ∧ w = w' := by
  have key : IntKind.u64.wrap (bits .and .u64 16 (IntKind.u64.wrap (-16)) * 285870213051353865) / 288230376151711744 = 15 := by decide +kernel
  have h2 := hp.2
  go_enter Tryz.func214, Tryz.ntmps214
  go_wp2_with (simp only [key])
  go_ret
  exact ⟨rfl, rfl⟩
theorem tz_16 (w : World) (hp : Pow6 w) : Calls Tryz.prog 194 #[.int .u64 16] w fun e w' => e = .returned (.int .i64 4) ∧ w = w' := by
  have c1 := tz64_16 w hp
  go_enter Tryz.func194, Tryz.ntmps194
  go_wp2_with fail
  refine c1.mono ?_
  rintro e w' ⟨rfl, rfl⟩
  go_wp2
  go_ret
  exact ⟨rfl, rfl⟩
set_option maxRecDepth 20000 in
set_option maxHeartbeats 4000000 in
theorem fbits_any (B n u : Nat) (hu : u < 65536) (sv : Value) (l : List UInt8) (w : World) (hp : Pow6 w) (hown : w.ownsRow B 5 1 sv n (l.map bv)) (hB : B ≤ w.heap.size) (hn : n ≤ 1000000000) :
    Calls Tryz.prog 164 #[sv, .int .u64 u, .int .i64 16, .bool false, .bool true] w fun e w' => ∃ v', e = .returned (.tuple #[v', .string ⟨#[]⟩]) ∧ w'.ownsRow B 5 1 v' (n + (hexT u).length) ((l ++ hexT u).map bv) ∧ Below B w w' := by
  obtain ⟨i5, hi5, hz0, hz1, hz2⟩ := info_parts infoU8
  obtain ⟨hl1, hl4⟩ := hexT_len u hu
  obtain ⟨T, hT⟩ : ∃ T, T = hexT u := ⟨_, rfl⟩
  rw [← hT] at hl1 hl4 ⊢
  have HT : Hid (digsB 16 u ++ [] = T) := by show _ = _; rw [List.append_nil, hT]; rfl
  clear hT
  go_enter Tryz.func164, Tryz.ntmps164
  go_wp2_with (refine wpList_alloc_arr _ rfl 12 rfl _ rfl _ zeroA65 ?_; intro W1 g hg hl hR hG)
  have hb1 : Below B w W1 := below_row0 (Below.refl B w) hG hB
  have hb1' : Below w.heap.size w W1 := below_row0 (Below.refl w.heap.size w) hG (Nat.le_refl _)
  have hp1 := pow6_below hp hb1'
  have hown1 := own_below hown hb1'
  have hBg : B ≤ g := by omega
  have hR1 : Row W1 g 158 (tailRow []) := by rw [tailRow_nil]; exact hR
  have HBW := Lib.hid hb1.size
  have hb1w : Below w.heap.size w W1 := hb1'
  clear hR hG hb1' hown1 hb1
  refine (isPow_16 _).mono ?_
  rintro e w' ⟨rfl, rfl⟩
  go_wp2_with fail
  refine (tz_16 _ hp1).mono ?_
  rintro e w' ⟨rfl, rfl⟩
  go_wp2
  go_loopw [1, 13] (fun m i wr => ∃ (M k : Nat) (L : List UInt8), m = .int .u64 M ∧ i = .int .i64 ((k : Int) + 1) ∧ Hid (k + 1 + L.length = 65) ∧ Hid (M < 65536) ∧ Hid (digsB 16 M ++ L = T) ∧ Row wr g 158 (tailRow L) ∧ Below w.heap.size w wr) (fun m _ _ => (intOf m).toNat)
  case atStart => exact ⟨u, 64, [], rfl, rfl, Lib.hid rfl, Lib.hid hu, HT, hR1, hb1w⟩
  case round =>
    obtain ⟨M, k, L, rfl, rfl, HK, HM, HD, hrow, hb⟩ := hrel
    have hks : k < (tailRow L).size := by have := HK.out; rw [tailRow_size L (by omega)]; omega
    have hk65 : k < 65 := by have := HK.out; omega
    have hL4 : L.length ≤ 4 := by
      have := congrArg List.length HD.out
      rw [List.length_append] at this
      omega
    by_cases hM : M < 16
    · have hd : decide ((M : Int) ≥ 16) = false := decide_eq_false (by omega)
      have HT2 : Hid (hexc M :: L = T) := by show _ = _; rw [← HD.out, digsB_small hM]; rfl
      have hsl := fun W => run_slice_arr (P := Tryz.prog) 158 5 65 g k 65 tyA65 sizeU8' (some (.int .i64 (k : Int))) none (.inl rfl) (.inr ⟨rfl, rfl⟩) (by omega) (Nat.le_refl _) W
      rw [if_neg (by omega), show 65 - k = T.length by rw [← HT2.out]; have := HK.out; simp only [List.length_cons]; omega] at hsl
      go_wp2_with (first
        | (refine wpList_digit _ rfl _ _ rfl (by exact rfl) _ (by exact rfl) M hM rfl ?_)
        | (refine wpList_store_cell _ rfl rfl _ _ _ rfl g k (by exact rfl) (bv (hexc M)) (by exact rfl) (by exact rfl) _ (tailRow L) hrow hks sizeU8' ?_; intro w4 hr4 hg4; rw [tailRow_set L k HK.out] at hr4; have hb4 := below_row hb hg4 (Nat.le_refl _) hg; have hown4 := own_below hown hb4; have hh := tail_has hr4 k (by have := HK.out; simp only [List.length_cons]; omega); rw [HT2.out] at hh)
        | (at_builtin; refine wpList_app_has (w0 := w) _ rfl _ _ 40 rfl B 5 i5 (.int .u8 0) 1 tyBs hi5 hz0 hz1 hz2 rfl sv n _ (by exact rfl) hown4 _ _ _ _ _ (by exact rfl) (fun e => by cases e) hh (one_bytes T) (by unfold maxLen; omega) (by omega) (hb4.mono hB) hB ?_; intro v5 w5 hown5 hb5 hg5))
      rw [← List.map_append] at hown5
      go_ret2
      exact ⟨v5, rfl, hown5, hb5⟩
    · have hd : decide ((M : Int) ≥ 16) = true := decide_eq_true (by omega)
      obtain ⟨r, hr⟩ : ∃ r, r = M % 16 := ⟨_, rfl⟩
      obtain ⟨q, hq⟩ : ∃ q, q = M / 16 := ⟨_, rfl⟩
      have hr16 : r < 16 := by omega
      have hand : bits .and .u64 (M : Int) 15 = (r : Int) := by
        have := u64_and_nat M 15 (by have := HM.out; omega) (by omega)
        rw [show ((15 : Nat) : Int) = 15 from rfl] at this
        rw [this, hr, show 15 = 2 ^ 4 - 1 from rfl, Nat.and_two_pow_sub_one_eq_mod]
      have hsh : (M : Int) / 16 = (q : Int) := by omega
      have HD2 : Hid (digsB 16 q ++ (hexc r :: L) = T) := by
        show _ = _
        rw [← HD.out, digsB_step (by decide) (by have := HM.out; omega) hM, hr, hq, List.append_assoc]
        rfl
      have HQ : Hid (q < 65536) := by show _ < _; have := HM.out; omega
      have HQM : Hid (q < M) := by show _ < _; omega
      clear hr hq
      go_wp2_with (first
        | (refine wpList_digit _ rfl _ _ rfl (by exact rfl) _ (by exact rfl) r hr16 (by first | exact rfl | exact hand) ?_)
        | (refine wpList_store_cell _ rfl rfl _ _ _ rfl g k (by exact rfl) (bv (hexc r)) (by exact rfl) (by exact rfl) _ (tailRow L) hrow hks sizeU8' ?_; intro w4 hr4 hg4))
      rw [tailRow_set L k HK.out] at hr4
      obtain ⟨k', rfl⟩ : ∃ k', k = k' + 1 := ⟨k - 1, by have := HK.out; omega⟩
      go_roundw
      case rel => exact ⟨q, k', hexc r :: L, by first | rfl | go_num, by first | rfl | go_num, Lib.hid (by have := HK.out; simp only [List.length_cons]; omega), HQ, HD2, hr4, below_row hb hg4 (Nat.le_refl _) hg⟩
      case measure => simp [intOf]; exact HQM.out
end

section
open Go.RowKit
theorem iappend16_any (B n u : Nat) (hu : u < 65536) (sv : Value) (l : List UInt8) (w : World) (hp : Pow6 w) (hown : w.ownsRow B 5 1 sv n (l.map bv)) (hB : B ≤ w.heap.size) (hn : n ≤ 1000000000) :
    Calls Tryz.prog 160 #[sv, .int .u64 u, .int .i64 16] w fun e w' => ∃ v', e = .returned v' ∧ w'.ownsRow B 5 1 v' (n + (hexT u).length) ((l ++ hexT u).map bv) ∧ Below B w w' := by
  have c1 := fbits_any B n u hu sv l w hp hown hB hn
  clear hown hp
  go_enter Tryz.func160, Tryz.ntmps160
  go_wp2_with fail
  refine c1.mono ?_
  rintro e w' ⟨v', rfl, h1, h2⟩
  go_wp2
  go_ret
  exact ⟨_, rfl, h1, h2⟩
theorem append16_any (B n u : Nat) (hu : u < 65536) (sv : Value) (l : List UInt8) (w : World) (hp : Pow6 w) (hown : w.ownsRow B 5 1 sv n (l.map bv)) (hB : B ≤ w.heap.size) (hn : n ≤ 1000000000) :
    Calls Tryz.prog 124 #[sv, .int .u64 u, .int .i64 16] w fun e w' => ∃ v', e = .returned v' ∧ w'.ownsRow B 5 1 v' (n + (hexT u).length) ((l ++ hexT u).map bv) ∧ Below B w w' := by
  have c1 := iappend16_any B n u hu sv l w hp hown hB hn
  clear hown hp
  go_enter Tryz.func124, Tryz.ntmps124
  go_wp2_with fail
  refine c1.mono ?_
  rintro e w' ⟨v', rfl, h1, h2⟩
  go_wp2
  go_ret
  exact ⟨_, rfl, h1, h2⟩
/-- The texts of the first groups. -/
def jn (g : List Nat) (k : Nat) : List UInt8 := joinL 58 ((g.take k).map hexT)
theorem jn_succ (g : List Nat) (k : Nat) (h : k < g.length) : jn g (k + 1) = jn g k ++ ((if k = 0 then [] else [58]) ++ hexT (g.getD k 0)) := by
  unfold jn
  rw [take_snoc g k h, List.map_append, List.map_singleton, join_snoc58]
  congr 2
  by_cases hk : k = 0
  · subst hk; simp
  · rw [if_neg hk, if_neg]
    simp only [List.map_eq_nil_iff]
    intro e
    have := congrArg List.length e
    rw [List.length_take] at this
    simp only [List.length_nil] at this
    omega
theorem jn_len (g : List Nat) (hg : G16 g) (k : Nat) (hk : k ≤ 8) : (jn g k).length ≤ 40 := by
  have := join_len (g.take k) (hg.take k)
  rw [List.length_take] at this
  unfold jn
  omega
theorem own_nil8 (w : World) (B : Nat) : w.ownsRow B 5 1 (.slice none 0 0) 0 [] := ⟨rfl, .inl ⟨rfl, rfl⟩⟩
set_option maxRecDepth 20000 in
set_option maxHeartbeats 4000000 in
theorem joined_any (A : Option Addr) (n cap : Nat) (g : List Nat) (hg : G16 g) (hn8 : n ≤ 8) (w : World) (hp : Pow6 w) (hh : Has w w.heap.size A n (uv g)) :
    Calls Tryz.prog 126 #[.slice A n cap] w fun e w' => e = .returned (.string (bs (joinL 58 (g.map hexT)))) ∧ Below w.heap.size w w' := by
  obtain ⟨i5, hi5, hz0, hz1, hz2⟩ := info_parts infoU8
  have hlen : g.length = n := by have := hh.1; rwa [uv_length] at this
  have HF : Hid (jn g n = joinL 58 (g.map hexT)) := by show _ = _; unfold jn; rw [← hlen, List.take_length]
  have HG := Lib.hid hg
  have HL := Lib.hid hlen
  clear hg hlen
  go_enter Tryz.func126, Tryz.ntmps126
  go_wp2
  go_loopw [3, 8] (fun t i wr => ∃ k : Nat, k ≤ n ∧ i = .int .i64 k ∧ wr.ownsRow w.heap.size 5 1 t (jn g k).length ((jn g k).map bv) ∧ Below w.heap.size w wr) (fun _ i _ => n - (intOf i).toNat)
  case atStart => exact ⟨0, Nat.zero_le _, rfl, own_nil8 w _, Below.refl _ _⟩
  case round =>
    obtain ⟨k, hk, rfl, hown, hb⟩ := hrel
    by_cases hlt : k < n
    · obtain ⟨b, off, rfl, hc⟩ := uv_cell (hh.below hb) k hlt
      have hx : g.getD k 0 < 65536 := by
        refine HG.out _ ?_
        rw [List.getD_eq_getElem?_getD, List.getElem?_eq_getElem (by rw [HL.out]; exact hlt), Option.getD_some]
        exact List.getElem_mem _
      have hs := jn_succ g k (by rw [HL.out]; exact hlt)
      have hjl := jn_len g HG.out k (by omega)
      generalize g.getD k 0 = x at *
      have hwr : IntKind.u64.wrap (x : Int) = (x : Int) := by rw [IntKind.wrap_u64]; omega
      by_cases h0 : k = 0
      · have HN : Hid (jn g (k + 1) = jn g k ++ hexT x) := by show _ = _; rw [hs, if_pos h0]; rfl
        have hd : decide ((0 : Int) < (k : Int)) = false := decide_eq_false (by omega)
        have hdN : decide (0 < k) = false := decide_eq_false (by omega)
        clear hs h0
        go_wp2_with fail
        refine (append16_any w.heap.size _ x hx _ _ _ (pow6_below hp hb) hown hb.size (by omega)).mono ?_
        rintro e w1 ⟨v1, rfl, hown1, hb1⟩
        replace hb1 := hb.trans hb1
        have hl : (jn g (k + 1)).length = (jn g k).length + (hexT x).length := by rw [HN.out, List.length_append]
        rw [← HN.out, ← hl] at hown1
        go_wp2
        go_roundw
        case rel => exact ⟨k + 1, by omega, by go_num, hown1, hb1⟩
        case measure => simp [intOf]; omega
      · have HN : Hid (jn g (k + 1) = (jn g k ++ [58]) ++ hexT x) := by show _ = _; rw [hs, if_neg h0, List.append_assoc]
        have hd : decide ((0 : Int) < (k : Int)) = true := decide_eq_true (by omega)
        have hdN : decide (0 < k) = true := decide_eq_true (by omega)
        clear hs h0
        go_wp2_with (at_builtin; refine wpList_app_one wr rfl _ _ 40 rfl w.heap.size 5 i5 (.int .u8 0) 1 tyBs hi5 hz0 hz1 hz2 rfl _ (by exact rfl) _ _ _ (by exact rfl) hown (by exact rfl) (by unfold maxLen; omega) (by omega) hb (Nat.le_refl _) ?_; intro v2 w2 hown2 hb2 hgr)
        rw [show (jn g k).map bv ++ [Value.int .u8 58] = (jn g k ++ [58]).map bv by rw [List.map_append]; rfl] at hown2
        go_wp2_with fail
        refine (append16_any w.heap.size _ x hx _ _ _ (pow6_below hp hb2) hown2 hb2.size (by omega)).mono ?_
        rintro e w1 ⟨v1, rfl, hown1, hb1⟩
        replace hb1 := hb2.trans hb1
        have hl : (jn g (k + 1)).length = (jn g k).length + 1 + (hexT x).length := by rw [HN.out, List.length_append, List.length_append]; rfl
        rw [← HN.out, ← hl] at hown1
        go_wp2
        go_roundw
        case rel => exact ⟨k + 1, by omega, by go_num, hown1, hb1⟩
        case measure => simp [intOf]; omega
    · obtain rfl : k = n := by omega
      have hconv := str_owned wr _ _ _ _ hown
      rw [HF.out] at hconv
      go_wp2
      go_ret
      exact ⟨rfl, hb⟩
end

section
open Go.RowKit
/-- n groups from f on cleared. -/
def clr (a : List Nat) (f n : Nat) : List Nat := a.take f ++ (zerosN n ++ a.drop (f + n))
theorem clr_length (a : List Nat) (f n : Nat) (h : f + n ≤ a.length) : (clr a f n).length = a.length := by
  unfold clr zerosN
  simp
  omega
theorem clr_iff (a : List Nat) (f n : Nat) (h : f + n ≤ a.length) : clr a f n = a ↔ n ≤ zrun (a.drop f) := by
  have hsp : a = a.take f ++ ((a.drop f).take n ++ (a.drop f).drop n) := by rw [List.take_append_drop, List.take_append_drop]
  have hlen : ((a.drop f).take n).length = n := by simp; omega
  have h1 : clr a f n = a ↔ (a.drop f).take n = zerosN n := by
    unfold clr
    rw [← List.drop_drop]
    constructor
    · intro e
      conv at e => rhs; rw [hsp]
      have := List.append_cancel_left e
      exact (List.append_inj this (by simp [zerosN]; omega)).1.symm
    · intro e
      conv => rhs; rw [hsp, e]
  rw [h1]
  generalize a.drop f = b at hlen ⊢
  clear h1 hsp
  constructor
  · intro e
    have : ∀ (b : List Nat) (n : Nat), b.take n = zerosN n → n ≤ zrun b := by
      intro b
      induction b with
      | nil => intro n e; cases n with
        | zero => exact Nat.zero_le _
        | succ n => simp [zerosN, List.replicate_succ] at e
      | cons x r ih =>
        intro n e
        cases n with
        | zero => exact Nat.zero_le _
        | succ n =>
          simp only [zerosN, List.replicate_succ, List.take_succ_cons, List.cons.injEq] at e
          have h2 := ih n e.2
          unfold zrun at h2 ⊢
          rw [List.takeWhile_cons, if_pos (by simp [e.1])]
          simp only [List.length_cons]
          omega
    exact this b n e
  · intro hle
    have h2 := zrun_zero b
    have h3 : b.take n = (b.take (zrun b)).take n := by rw [List.take_take, Nat.min_eq_left hle]
    rw [h3, h2]
    unfold zerosN
    rw [List.take_replicate, Nat.min_eq_left hle]
/-- Not one run of two. -/
theorem best_no (a : List Nat) (h : ∀ f, zrun (a.drop f) ≤ 1) : ∀ k, bestUpto a k = (-1, 1)
  | 0 => rfl
  | k + 1 => by
    rw [bestUpto_succ, best_no a h k]
    unfold bestStep
    have := h k
    rw [if_neg (by omega)]
/-- The first one of the longest. -/
theorem best_yes (a : List Nat) (i L : Nat) (h2 : 2 ≤ L) (hi : zrun (a.drop i) = L) (hb : ∀ f, f < i → zrun (a.drop f) < L) (ha : ∀ f, zrun (a.drop f) ≤ L) :
    ∀ k, (k ≤ i → (bestUpto a k).2 < L) ∧ (i < k → bestUpto a k = ((i : Int), L))
  | 0 => ⟨fun _ => by show 1 < L; omega, fun h => by omega⟩
  | k + 1 => by
    have ih := best_yes a i L h2 hi hb ha k
    rw [bestUpto_succ]
    unfold bestStep
    refine ⟨fun hk => ?_, fun hk => ?_⟩
    · split
      · exact hb k (by omega)
      · exact ih.1 (by omega)
    · by_cases hki : k = i
      · subst hki
        rw [hi, if_pos (ih.1 (Nat.le_refl _))]
      · rw [ih.2 (by omega), if_neg (by have := ha k; simp only; omega)]
/-- All runs that are longer than L were tried. -/
def Tried (a : List Nat) (L : Nat) : Prop := ∀ n f, L < n → f + n ≤ 8 → clr a f n ≠ a
theorem tried_all (a : List Nat) : Tried a 8 := fun n f h h2 => by omega
theorem tried_next {a : List Nat} {L : Nat} (h : Tried a L) (hn : ∀ f, f + L ≤ 8 → clr a f L ≠ a) (h0 : 0 < L) : Tried a (L - 1) := by
  intro n f h1 h2
  by_cases e : n = L
  · subst e; exact hn f h2
  · exact h n f (by omega) h2
theorem tried_zrun {a : List Nat} (ha : a.length = 8) {L : Nat} (h : Tried a L) (f : Nat) : zrun (a.drop f) ≤ L := by
  by_cases hc : L < zrun (a.drop f)
  · have h1 := zrun_le (a.drop f)
    rw [List.length_drop] at h1
    exact absurd ((clr_iff a f _ (by omega)).2 (Nat.le_refl _)) (h _ f hc (by omega))
  · omega
theorem tried_none {a : List Nat} (ha : a.length = 8) (h : Tried a 1) : bestUpto a 8 = (-1, 1) := best_no a (tried_zrun ha h) 8
theorem tried_some {a : List Nat} (ha : a.length = 8) {L i : Nat} (h2 : 2 ≤ L) (h : Tried a L) (hb : ∀ f, f < i → clr a f L ≠ a) (hi : i + L ≤ 8) (hc : clr a i L = a) : bestUpto a 8 = ((i : Int), L) := by
  have h3 := (clr_iff a i L (by omega)).1 hc
  refine (best_yes a i L h2 (by have := tried_zrun ha h i; omega) (fun f hf => ?_) (tried_zrun ha h) 8).2 (by omega)
  by_cases hq : L ≤ zrun (a.drop f)
  · exact absurd ((clr_iff a f L (by omega)).2 hq) (hb f hf)
  · omega
theorem zeroU16 : ∀ w, (zeroValue 24).run Tryz.prog w = .ok (.int .u16 0) w := by
  intro w
  cases hi : Tryz.prog.info? 24 with
  | none => have := infoU16; rw [hi] at this; cases this
  | some i =>
    have := infoU16
    rw [hi] at this
    simp only [Option.map_some, Option.some.injEq, Prod.mk.injEq] at this
    simp [zeroValue, typeInfo, hi, this.1]
theorem zero_cells (n : Nat) : (Builtin.zeroCells (Value.int .u16 0).cells n).toList = uv (zerosN n) := by
  have h : (Value.int .u16 0).cells = #[.int .u16 0] := rfl
  rw [h]
  apply List.ext_getElem
  · simp [Builtin.zeroCells, uv, zerosN]
  · intro i h1 h2
    simp [Builtin.zeroCells, uv, zerosN, Nat.mod_one]
/-- clear(a[f:f+n]) of an array of eight groups. -/
theorem wpList_clear_a8 (w : World) {ops : Array Oper} {rest : List Oper} {o : Oper} {a : Act} {Q : Exit → Act → World → Prop} (hg : o.guard = none) (hd : o.dst = none) (x : Operand)
    (hop : o.op = .call { callee := .builtin .clear, args := #[x], argTypes := #[99] }) (g f n cap : Nat) (hx : a.eval x = .slice (some ⟨g, f, none⟩) n cap) (C : List Nat) (hrow : RowA w g C) (hC : C.length = 8) (h8 : f + n ≤ 8) (h0 : 0 < n)
    (h : ∀ w', RowA w' g (clr C f n) → w.grownBy w' (some g) → wpList Tryz.prog ops Q rest a w') : wpList Tryz.prog ops Q (o :: rest) a w := by
  refine wpList_plain hg fun K hK => ?_
  obtain ⟨m, rfl⟩ : ∃ m, n = m + 1 := ⟨n - 1, by omega⟩
  have hsz : (av C).size = 8 := by rw [av_size, hC]
  have hst := run_storeCells_at Tryz.prog g f 25 (uv (zerosN (m + 1))) 0 (av C) w hrow (by rw [uv_length, hsz]; simp [zerosN]; omega) (uv_one _)
  have hval : ((av C).toList.take (f + 0) ++ uv (zerosN (m + 1)) ++ (av C).toList.drop (f + 0 + (uv (zerosN (m + 1))).length)).toArray = av (clr C f (m + 1)) := by
    have hl : (uv (zerosN (m + 1))).length = m + 1 := by rw [uv_length]; simp [zerosN]
    rw [hl]
    simp [av, uv, clr, List.map_take, List.map_drop]
  rw [hval] at hst
  have hrun : (Builtin.clear_ #[99] o.type #[.slice (some ⟨g, f, none⟩) (m + 1) cap]).run Tryz.prog w = .ok (.tuple #[]) (w.setRow g (av (clr C f (m + 1)))) := by
    simp [Builtin.clear_, run_underlying tyU16s, zero_cells, hst, Result.andThen]
  have : wpList Tryz.prog ops Q rest (a.put o.dst (.tuple #[])) (w.setRow g (av (clr C f (m + 1)))) := by
    rw [hd]
    exact h _ (setRow_heap w g (av C) _ _ _ hrow) (grown_setRow w g _)
  unfold Oper.wp
  simp [execOp, hop, resolve, invoke, builtin, hx, hrun, Result.andThen]
  exact hK _ _ this
/-- The place of the gap. -/
def lzS (a : List Nat) : Nat := if (bestUpto a 8).1 < 0 then 0 else (bestUpto a 8).1.toNat
def lzE (a : List Nat) : Nat := if (bestUpto a 8).1 < 0 then 0 else (bestUpto a 8).1.toNat + (bestUpto a 8).2
set_option maxRecDepth 20000 in
set_option maxHeartbeats 4000000 in
theorem long_any (a : List Nat) (ha : a.length = 8) (w : World) :
    Calls Tryz.prog 125 #[.agg (av a)] w fun e w' => e = .returned (.tuple #[.int .i64 (lzS a : Nat), .int .i64 (lzE a : Nat)]) ∧ Below w.heap.size w w' := by
  have HAL := Lib.hid ha
  go_enter Tryz.func125, Tryz.ntmps125
  go_wp2_with (refine wpList_box_arr _ rfl 1 rfl _ _ rfl _ (av a) (by exact rfl) (by exact rfl) ?_; intro W1 ga hga hla hA hG)
  have hb1 : Below w.heap.size w W1 := below_row0 (Below.refl w.heap.size w) hG (Nat.le_refl _)
  clear hG
  go_loopw [4] (fun i wr => ∃ (L : Nat) (z : Int), i = .int .i64 z ∧ Hid (z = (L : Int)) ∧ 1 ≤ z ∧ z ≤ 8 ∧ Hid (Tried a L) ∧ RowA wr ga a ∧ Below w.heap.size w wr) (fun i _ => (intOf i).toNat)
  case atStart => exact ⟨8, 8, rfl, Lib.hid rfl, by omega, by omega, Lib.hid (tried_all a), hA, hb1⟩
  case round =>
    obtain ⟨L, z, rfl, HZ, hz1, hz8, HTR, hrow, hb⟩ := hrel
    by_cases h2 : 2 ≤ z
    · have hd : decide (z ≥ 2) = true := decide_eq_true h2
      have hL2 : 2 ≤ L := by have := HZ.out; omega
      have HL2 := Lib.hid hL2
      clear hL2
      go_wp2
      go_loopw [14] (fun i wq => ∃ k : Nat, i = .int .i64 k ∧ (k : Int) ≤ 8 - z + 1 ∧ Hid (∀ f, f < k → clr a f L ≠ a) ∧ RowA wq ga a ∧ Below w.heap.size w wq) (fun i _ => 9 - (intOf i).toNat)
      case atStart => exact ⟨0, rfl, by omega, Lib.hid (fun f hf => by omega), hrow, hb⟩
      case round =>
        obtain ⟨k, rfl, hk, HN, hrow2, hb2⟩ := hrel
        by_cases hlt : (k : Int) < 8 - z + 1
        · have hd2 : decide ((k : Int) < 8 - z + 1) = true := decide_eq_true hlt
          have hkL : k + L ≤ 8 := by have := HZ.out; omega
          have hL0 : 0 < L := by have := HL2.out; omega
          have hsl := fun g W => run_slice_arr (P := Tryz.prog) 25 24 8 g k (k + L) tyA8 sizeU16 (some (.int .i64 (k : Int))) (some (.int .i64 ((k : Int) + z))) (.inl rfl) (.inl (by rw [HZ.out, Int.natCast_add])) (by omega) hkL W
          simp only [if_neg (show ¬ 8 = k by have := HL2.out; omega), show k + L - k = L by omega] at hsl
          obtain ⟨E, hE⟩ : ∃ E, E = clr a k L := ⟨_, rfl⟩
          have hEl : E.length = 8 := by rw [hE, clr_length a k L (by rw [HAL.out]; exact hkL), HAL.out]
          have heq := eq_av E a hEl HAL.out
          have HE := Lib.hid hE
          have HK8 := Lib.hid hkL
          have HL0 := Lib.hid hL0
          clear hE hkL hL0
          by_cases hc : E = a
          · have hdc : decide (E = a) = true := decide_eq_true hc
            rw [hdc] at heq
            have HS : Hid (lzS a = k ∧ lzE a = k + L) := by
              have := tried_some HAL.out HL2.out HTR.out HN.out HK8.out (HE.out ▸ hc)
              show _ ∧ _
              unfold lzS lzE
              rw [this, if_neg (by simp only; omega), if_neg (by simp only; omega)]
              exact ⟨by simp, by simp⟩
            clear hdc hc
            go_wp2_with (first
              | (refine wpList_load_arr _ rfl _ _ rfl ga (by exact rfl) _ (av a) hrow2 8 _ tyA8 (sizeA a HAL.out) ?_)
              | (refine wpList_alloc_arr _ rfl 6 rfl _ rfl _ zeroA8 ?_; intro W4 gc hgc hlc hC hGc; have hrow4 := hrow2.grown0 hGc; have hb4 := below_row0 hb2 hGc (Nat.le_refl _); have hne : ga ≠ gc := (by have := hrow2.lt; omega); have hgw : w.heap.size ≤ gc := (by have := hb2.size; omega))
              | (refine wpList_store_arr _ rfl rfl _ _ _ rfl gc (by exact rfl) (av a) (by exact rfl) _ _ hC (sizeA a HAL.out) (by rw [av_size, av_size, HAL.out]; rfl) (av_one a) ?_; intro W5 hC5 hG5; have hrow5 := hrow4.grown hG5 hne; have hb5 := below_row hb4 hG5 (Nat.le_refl _) hgw)
              | (refine wpList_clear_a8 _ rfl rfl _ rfl gc k L (8 - k) (by exact rfl) a hC5 HAL.out HK8.out HL0.out ?_; intro W6 hC6 hG6; have hrow6 := hrow5.grown hG6 hne; have hb6 := below_row hb5 hG6 (Nat.le_refl _) hgw; rw [← HE.out] at hC6)
              | (refine wpList_load_arr _ rfl _ _ rfl gc (by exact rfl) _ (av E) hC6 8 _ tyA8 (sizeA E hEl) ?_)
              | (refine wpList_load_arr _ rfl _ _ rfl ga (by exact rfl) _ (av a) hrow6 8 _ tyA8 (sizeA a HAL.out) ?_))
            go_ret2
            refine ⟨?_, hb6⟩
            rw [HS.out.1, HS.out.2]
            rw [show ((k + L : Nat) : Int) = (k : Int) + z by rw [HZ.out, Int.natCast_add]]
            rfl
          · have hdc : decide (E = a) = false := decide_eq_false hc
            rw [hdc] at heq
            have HN2 : Hid (∀ f, f < k + 1 → clr a f L ≠ a) := by
              show ∀ f, _
              intro f hf
              by_cases e : f = k
              · subst e; rw [← HE.out]; exact hc
              · exact HN.out f (by omega)
            clear hdc hc
            go_wp2_with (first
              | (refine wpList_load_arr _ rfl _ _ rfl ga (by exact rfl) _ (av a) hrow2 8 _ tyA8 (sizeA a HAL.out) ?_)
              | (refine wpList_alloc_arr _ rfl 6 rfl _ rfl _ zeroA8 ?_; intro W4 gc hgc hlc hC hGc; have hrow4 := hrow2.grown0 hGc; have hb4 := below_row0 hb2 hGc (Nat.le_refl _); have hne : ga ≠ gc := (by have := hrow2.lt; omega); have hgw : w.heap.size ≤ gc := (by have := hb2.size; omega))
              | (refine wpList_store_arr _ rfl rfl _ _ _ rfl gc (by exact rfl) (av a) (by exact rfl) _ _ hC (sizeA a HAL.out) (by rw [av_size, av_size, HAL.out]; rfl) (av_one a) ?_; intro W5 hC5 hG5; have hrow5 := hrow4.grown hG5 hne; have hb5 := below_row hb4 hG5 (Nat.le_refl _) hgw)
              | (refine wpList_clear_a8 _ rfl rfl _ rfl gc k L (8 - k) (by exact rfl) a hC5 HAL.out HK8.out HL0.out ?_; intro W6 hC6 hG6; have hrow6 := hrow5.grown hG6 hne; have hb6 := below_row hb5 hG6 (Nat.le_refl _) hgw; rw [← HE.out] at hC6)
              | (refine wpList_load_arr _ rfl _ _ rfl gc (by exact rfl) _ (av E) hC6 8 _ tyA8 (sizeA E hEl) ?_)
              | (refine wpList_load_arr _ rfl _ _ rfl ga (by exact rfl) _ (av a) hrow6 8 _ tyA8 (sizeA a HAL.out) ?_))
            go_roundw
            case rel => exact ⟨k + 1, by go_num, by omega, HN2, hrow6, hb6⟩
            case measure => simp [intOf]; omega
        · have hd2 : decide ((k : Int) < 8 - z + 1) = false := decide_eq_false hlt
          have HTR2 : Hid (Tried a (L - 1)) := by
            refine Lib.hid (tried_next HTR.out (fun f hf => HN.out f ?_) (by have := HL2.out; omega))
            have := HZ.out
            omega
          go_wp2
          go_roundw
          case rel => exact ⟨L - 1, z - 1, by first | rfl | go_num, Lib.hid (by have := HZ.out; have := HL2.out; omega), by omega, by omega, HTR2, hrow2, hb2⟩
          case measure => simp [intOf]; omega
    · have hd : decide (z ≥ 2) = false := decide_eq_false h2
      have HS : Hid (lzS a = 0 ∧ lzE a = 0) := by
        have hL : L = 1 := by have := HZ.out; omega
        have := tried_none HAL.out (hL ▸ HTR.out)
        show _ ∧ _
        unfold lzS lzE
        rw [this, if_pos (by decide), if_pos (by decide)]
        exact ⟨rfl, rfl⟩
      go_wp2
      go_ret2
      refine ⟨?_, hb⟩
      rw [HS.out.1, HS.out.2]
      rfl
end

section
open Go.RowKit
theorem bs_add6 (l m : List UInt8) : bs l ++ bs m = bs (l ++ m) := ls_inj (by rw [ls_append, ls_bs, ls_bs, ls_bs])
/-- A part of an array of eight groups. -/
theorem a8_part {w : World} {g : Nat} {C : List Nat} (h : RowA w g C) (hC : C.length = 8) (l m : Nat) (hm : l + m ≤ 8) {B : Nat} (hB : g < B) (A : Option Addr) (hA : 0 < m → A = some ⟨g, l, none⟩) : Has w B A m (uv ((C.drop l).take m)) := by
  refine ⟨by rw [uv_length, List.length_take, List.length_drop, hC]; omega, fun h0 => ⟨g, l, hA h0, hB, fun j hj => ?_⟩⟩
  have hj' : j < m := by
    rw [uv_length, List.length_take] at hj
    omega
  rw [h.cell (k := l + j) (by omega)]
  simp [uv, List.getD_eq_getElem?_getD, List.getElem?_eq_getElem (show l + j < C.length by omega)]
theorem lz_facts (a : List Nat) (ha : a.length = 8) : (lzS a = lzE a ∧ lzS a = 0 ∧ fmt6 a = joinL 58 (a.map hexT)) ∨ (lzS a < lzE a ∧ lzE a ≤ 8 ∧ fmt6 a = joinL 58 ((a.take (lzS a)).map hexT) ++ ([58, 58] ++ joinL 58 ((a.drop (lzE a)).map hexT))) := by
  rcases best_is a 8 with e | ⟨i, m, hi, e, h2, hm⟩
  · left
    unfold lzS lzE fmt6 txt6
    rw [e]
    refine ⟨rfl, rfl, ?_⟩
    rw [if_pos (.inl (by decide)), List.take_of_length_le (by omega)]
  · right
    have hz := zrun_le (a.drop i)
    rw [List.length_drop] at hz
    unfold lzS lzE fmt6 txt6
    rw [e]
    simp only
    rw [if_neg (by omega), if_neg (by omega), if_neg (by omega), List.take_of_length_le (show a.length ≤ 8 by omega)]
    exact ⟨by omega, by omega, rfl⟩
set_option maxRecDepth 20000 in
set_option maxHeartbeats 4000000 in
theorem pFmt6 : P6Fmt 96 := by
  intro a ha hg w hp
  have HAL := Lib.hid ha
  have HGG := Lib.hid hg
  have c0 := fun W => long_any a ha W
  have hfa := lz_facts a ha
  generalize hS : lzS a = S at *
  generalize hE : lzE a = E at *
  generalize fmt6 a = F at *
  clear hS hE
  rcases hfa with ⟨h1, h2, hF⟩ | ⟨h1, h2, hF⟩
  · subst h1
    subst h2
    have HF := Lib.hid hF
    clear hF
    go_enter Tryz.func96, Tryz.ntmps96
    go_wp2_with (first
      | (refine wpList_box_arr _ rfl 1 rfl _ _ rfl _ (av a) (by exact rfl) (by exact rfl) ?_; intro W1 ga hga hla hA hG; have hb1 := below_row0 (Below.refl w.heap.size w) hG (Nat.le_refl _))
      | (refine wpList_load_arr _ rfl _ _ rfl ga (by exact rfl) _ (av a) hA 8 _ tyA8 (sizeA a HAL.out) ?_))
    refine (c0 _).mono ?_
    rintro e w2 ⟨rfl, hb2⟩
    have hA2 : RowA w2 ga a := Row.below hA hb2 hla
    replace hb2 := hb1.trans (hb2.mono hb1.size)
    have hsl := fun W => run_slice_arr (P := Tryz.prog) 25 24 8 ga 0 8 tyA8 sizeU16 none none (.inr ⟨rfl, rfl⟩) (.inr ⟨rfl, rfl⟩) (by omega) (by omega) W
    simp only [if_neg (show ¬ 8 = 0 by omega), Nat.sub_zero] at hsl
    have hh := a8_part hA2 HAL.out 0 8 (by omega) hA2.lt (some ⟨ga, 0, none⟩) (fun _ => rfl)
    rw [List.drop_zero, List.take_of_length_le (by rw [HAL.out]; exact Nat.le_refl _)] at hh
    have hp2 := pow6_below hp hb2
    clear hG hA hA2
    go_wp2_with fail
    refine (joined_any _ 8 8 a HGG.out (by omega) w2 hp2 hh).mono ?_
    rintro e w3 ⟨rfl, hb3⟩
    replace hb3 := hb2.trans (hb3.mono hb2.size)
    go_wp2
    go_ret
    exact ⟨by rw [HF.out]; rfl, hb3⟩
  · obtain ⟨J1, hJ1⟩ : ∃ J, J = bs (joinL 58 ((a.take S).map hexT)) := ⟨_, rfl⟩
    obtain ⟨J2, hJ2⟩ : ∃ J, J = bs (joinL 58 ((a.drop E).map hexT)) := ⟨_, rfl⟩
    have hz1 : J1.size ≤ 40 := by
      rw [hJ1, bs_size]
      have := join_len (a.take S) (hg.take S)
      rw [List.length_take] at this
      omega
    have hz2 : J2.size ≤ 40 := by
      rw [hJ2, bs_size]
      have := join_len (a.drop E) (hg.drop E)
      rw [List.length_drop] at this
      omega
    have HF : Hid (bs F = (J1 ++ (⟨#[58, 58]⟩ : ByteArray)) ++ J2) := by
      show _ = _
      rw [hF, hJ1, hJ2, show (⟨#[58, 58]⟩ : ByteArray) = bs [58, 58] from rfl, bs_add6, bs_add6, List.append_assoc]
    have k1 : ¬ 9223372036854775807 < J1.size + 2 := by omega
    have k2 : ¬ 9223372036854775807 < J1.size + (⟨#[58, 58]⟩ : ByteArray).size := by rw [show (⟨#[58, 58]⟩ : ByteArray).size = 2 from rfl]; omega
    have k3 : ¬ 9223372036854775807 < J1.size + 2 + J2.size := by omega
    have k4 : ¬ 9223372036854775807 < (J1 ++ (⟨#[58, 58]⟩ : ByteArray)).size + J2.size := by
      rw [ByteArray.size_append, show (⟨#[58, 58]⟩ : ByteArray).size = 2 from rfl]; omega
    have hne : ((S : Int) == (E : Int)) = false := by rw [beq_eq_false_iff_ne]; omega
    have hJa := fun (A : Option Addr) (W : World) (h1 : Pow6 W) (h2 : Has W W.heap.size A S (uv (a.take S))) => joined_any A S 8 (a.take S) (HGG.out.take S) (by omega) W h1 h2
    have hJb := fun (A : Option Addr) (W : World) (h1 : Pow6 W) (h2 : Has W W.heap.size A (8 - E) (uv (a.drop E))) => joined_any A (8 - E) (8 - E) (a.drop E) (HGG.out.drop E) (by omega) W h1 h2
    rw [← hJ1] at hJa
    rw [← hJ2] at hJb
    have HSE := Lib.hid h1
    have HE8 := Lib.hid h2
    clear hF hJ1 hJ2 hg hz1 hz2
    go_enter Tryz.func96, Tryz.ntmps96
    go_wp2_with (first
      | (refine wpList_box_arr _ rfl 1 rfl _ _ rfl _ (av a) (by exact rfl) (by exact rfl) ?_; intro W1 ga hga hla hA hG; have hb1 := below_row0 (Below.refl w.heap.size w) hG (Nat.le_refl _))
      | (refine wpList_load_arr _ rfl _ _ rfl ga (by exact rfl) _ (av a) hA 8 _ tyA8 (sizeA a HAL.out) ?_))
    refine (c0 _).mono ?_
    rintro e w2 ⟨rfl, hb2⟩
    have hA2 : RowA w2 ga a := Row.below hA hb2 hla
    replace hb2 := hb1.trans (hb2.mono hb1.size)
    have hs1 := fun W => run_slice_arr (P := Tryz.prog) 25 24 8 ga 0 S tyA8 sizeU16 none (some (.int .i64 (S : Int))) (.inr ⟨rfl, rfl⟩) (.inl rfl) (by omega) (by omega) W
    have hs2 := fun W => run_slice_arr (P := Tryz.prog) 25 24 8 ga E 8 tyA8 sizeU16 (some (.int .i64 (E : Int))) none (.inl rfl) (.inr ⟨rfl, rfl⟩) (by omega) (by omega) W
    simp only [if_neg (show ¬ 8 = 0 by omega), Nat.sub_zero] at hs1
    obtain ⟨A2, hA2e, hA20⟩ : ∃ A : Option Addr, A = some (if 8 = E then (⟨ga, 0, none⟩ : Addr) else ⟨ga, E, none⟩) ∧ (0 < 8 - E → A = some ⟨ga, E, none⟩) := ⟨_, rfl, fun h => by rw [if_neg (by omega)]⟩
    rw [← hA2e] at hs2
    have cL : ∀ W, Below w2.heap.size w2 W → Calls Tryz.prog 126 #[.slice (some ⟨ga, 0, none⟩) S 8] W fun e w' => e = .returned (.string J1) ∧ Below W.heap.size W w' := by
      intro W hbW
      have hAW : RowA W ga a := Row.below hA2 hbW hA2.lt
      have hh := a8_part hAW HAL.out 0 S (by have := HSE.out; have := HE8.out; omega) hAW.lt (some ⟨ga, 0, none⟩) (fun _ => rfl)
      rw [List.drop_zero] at hh
      exact hJa _ W (pow6_below (pow6_below hp hb2) hbW) hh
    have cR : ∀ W, Below w2.heap.size w2 W → Calls Tryz.prog 126 #[.slice A2 (8 - E) (8 - E)] W fun e w' => e = .returned (.string J2) ∧ Below W.heap.size W w' := by
      intro W hbW
      have hAW : RowA W ga a := Row.below hA2 hbW hA2.lt
      have hh := a8_part hAW HAL.out E (8 - E) (by have := HE8.out; omega) hAW.lt A2 hA20
      rw [List.take_of_length_le (by rw [List.length_drop, HAL.out]; exact Nat.le_refl _)] at hh
      exact hJb _ W (pow6_below (pow6_below hp hb2) hbW) hh
    have HB2 := Lib.hid hb2
    have hbX : Below w2.heap.size w2 w2.drew := (Below.refl _ _).drew
    have hcell := hA2.cell (k := 0) (by rw [HAL.out]; decide)
    clear hG hA hA2 hb2 hA2e hA20 hJa hJb h1 h2 c0 hb1
    go_wp2_with fail
    have htrue : True := trivial
    go_region_held3 (fun _ => True) (first | exact trivial | go_keep)
      (first
        | (go_at_call 126; (first | (with_reducible refine (cL _ hbX).mono ?_) | (with_reducible refine (cR _ hbX).mono ?_)); rintro r wA ⟨rfl, hbA'⟩; have hbA := hbX.trans (hbA'.mono hbX.size); clear hbX; have hbX := hbA))
    all_goals (go_wp2_with fail)
    all_goals go_ret
    all_goals exact ⟨by rw [HF.out]; rfl, HB2.out.trans (hbX.mono HB2.out.size)⟩
end

section
open Go.RowKit
theorem ne_empty {s : ByteArray} (h : ¬ s.size = 0) : (ls s).isEmpty = false := by
  cases hl : ls s with
  | nil => exact absurd (by rw [← ls_length, hl]; rfl) h
  | cons _ _ => rfl
theorem u8_45 {c : UInt8} : c = 45 ↔ c.toNat = 45 := by
  constructor
  · rintro rfl; rfl
  · intro h; exact UInt8.toNat_inj.1 h
theorem okN_yes (y : Nat) : okN y = true ↔ (97 ≤ y ∧ y ≤ 122) ∨ (48 ≤ y ∧ y ≤ 57) ∨ y = 45 ∨ y = 95 := by
  unfold okN
  simp only [Bool.or_eq_true, Bool.and_eq_true, decide_eq_true_eq, beq_iff_eq]
  omega
def okK (l : List UInt8) (k : Nat) : Bool := (l.take k).all (fun b => okN b.toNat)
theorem okK_succ (l : List UInt8) (k : Nat) (h : k < l.length) : okK l (k + 1) = (okK l k && okN (l[k]).toNat) := by
  unfold okK
  rw [List.take_succ_eq_append_getElem h, List.all_append]
  simp
end

end Go.Proofs.YtdfacgncphmcoaaGreatDoor
