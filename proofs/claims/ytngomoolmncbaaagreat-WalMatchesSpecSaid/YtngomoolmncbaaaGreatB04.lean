/-
Contracts of the reference's Fixed and DecodeFixed (layer 3), as the statements of layer 2 use them.
make([]byte, 0, n); a part of a slice. No function of the program.
What every walk of a statement ends in. No program.
Contracts of the small functions of package frame: number, appendNumber, Size; parts of slices of bytes.
Contracts of Encode, of package frame and of its reference.
Contract of Decode of package frame.
-/
import Derived.Test.YtngomoolmncbaaaGreatB03
import Derived.Laws.MakeOwn
import Derived.Test.YtngomoolmncbaaaGreatB00
import Derived.Test.YtngomoolmncbaaaGreatB01
import Derived.Laws.CopyOwn
namespace Go.Proofs.YtngomoolmncbaaaGreat
section
open Go.RowKit

theorem byte_of (c : W32) (d : Nat) : (((UInt8.ofNat (c.toNat / d)).toNat : Nat) : Int) = nv c / (d : Int) % 256 := by
  rw [UInt8.toNat_ofNat']
  unfold nv
  simp
theorem byte_of0 (c : W32) : (((UInt8.ofNat c.toNat).toNat : Nat) : Int) = nv c % 256 := by
  rw [UInt8.toNat_ofNat']
  unfold nv
  simp

set_option maxHeartbeats 1000000 in
theorem fixed_any (s : W32) (w : World) : Calls Tryz.prog 73 #[.int .u32 (nv s)] w fun e w' => (∃ g, e = .returned (.slice (some ⟨g, 0, none⟩) 4 4) ∧ Has w' w'.heap.size (some ⟨g, 0, none⟩) 4 ((fixedB s).map bv)) ∧ Below w.heap.size w w' := by
  have hge := nv_ge s
  have hlt := nv_lt s
  obtain ⟨v0, hv0⟩ : ∃ v, nv s % 256 = v := ⟨_, rfl⟩
  obtain ⟨v1, hv1⟩ : ∃ v, nv s / 256 % 256 = v := ⟨_, rfl⟩
  obtain ⟨v2, hv2⟩ : ∃ v, nv s / 65536 % 256 = v := ⟨_, rfl⟩
  obtain ⟨v3, hv3⟩ : ∃ v, nv s / 16777216 = v := ⟨_, rfl⟩
  have HV := Lib.hid (show (fixedB s).map bv = [.int .u8 v0, .int .u8 v1, .int .u8 v2, .int .u8 v3] by
    rw [← hv0, ← hv1, ← hv2, ← hv3]
    have e1 := byte_of s 256
    have e2 := byte_of s 65536
    have e3 : (((UInt8.ofNat (s.toNat / 16777216)).toNat : Nat) : Int) = nv s / 16777216 := by rw [byte_of s 16777216]; omega
    simp only [fixedB, List.map_cons, List.map_nil, bv_eq, byte_of0, e1, e2, e3]
    rfl)
  go_enter Tryz.func73, Tryz.ntmps73
  go_wp2
  go_ret
  refine ⟨⟨w.heap.size, rfl, ?_⟩, (Below.refl _ _).alloc (Nat.le_refl _) _⟩
  rw [HV.out]
  have hh := Has.laid w 5 #[.int .u8 v0, .int .u8 v1, .int .u8 v2, .int .u8 v3] (0, 0) 4 _ rfl rfl
  exact hh.more (by show w.heap.size + 1 ≤ (w.heap.push _).size; simp)

theorem fixedW_nv (p q r s : UInt8) : nv (fixedW p q r s) = (p.toNat : Int) + (q.toNat : Int) * 256 + (r.toNat : Int) * 65536 + (s.toNat : Int) * 16777216 := by
  unfold nv
  rw [fixedW_toNat]
  omega

set_option maxHeartbeats 1000000 in
theorem decodeFixed_any (A : Option Addr) (cap B : Nat) (p q r s : UInt8) (w : World) (hA : Has w B A 4 ([p, q, r, s].map bv)) :
    Calls Tryz.prog 97 #[.slice A 4 cap] w fun e w' => e = .returned (.tuple #[.int .u32 (nv (fixedW p q r s)), .int .i64 0]) ∧ Below w.heap.size w w' := by
  obtain ⟨b, off, rfl, _, hc⟩ := hA.2 (by decide)
  obtain ⟨y0, hy0⟩ : ∃ v : Int, v = (p.toNat : Int) := ⟨_, rfl⟩
  obtain ⟨y1, hy1⟩ : ∃ v : Int, v = (q.toNat : Int) := ⟨_, rfl⟩
  obtain ⟨y2, hy2⟩ : ∃ v : Int, v = (r.toNat : Int) := ⟨_, rfl⟩
  obtain ⟨y3, hy3⟩ : ∃ v : Int, v = (s.toNat : Int) := ⟨_, rfl⟩
  have hc0 : w.cell? ⟨b, off, none⟩ = some (.int .u8 y0) := by rw [hy0]; exact hc 0 (by simp)
  have hc1 : w.cell? ⟨b, off + 1, none⟩ = some (.int .u8 y1) := by rw [hy1]; exact hc 1 (by simp)
  have hc2 : w.cell? ⟨b, off + 2, none⟩ = some (.int .u8 y2) := by rw [hy2]; exact hc 2 (by simp)
  have hc3 : w.cell? ⟨b, off + 3, none⟩ = some (.int .u8 y3) := by rw [hy3]; exact hc 3 (by simp)
  have hv := fixedW_nv p q r s
  rw [← hy0, ← hy1, ← hy2, ← hy3] at hv
  have HV := Lib.hid hv
  have g0 : 0 ≤ y0 ∧ y0 < 256 := by have := byte_lt p; omega
  have g1 : 0 ≤ y1 ∧ y1 < 256 := by have := byte_lt q; omega
  have g2 : 0 ≤ y2 ∧ y2 < 256 := by have := byte_lt r; omega
  have g3 : 0 ≤ y3 ∧ y3 < 256 := by have := byte_lt s; omega
  obtain ⟨g00, g01⟩ := g0
  obtain ⟨g10, g11⟩ := g1
  obtain ⟨g20, g21⟩ := g2
  obtain ⟨g30, g31⟩ := g3
  clear hv hy0 hy1 hy2 hy3 hc hA
  go_enter Tryz.func97, Tryz.ntmps97
  go_wp2
  go_quiet (fail)
  go_wp2
  go_ret2
  exact ⟨by rw [HV.out]; rfl, below_drewN (Below.refl _ _) _⟩
end

section
open Go.RowKit

/-- make([]byte, 0, c). -/
theorem wpList_make_room (w : World) {ops : Array Oper} {rest : List Oper} {o : Oper} {a : Act} {Q : Exit → Act → World → Prop}
    (hg : o.guard = none) (l c : Operand) (hop : o.op = Op.makeSlice 37 l c) (n : Int) (hl : a.eval l = .int .i64 0) (hc : a.eval c = .int .i64 n) (h0 : 0 ≤ n) (hn : n ≤ 4000000000)
    (h : ∀ v' w', w'.ownsRow w.heap.size 5 1 v' 0 [] → Below w.heap.size w w' → wpList Tryz.prog ops Q rest (a.put o.dst v') w') : wpList Tryz.prog ops Q (o :: rest) a w := by
  refine wpList_plain hg fun K hK' => ?_
  obtain ⟨i, hi, hz0, hz1, hz2⟩ := info_parts infoU8
  have hrun := run_make (P := Tryz.prog) w 37 5 i (.int .u8 0) tyBs hi hz0 .i64 .i64 0 n (by omega) (by omega) (by rw [hz2]; omega) (by omega)
  rw [hz1, Nat.mul_one] at hrun
  have hm : madeCells (Value.int .u8 0).cells n.toNat = zeros n.toNat := made_u8 _
  rw [hm] at hrun
  have := h (.slice (some ⟨w.heap.size, 0, none⟩) 0 n.toNat) (w.alloc (.cells (zeros n.toNat) 5))
    ⟨rfl, .inr ⟨w.heap.size, n.toNat, zeros n.toNat, rfl, Nat.le_refl _, by show (w.heap.push _)[w.heap.size]? = _; simp, Nat.zero_le _, by unfold maxLen; omega, by simp [zeros], by simp⟩⟩
    ((Below.refl _ _).alloc (Nat.le_refl _) _)
  unfold Oper.wp
  simp [execOp, hop, hl, hc, hrun, Result.andThen]
  exact hK' _ _ this

/-- A part of a slice. -/
theorem Has.part {w : World} {B n b off : Nat} {xs : List Value} (h : Has w B (some ⟨b, off, none⟩) n xs) (s k : Nat) (hs : s + k ≤ n) : Has w B (some ⟨b, off + s, none⟩) k ((xs.drop s).take k) :=
  ⟨by have := h.1; simp; omega, fun h0 => by
    obtain ⟨b', off', e, hb, hc⟩ := h.2 (by omega)
    injection e with e
    injection e with e1 e2 _
    subst e1 e2
    refine ⟨b, off + s, rfl, hb, fun j hj => ?_⟩
    have hj' : j < k := by simp at hj; omega
    have := hc (s + j) (by have := h.1; omega)
    rw [← Nat.add_assoc] at this
    rw [this]
    simp⟩
end

section
open Go.RowKit

def Yes (w : World) (e : Ending) (w' : World) : Prop := e = .returned (.bool true) ∧ Below w.heap.size w w'
theorem yes_of {w w1 w' : World} {e : Ending} (hb : Below w.heap.size w w1) (h : Yes w1 e w') : Yes w e w' := ⟨h.1, hb.trans (h.2.mono hb.size)⟩
end

section
open Go.RowKit

theorem Has.tail8 {w : World} {B n b off : Nat} {l : List UInt8} (h : Has w B (some ⟨b, off, none⟩) n (l.map bv)) (s : Nat) (hs : s ≤ n) : Has w B (some ⟨b, off + s, none⟩) (n - s) ((l.drop s).map bv) := by
  have h1 := h.part s (n - s) (by omega)
  have hl : l.length = n := by simpa using h.1
  rwa [← List.map_drop, ← List.map_take, List.take_of_length_le (by simp; omega)] at h1
theorem Has.sub8 {w : World} {B n b off : Nat} {l : List UInt8} (h : Has w B (some ⟨b, off, none⟩) n (l.map bv)) (s k : Nat) (hs : s + k ≤ n) : Has w B (some ⟨b, off + s, none⟩) k (((l.drop s).take k).map bv) := by
  have h1 := h.part s k hs
  rwa [← List.map_drop, ← List.map_take] at h1
theorem Has.head8 {w : World} {B n : Nat} {A : Option Addr} {l : List UInt8} (h : Has w B A n (l.map bv)) (k : Nat) (hs : k ≤ n) : Has w B A k ((l.take k).map bv) := by
  have h1 := h.take k hs
  rwa [← List.map_take] at h1
theorem cell_bt {w : World} {B n b off : Nat} {l : List UInt8} (h : Has w B (some ⟨b, off, none⟩) n (l.map bv)) (k : Nat) (hk : k < n) : w.cell? ⟨b, off + k, none⟩ = some (.int .u8 ((l.getD k 0).toNat : Int)) := by
  have hl : l.length = n := by simpa using h.1
  obtain ⟨b', off', e, _, hc⟩ := h.at_ hk
  injection e with e
  injection e with e1 e2 _
  subst e1 e2
  rw [hc, List.getElem_map, bv_eq, List.getD_eq_getElem?_getD, List.getElem?_eq_getElem (by omega), Option.getD_some]
theorem or_32 (a b : Int) (k : Nat) (ha0 : 0 ≤ a) (ha : a.toNat < 2 ^ k) (ha2 : a < 4294967296) (hb0 : 0 ≤ b) (hb : b * 2 ^ k < 4294967296) : bits .or .u32 a (b * 2 ^ k) = a + b * 2 ^ k := by
  obtain ⟨m, rfl⟩ := Int.eq_ofNat_of_zero_le ha0
  obtain ⟨n, rfl⟩ := Int.eq_ofNat_of_zero_le hb0
  have hp : (n : Int) * 2 ^ k = ((2 ^ k * n : Nat) : Int) := by push_cast; exact Int.mul_comm _ _
  rw [hp] at hb ⊢
  have hm : m < 2 ^ k := by simpa using ha
  rw [u32_or_nat _ _ (by omega) (by omega), Nat.or_comm, ← Nat.two_pow_add_eq_or_of_lt hm]
  push_cast
  omega
theorem wordB_nv (l : List UInt8) : nv (wordB l) = ((l.getD 0 0).toNat : Int) + ((l.getD 1 0).toNat : Int) * 256 + ((l.getD 2 0).toNat : Int) * 65536 + ((l.getD 3 0).toNat : Int) * 16777216 := fixedW_nv _ _ _ _

set_option maxHeartbeats 1000000 in
theorem number_any (b off len cap B : Nat) (l : List UInt8) (w : World) (hA : Has w B (some ⟨b, off, none⟩) len (l.map bv)) (h4 : 4 ≤ len) :
    Calls Tryz.prog 96 #[.slice (some ⟨b, off, none⟩) len cap] w fun e w' => e = .returned (.int .u32 (nv (wordB l))) ∧ ∃ m, w' = w.drewN m := by
  have c0 : w.cell? ⟨b, off, none⟩ = some (.int .u8 ((l.getD 0 0).toNat : Int)) := cell_bt hA 0 (by omega)
  have c1 : w.cell? ⟨b, off + 1, none⟩ = some (.int .u8 ((l.getD 1 0).toNat : Int)) := cell_bt hA 1 (by omega)
  have c2 : w.cell? ⟨b, off + 2, none⟩ = some (.int .u8 ((l.getD 2 0).toNat : Int)) := cell_bt hA 2 (by omega)
  have c3 : w.cell? ⟨b, off + 3, none⟩ = some (.int .u8 ((l.getD 3 0).toNat : Int)) := cell_bt hA 3 (by omega)
  have hv := wordB_nv l
  have k0 := byte_lt (l.getD 0 0)
  have k1 := byte_lt (l.getD 1 0)
  have k2 := byte_lt (l.getD 2 0)
  have k3 := byte_lt (l.getD 3 0)
  obtain ⟨y0, hy0⟩ : ∃ v : Int, v = ((l.getD 0 0).toNat : Int) := ⟨_, rfl⟩
  obtain ⟨y1, hy1⟩ : ∃ v : Int, v = ((l.getD 1 0).toNat : Int) := ⟨_, rfl⟩
  obtain ⟨y2, hy2⟩ : ∃ v : Int, v = ((l.getD 2 0).toNat : Int) := ⟨_, rfl⟩
  obtain ⟨y3, hy3⟩ : ∃ v : Int, v = ((l.getD 3 0).toNat : Int) := ⟨_, rfl⟩
  have g00 : 0 ≤ y0 := by omega
  have g10 : 0 ≤ y1 := by omega
  have g20 : 0 ≤ y2 := by omega
  have g30 : 0 ≤ y3 := by omega
  rw [← hy0] at c0 k0
  rw [← hy1] at c1 k1
  rw [← hy2] at c2 k2
  rw [← hy3] at c3 k3
  rw [← hy0, ← hy1, ← hy2, ← hy3] at hv
  have HV := Lib.hid hv
  have o1 := or_32 y0 y1 8 g00 (by omega) (by omega) g10 (by omega)
  have o2 := or_32 (y0 + y1 * 2 ^ 8) y2 16 (by omega) (by omega) (by omega) g20 (by omega)
  have o3 := or_32 (y0 + y1 * 2 ^ 8 + y2 * 2 ^ 16) y3 24 (by omega) (by omega) (by omega) g30 (by omega)
  have p8 : (2 : Int) ^ 8 = 256 := by decide
  have p16 : (2 : Int) ^ 16 = 65536 := by decide
  have p24 : (2 : Int) ^ 24 = 16777216 := by decide
  rw [p8] at o1
  rw [p8, p16] at o2
  rw [p8, p16, p24] at o3
  have h4' : (4 : Int) ≤ (len : Int) := by omega
  clear p8 p16 p24
  clear hv hy0 hy1 hy2 hy3 hA
  go_enter Tryz.func96, Tryz.ntmps96
  go_wp2
  go_quiet (fail)
  go_wp2
  go_ret
  exact ⟨ret_int (by rw [HV.out]), _, rfl⟩

theorem fixedB_bv (s : W32) : (fixedB s).map bv = [.int .u8 (nv s % 256), .int .u8 (nv s / 256 % 256), .int .u8 (nv s / 65536 % 256), .int .u8 (nv s / 16777216)] := by
  have hge := nv_ge s
  have hlt := nv_lt s
  have e1 := byte_of s 256
  have e2 := byte_of s 65536
  have e3 : (((UInt8.ofNat (s.toNat / 16777216)).toNat : Nat) : Int) = nv s / 16777216 := by rw [byte_of s 16777216]; omega
  simp only [fixedB, List.map_cons, List.map_nil, bv_eq, byte_of0, e1, e2, e3]
  rfl

set_option maxHeartbeats 1000000 in
theorem frNum_any (base n : Nat) (vs : Value) (l : List UInt8) (s : W32) (w : World) (hown : w.ownsRow base 5 1 vs n (l.map bv)) (hbase : base ≤ w.heap.size) (hn : n ≤ 1000000000) :
    Calls Tryz.prog 67 #[vs, .int .u32 (nv s)] w fun e w' => (∃ v', e = .returned v' ∧ w'.ownsRow base 5 1 v' (n + 4) ((l ++ fixedB s).map bv)) ∧ Below base w w' := by
  obtain ⟨i5, hi5, hz0, hz1, hz2⟩ := info_parts infoU8
  have hge := nv_ge s
  have hlt := nv_lt s
  have hfix := fixedB_bv s
  obtain ⟨v0, hv0⟩ : ∃ v, nv s % 256 = v := ⟨_, rfl⟩
  obtain ⟨v1, hv1⟩ : ∃ v, nv s / 256 % 256 = v := ⟨_, rfl⟩
  obtain ⟨v2, hv2⟩ : ∃ v, nv s / 65536 % 256 = v := ⟨_, rfl⟩
  obtain ⟨v3, hv3⟩ : ∃ v, nv s / 16777216 = v := ⟨_, rfl⟩
  rw [hv0, hv1, hv2, hv3] at hfix
  have HV := Lib.hid hfix
  clear hfix
  have hb := (Below.refl base w).alloc hbase (.cells #[.int .u8 v0, .int .u8 v1, .int .u8 v2, .int .u8 v3] 5)
  have hown1 := hown.alloc (.cells #[.int .u8 v0, .int .u8 v1, .int .u8 v2, .int .u8 v3] 5)
  have hh := Has.laid w 5 #[.int .u8 v0, .int .u8 v1, .int .u8 v2, .int .u8 v3] (0, 0) 4 _ rfl rfl
  go_enter Tryz.func67, Tryz.ntmps67
  go_wp2_with (at_builtin; refine wpList_app_has _ rfl _ _ 37 rfl base 5 i5 (.int .u8 0) 1 tyBs hi5 hz0 hz1 hz2 rfl _ _ _ (by exact rfl) hown1 _ 4 4 _ [.int .u8 v0, .int .u8 v1, .int .u8 v2, .int .u8 v3] (by exact rfl) (by intro e; cases e) hh (by rw [← HV.out]; exact one_bytes _) (by unfold maxLen; omega) (by omega) hb hbase ?_; intro v' w' hown' hb' _)
  go_ret
  rw [← HV.out, ← List.map_append] at hown'
  exact ⟨⟨v', rfl, hown'⟩, hb'⟩

/-- The size of a frame. -/
def szB (n : Int) : Int := if n < 0 ∨ 1024 < n then 0 else 14 + n
theorem szB_no {n : Int} (h : n < 0 ∨ 1024 < n) : szB n = 0 := by unfold szB; rw [if_pos h]
theorem szB_yes {n : Int} (h0 : 0 ≤ n) (h1 : n ≤ 1024) : szB n = 14 + n := by unfold szB; rw [if_neg (by omega)]
attribute [irreducible] szB
set_option maxHeartbeats 400000 in
theorem frSize_any (n : Int) (w : World) : Calls Tryz.prog 66 #[.int .i64 n] w fun e w' => e = .returned (.int .i64 (szB n)) ∧ w = w' := by
  by_cases h0 : n < 0
  · have H := Lib.hid (szB_no (.inl h0))
    go_enter Tryz.func66, Tryz.ntmps66
    go_wp2
    go_ret
    exact ⟨ret_int H.out.symm, rfl⟩
  · by_cases h1 : 1024 < n
    · have H := Lib.hid (szB_no (.inr h1))
      go_enter Tryz.func66, Tryz.ntmps66
      go_wp2
      go_ret
      exact ⟨ret_int H.out.symm, rfl⟩
    · have H := Lib.hid (szB_yes (by omega) (by omega : n ≤ 1024))
      go_enter Tryz.func66, Tryz.ntmps66
      go_wp2
      go_ret
      exact ⟨ret_int H.out.symm, rfl⟩
end

section
open Go.RowKit

theorem two_bv (n : Nat) (hn : n ≤ 1024) : ([UInt8.ofNat n, UInt8.ofNat (n / 256)]).map bv = [.int .u8 ((n : Int) % 256), .int .u8 ((n : Int) / 256)] := by
  simp only [List.map_cons, List.map_nil, bv_eq, UInt8.toNat_ofNat']
  rw [show (((n % 2 ^ 8 : Nat)) : Int) = (n : Int) % 256 by omega, show (((n / 256 % 2 ^ 8 : Nat)) : Int) = (n : Int) / 256 by omega]

set_option maxHeartbeats 400000 in
theorem encode_no (e q : W32) (A : Option Addr) (len cap : Nat) (w : World) (hlen : 1024 < len) (hl : len ≤ 1000000000) :
    Calls Tryz.prog 37 #[.int .u32 (nv e), .int .u32 (nv q), .slice A len cap] w fun r w' => r = .returned (.tuple #[.slice none 0 0, .int .i64 3]) ∧ w = w' := by
  have hlen' : (1024 : Int) < (len : Int) := by omega
  go_enter Tryz.func37, Tryz.ntmps37
  go_wp2
  go_ret2
  exact ⟨rfl, rfl⟩
set_option maxHeartbeats 400000 in
theorem refEncode_no (e q : W32) (A : Option Addr) (len cap : Nat) (w : World) (hlen : 1024 < len) (hl : len ≤ 1000000000) :
    Calls Tryz.prog 40 #[.int .u32 (nv e), .int .u32 (nv q), .slice A len cap] w fun r w' => r = .returned (.tuple #[.slice none 0 0, .int .i64 3]) ∧ w = w' := by
  have hlen' : (1024 : Int) < (len : Int) := by omega
  go_enter Tryz.func40, Tryz.ntmps40
  go_wp2
  go_ret2
  exact ⟨rfl, rfl⟩

set_option maxHeartbeats 2000000 in
theorem encode_yes (e q : W32) (A : Option Addr) (len cap B : Nat) (l : List UInt8) (w : World) (hA : Has w B A len (l.map bv)) (hcap : A = none → cap = 0) (hlen : len ≤ 1024) (hB : B ≤ w.heap.size) :
    Calls Tryz.prog 37 #[.int .u32 (nv e), .int .u32 (nv q), .slice A len cap] w fun r w' =>
      (∃ v, r = .returned (.tuple #[v, .int .i64 0]) ∧ w'.ownsRow w.heap.size 5 1 v (14 + len) ((frameB e q l).map bv)) ∧ Below w.heap.size w w' := by
  obtain ⟨i5, hi5, hz0, hz1, hz2⟩ := info_parts infoU8
  have HL : Hid (l.length = len) := by show _ = _; simpa using hA.1
  have hlen' : ¬ (1024 : Int) < (len : Int) := by omega
  have hsz := frSize_any (len : Int) w
  rw [szB_yes (by omega) (by omega)] at hsz
  have htwo := two_bv len hlen
  obtain ⟨v0, hv0⟩ : ∃ v, (len : Int) % 256 = v := ⟨_, rfl⟩
  obtain ⟨v1, hv1⟩ : ∃ v, (len : Int) / 256 = v := ⟨_, rfl⟩
  have hv10 : 0 ≤ v1 := by omega
  have hv11 : v1 < 256 := by omega
  rw [hv0, hv1] at htwo
  have HT := Lib.hid htwo
  have HB := Lib.hid (show [UInt8.ofNat len, UInt8.ofNat (len / 256)] ++ fixedB e ++ fixedB q ++ l = bodyB e q l by unfold bodyB hdB; rw [HL.out])
  have HA := Lib.hid hA
  obtain ⟨N, hN⟩ : ∃ N, N = 10 + len := ⟨_, rfl⟩
  have HN := Lib.hid hN
  have hNb : N ≤ 1034 := by omega
  clear htwo hA hN
  go_enter Tryz.func37, Tryz.ntmps37
  go_wp2_with fail
  refine hsz.mono ?_
  rintro r w' ⟨rfl, rfl⟩
  go_wp2_with (first
    | (at_make; refine wpList_make_room _ rfl _ _ rfl (14 + (len : Int)) (by exact rfl) (by exact rfl) (by omega) (by omega) ?_; intro vA wA hownA hbA; clear hsz)
    | (at_builtin; refine wpList_app_has _ rfl _ _ 37 rfl w.heap.size 5 i5 (.int .u8 0) 1 tyBs hi5 hz0 hz1 hz2 rfl _ _ _ (by exact rfl) (hownA.alloc _) _ 2 2 _ [.int .u8 v0, .int .u8 v1] (by exact rfl) (by intro e; cases e) (Has.two wA _ _ _) (by rw [← HT.out]; exact one_bytes _) (by unfold maxLen; omega) (by omega) (hbA.alloc hbA.size _) (Nat.le_refl _) ?_; intro vB wB hownB hbB _))
  refine (frNum_any w.heap.size 2 vB [UInt8.ofNat len, UInt8.ofNat (len / 256)] e wB (by rw [HT.out]; exact hownB) hbB.size (by omega)).mono ?_
  rintro r wC ⟨⟨vC, rfl, hownC⟩, hbC⟩
  replace hbC := hbB.trans hbC
  clear hownA hbA hownB hbB
  go_wp2_with fail
  refine (frNum_any w.heap.size 6 vC _ q wC hownC hbC.size (by omega)).mono ?_
  rintro r wD ⟨⟨vD, rfl, hownD⟩, hbD⟩
  replace hbD := hbC.trans hbD
  clear hownC hbC
  go_wp2_with (at_builtin; refine wpList_app_has _ rfl _ _ 37 rfl w.heap.size 5 i5 (.int .u8 0) 1 tyBs hi5 hz0 hz1 hz2 rfl _ _ _ (by exact rfl) hownD A len cap _ (l.map bv) (by exact rfl) hcap (HA.out.below' hbD hB) (one_bytes l) (by unfold maxLen; omega) (by omega) hbD (Nat.le_refl _) ?_; intro vE wE hownE hbE _; rw [← List.map_append, HB.out, show 6 + 4 + len = N from HN.out.symm] at hownE; clear hownD hbD; obtain ⟨A1, c1, rfl, h1, _⟩ := Has.of_own hownE)
  refine (sum_any A1 N c1 _ (bodyB e q l) wE h1 (by omega)).mono ?_
  rintro r w' ⟨rfl, rfl⟩
  go_wp2_with fail
  refine (frNum_any w.heap.size N _ (bodyB e q l) (crcSum (bodyB e q l)) wE hownE hbE.size (by omega)).mono ?_
  rintro r wF ⟨⟨vF, rfl, hownF⟩, hbF⟩
  replace hbF := hbE.trans hbF
  go_wp2
  go_ret2
  refine ⟨⟨vF, rfl, ?_⟩, hbF⟩
  rw [show 14 + len = N + 4 by have := HN.out; omega]
  exact hownF

set_option maxHeartbeats 2000000 in
theorem refEncode_yes (e q : W32) (A : Option Addr) (len cap B : Nat) (l : List UInt8) (w : World) (hA : Has w B A len (l.map bv)) (hcap : A = none → cap = 0) (hlen : len ≤ 1024) (hB : B ≤ w.heap.size) :
    Calls Tryz.prog 40 #[.int .u32 (nv e), .int .u32 (nv q), .slice A len cap] w fun r w' =>
      (∃ v, r = .returned (.tuple #[v, .int .i64 0]) ∧ w'.ownsRow w.heap.size 5 1 v (14 + len) ((frameB e q l).map bv)) ∧ Below w.heap.size w w' := by
  obtain ⟨i5, hi5, hz0, hz1, hz2⟩ := info_parts infoU8
  have HL : Hid (l.length = len) := by show _ = _; simpa using hA.1
  have hlen' : ¬ (1024 : Int) < (len : Int) := by omega
  have htwo := two_bv len hlen
  obtain ⟨v0, hv0⟩ : ∃ v, (len : Int) % 256 = v := ⟨_, rfl⟩
  obtain ⟨v1, hv1⟩ : ∃ v, (len : Int) / 256 = v := ⟨_, rfl⟩
  have hv10 : 0 ≤ v1 := by omega
  have hv11 : v1 < 256 := by omega
  have hvd : Int.tdiv (len : Int) 256 = v1 := by rw [Int.tdiv_eq_ediv_of_nonneg (by omega)]; exact hv1
  rw [hv0, hv1] at htwo
  have HT := Lib.hid htwo
  have HB := Lib.hid (show [UInt8.ofNat len, UInt8.ofNat (len / 256)] ++ fixedB e ++ fixedB q ++ l = bodyB e q l by unfold bodyB hdB; rw [HL.out])
  have HA := Lib.hid hA
  obtain ⟨N, hN⟩ : ∃ N, N = 10 + len := ⟨_, rfl⟩
  have HN := Lib.hid hN
  have hNb : N ≤ 1034 := by omega
  have hown0 := own_laid w 5 [.int .u8 v0, .int .u8 v1] 2 rfl (by unfold maxLen; omega)
  have hb0 := (Below.refl w.heap.size w).alloc (Nat.le_refl _) (.cells #[.int .u8 v0, .int .u8 v1] 5)
  clear htwo hA hN
  go_enter Tryz.func40, Tryz.ntmps40
  go_wp2_with fail
  refine (fixed_any e _).mono ?_
  rintro r wB ⟨⟨g, rfl, hf⟩, hbB⟩
  have hownB := own_below hown0 hbB
  replace hbB := hb0.trans (hbB.mono hb0.size)
  clear hown0 hb0
  go_wp2_with (at_builtin; refine wpList_app_has _ rfl _ _ 37 rfl w.heap.size 5 i5 (.int .u8 0) 1 tyBs hi5 hz0 hz1 hz2 rfl _ _ _ (by exact rfl) hownB _ 4 4 _ ((fixedB e).map bv) (by exact rfl) (by intro e; cases e) hf (one_bytes _) (by unfold maxLen; omega) (by omega) hbB (Nat.le_refl _) ?_; intro vC wC hownC hbC _; rw [show [Value.int .u8 v0, .int .u8 v1] = _ from HT.out.symm, ← List.map_append] at hownC; clear hownB hbB hf)
  refine (fixed_any q _).mono ?_
  rintro r wD ⟨⟨g2, rfl, hf⟩, hbD⟩
  replace hownC := own_below hownC hbD
  replace hbD := hbC.trans (hbD.mono hbC.size)
  clear hbC
  go_wp2_with (first
    | (at_builtin; refine wpList_app_has _ rfl _ _ 37 rfl w.heap.size 5 i5 (.int .u8 0) 1 tyBs hi5 hz0 hz1 hz2 rfl _ _ _ (by exact rfl) hownC _ 4 4 _ ((fixedB q).map bv) (by exact rfl) (by intro e; cases e) hf (one_bytes _) (by unfold maxLen; omega) (by omega) hbD (Nat.le_refl _) ?_; intro vE wE hownE hbE _; rw [← List.map_append] at hownE; clear hownC hbD hf)
    | (at_builtin; refine wpList_app_has _ rfl _ _ 37 rfl w.heap.size 5 i5 (.int .u8 0) 1 tyBs hi5 hz0 hz1 hz2 rfl _ _ _ (by exact rfl) hownE A len cap _ (l.map bv) (by exact rfl) hcap (HA.out.below' hbE hB) (one_bytes l) (by unfold maxLen; omega) (by omega) hbE (Nat.le_refl _) ?_; intro vF wF hownF hbF _; rw [← List.map_append, HB.out, show 2 + 4 + 4 + len = N from HN.out.symm] at hownF; clear hownE hbE; obtain ⟨A1, c1, rfl, h1, _⟩ := Has.of_own hownF))
  refine (refSum_any A1 N c1 _ (bodyB e q l) wF h1 (by omega)).mono ?_
  rintro r w' ⟨rfl, rfl⟩
  go_wp2_with fail
  refine (fixed_any (crcSum (bodyB e q l)) _).mono ?_
  rintro r wG ⟨⟨g3, rfl, hf⟩, hbG⟩
  replace hownF := own_below hownF hbG
  replace hbG := hbF.trans (hbG.mono hbF.size)
  clear hbF h1
  go_wp2_with (at_builtin; refine wpList_app_has _ rfl _ _ 37 rfl w.heap.size 5 i5 (.int .u8 0) 1 tyBs hi5 hz0 hz1 hz2 rfl _ _ _ (by exact rfl) hownF _ 4 4 _ ((fixedB (crcSum (bodyB e q l))).map bv) (by exact rfl) (by intro e; cases e) hf (one_bytes _) (by unfold maxLen; omega) (by omega) hbG (Nat.le_refl _) ?_; intro vH wH hownH hbH _; rw [← List.map_append] at hownH)
  go_ret2
  refine ⟨⟨vH, rfl, ?_⟩, hbH⟩
  rw [show 14 + len = N + 4 by have := HN.out; omega]
  exact hownH
end

section
open Go.RowKit

theorem or_64 (a b : Nat) (ha : a < 256) (hb : b < 256) : bits .or .i64 (a : Int) ((b : Int) * 256) = ((a + 256 * b : Nat) : Int) := by
  have hp : (b : Int) * 256 = ((2 ^ 8 * b : Nat) : Int) := by omega
  rw [hp]
  show IntKind.i64.wrap ((BitVec.ofInt 64 (a : Int) ||| BitVec.ofInt 64 ((2 ^ 8 * b : Nat) : Int)).toNat : Int) = _
  rw [BitVec.toNat_or, ofInt_u64 a (by omega), ofInt_u64 _ (by omega), Nat.or_comm, ← Nat.two_pow_add_eq_or_of_lt (by omega : a < 2 ^ 8), IntKind.wrap_i64]
  omega
theorem src8 {w : World} {B n : Nat} {A : Option Addr} {xs : List Value} (h : Has w B A n xs) (h0 : 0 < xs.length) : ∃ ad, A = some ad ∧ ∀ j v, xs[j]? = some v → w.cell? (ad.add j) = some v := by
  obtain ⟨b, off, e, hb, hc⟩ := h.2 (by rw [← h.1]; exact h0)
  refine ⟨_, e, fun j v hj => ?_⟩
  have hjl := (List.getElem?_eq_some_iff.1 hj).1
  have hadd : (⟨b, off, none⟩ : Addr).add j = ⟨b, off + j, none⟩ := by unfold Addr.add; split <;> simp_all
  rw [hadd, hc j hjl, ← hj, List.getElem?_eq_getElem hjl]
theorem splice8 (z l : List Value) (h : z.length = l.length) : splice z 0 l = l := by
  simp [splice, List.drop_of_length_le (by omega : z.length ≤ 0 + l.length), ← h]
theorem has_row8 {w : World} {g n : Nat} {t : TypeId} {fr : Nat × Nat} {xs : List Value} (h : w.heap[g]? = some (.cells xs.toArray t fr)) (hn : xs.length = n) : Has w w.heap.size (some ⟨g, 0, none⟩) n xs :=
  ⟨hn, fun _ => ⟨g, 0, rfl, (Array.getElem?_eq_some_iff.1 h).1, fun j hj => by
    rw [cell_of_row _ g (0 + j) xs.toArray t fr h]
    simp⟩⟩
theorem sizeU8 : (Tryz.prog.info? 5).map (·.size) = some 1 := by kernel_rfl

/-- The block of a slice of bytes is a row of bytes, none older than B. -/
def Typ8 (B : Nat) (w : World) (A : Option Addr) (n : Nat) : Prop := 0 < n → ∃ b off cs fr, A = some ⟨b, off, none⟩ ∧ B ≤ b ∧ w.heap[b]? = some (.cells cs 5 fr)
theorem Typ8.mono {B B' : Nat} {w : World} {A : Option Addr} {n : Nat} (h : Typ8 B w A n) (hB : B' ≤ B) : Typ8 B' w A n := fun h0 => by
  obtain ⟨b, off, cs, fr, e, hl, hh⟩ := h h0
  exact ⟨b, off, cs, fr, e, Nat.le_trans hB hl, hh⟩
theorem Typ8.below {B : Nat} {w w' : World} {A : Option Addr} {n : Nat} (h : Typ8 B w A n) (hb : Below w.heap.size w w') : Typ8 B w' A n := fun h0 => by
  obtain ⟨b, off, cs, fr, e, hl, hh⟩ := h h0
  exact ⟨b, off, cs, fr, e, hl, (hb.block b (Array.getElem?_eq_some_iff.1 hh).1).trans hh⟩
theorem Typ8.of_own {w : World} {base n c : Nat} {A : Option Addr} {xs : List Value} (h : w.ownsRow base 5 1 (.slice A n c) n xs) : Typ8 base w A n := fun h0 => by
  rcases h.2 with ⟨_, h1⟩ | ⟨g, cap, cur, e, hb, hg, _⟩
  · omega
  · injection e with e _ _
    exact ⟨g, 0, cur, _, e, hb, hg⟩

/-- What Decode answers, and what is left in memory. -/
def DecP (w : World) (l : List UInt8) (e q : W32) (r : Ending) (w' : World) : Prop :=
  (∃ P c, r = .returned (.tuple #[.slice P (dpl l e q).length c, .int .i64 (dn l e q : Int), .int .i64 (derr l e q : Int)]) ∧ Has w' w'.heap.size P (dpl l e q).length ((dpl l e q).map bv) ∧ (P = none → c = 0) ∧ (dpl l e q).length ≤ c ∧ Typ8 w.heap.size w' P (dpl l e q).length) ∧ Below w.heap.size w w'
theorem DecP.no {w w' : World} {l : List UInt8} {e q : W32} (n : Nat) (h : Hid (derr l e q = n)) (hn : n ≠ 0) (hb : Below w.heap.size w w') : DecP w l e q (.returned (.tuple #[.slice none 0 0, .int .i64 0, .int .i64 (n : Int)])) w' := by
  have h := h.out
  have h0 : derr l e q ≠ 0 := by omega
  refine ⟨⟨none, 0, ?_, ?_, fun _ => rfl, ?_, ?_⟩, hb⟩
  · rw [dpl_no h0, dn_no h0, h]; rfl
  · rw [dpl_no h0]; exact Has.nil _ _ _
  · rw [dpl_no h0]; exact Nat.zero_le _
  · rw [dpl_no h0]; exact fun h => absurd h (Nat.lt_irrefl 0)
theorem DecP.yes {w w' : World} {l : List UInt8} {e q : W32} (n : Nat) (P : Option Addr) (c : Nat) (m : Int) (h : Hid (derr l e q = 0)) (hn : Hid (lenB l = n)) (hm : m = 14 + (n : Int)) (hP : P = none → c = 0) (hh : Has w' w'.heap.size P n (((l.drop 10).take n).map bv)) (hc : n ≤ c) (ht : Typ8 w.heap.size w' P n) (hb : Below w.heap.size w w') :
    DecP w l e q (.returned (.tuple #[.slice P n c, .int .i64 m, .int .i64 0])) w' := by
  have h := h.out
  have hn := hn.out
  have hl : (dpl l e q).length = n := by rw [dpl_yes h, hn]; simpa using hh.1
  refine ⟨⟨P, c, ?_, ?_, hP, by omega, by rw [hl]; exact ht⟩, hb⟩
  · rw [hl, dn_yes h, h, hn, hm]; simp
  · rw [hl, dpl_yes h, hn]; exact hh

theorem quiet_add {P : Program} {f : FuncId} {args : Array Value} {w : World} {a n : Nat} {v : Value}
    (h : Calls P f args (w.drewN (a + n)) fun e w' => e = .returned v ∧ ∃ m, w' = (w.drewN (a + n)).drewN m) :
    Calls P f args (w.drewN (a + n)) fun e w'' => e = .returned v ∧ ∃ m, w'' = w.drewN (a + m) :=
  h.mono fun _ _ ⟨he, m, hm⟩ => ⟨he, n + m, by rw [hm, World.drewN_drewN, Nat.add_assoc]⟩
theorem quiet_add_left {P : Program} {f : FuncId} {args : Array Value} {w : World} {a n : Nat} {v : Value}
    (h : Calls P f args (w.drewN (a + n)) fun e w' => e = .returned v ∧ w.drewN (a + n) = w') :
    Calls P f args (w.drewN (a + n)) fun e w'' => e = .returned v ∧ ∃ m, w'' = w.drewN (a + m) :=
  h.mono fun _ _ ⟨he, hm⟩ => ⟨he, n, hm.symm⟩

theorem below_dd (B : Nat) (w : World) (a b : Nat) : Below B w ((w.drewN a).drewN b) := below_drewN (below_drewN (Below.refl _ _) _) _
theorem below_ddd (B : Nat) (w : World) (a b c : Nat) : Below B w (((w.drewN a).drewN b).drewN c) := below_drewN (below_dd _ _ _ _) _
theorem below_dddd (B : Nat) (w : World) (a b c d : Nat) : Below B w ((((w.drewN a).drewN b).drewN c).drewN d) := below_drewN (below_ddd _ _ _ _ _) _

set_option maxRecDepth 20000 in
set_option maxHeartbeats 2000000 in
theorem decode_any (e q : W32) (A : Option Addr) (len cap B : Nat) (l : List UInt8) (w : World) (hA : Has w B A len (l.map bv)) (hlc : len ≤ cap) (hlen : len ≤ 1000000) (hB : B ≤ w.heap.size) :
    Calls Tryz.prog 83 #[.slice A len cap, .int .u32 (nv e), .int .u32 (nv q)] w (DecP w l e q) := by
  have hL : l.length = len := by simpa using hA.1
  by_cases h1 : len < 14
  · have HD : Hid (derr l e q = 5) := Lib.hid (derr_1 (by omega))
    have h1' : (len : Int) < 14 := by omega
    clear hL hA
    go_enter Tryz.func83, Tryz.ntmps83
    go_wp2
    go_ret3
    exact DecP.no 5 HD (by decide) (Below.refl _ _)
  · have h1' : ¬ (len : Int) < 14 := by omega
    have hl1 : ¬ l.length < 14 := by omega
    obtain ⟨b, off, rfl, _, _⟩ := hA.2 (by omega)
    have c0 : w.cell? ⟨b, off, none⟩ = some (.int .u8 ((l.getD 0 0).toNat : Int)) := cell_bt hA 0 (by omega)
    have c1 : w.cell? ⟨b, off + 1, none⟩ = some (.int .u8 ((l.getD 1 0).toNat : Int)) := cell_bt hA 1 (by omega)
    have k0 := byte_lt (l.getD 0 0)
    have k1 := byte_lt (l.getD 1 0)
    have ho := or_64 (l.getD 0 0).toNat (l.getD 1 0).toNat (l.getD 0 0).toNat_lt (l.getD 1 0).toNat_lt
    obtain ⟨n, hn⟩ : ∃ n, lenB l = n := ⟨_, rfl⟩
    rw [show ((l.getD 0 0).toNat + 256 * (l.getD 1 0).toNat : Nat) = n from hn] at ho
    have hnb : n < 65536 := by have := lenB_lt l; omega
    have HN := Lib.hid hn
    obtain ⟨y0, hy0⟩ : ∃ v : Int, v = ((l.getD 0 0).toNat : Int) := ⟨_, rfl⟩
    obtain ⟨y1, hy1⟩ : ∃ v : Int, v = ((l.getD 1 0).toNat : Int) := ⟨_, rfl⟩
    have g00 : 0 ≤ y0 := by omega
    have g10 : 0 ≤ y1 := by omega
    rw [← hy0] at c0 k0
    rw [← hy1] at c1 k1
    rw [← hy0, ← hy1] at ho
    clear hy0 hy1
    have hlen0 : (0 : Int) < (len : Int) := by omega
    have hlen1 : (1 : Int) < (len : Int) := by omega
    by_cases h2 : 1024 < n
    · have HD : Hid (derr l e q = 3) := Lib.hid (derr_2 hl1 (by omega))
      have h2' : (1024 : Int) < (n : Int) := by omega
      clear hL hA hn
      go_enter Tryz.func83, Tryz.ntmps83
      go_wp2
      go_quiet (fail)
      go_wp2
      go_ret3
      exact DecP.no 3 HD (by decide) (below_drewN (Below.refl _ _) _)
    · have h2' : ¬ (1024 : Int) < (n : Int) := by omega
      have hsz : ∀ v, Calls Tryz.prog 66 #[.int .i64 (n : Int)] v fun r w' => r = .returned (.int .i64 (14 + (n : Int))) ∧ v = w' := fun v => by
        have := frSize_any (n : Int) v
        rwa [szB_yes (by omega) (by omega)] at this
      by_cases h3 : len < 14 + n
      · have HD : Hid (derr l e q = 5) := Lib.hid (derr_3 hl1 (by omega) (by omega))
        have h3' : (len : Int) < 14 + (n : Int) := by omega
        clear hL hA hn
        go_enter Tryz.func83, Tryz.ntmps83
        go_wp2
        go_quiet (fail)
        go_wp2_with fail
        refine (hsz _).mono ?_
        rintro r w' ⟨rfl, rfl⟩
        go_wp2
        go_ret3
        exact DecP.no 5 HD (by decide) (below_drewN (Below.refl _ _) _)
      · have h3' : ¬ (len : Int) < 14 + (n : Int) := by omega
        obtain ⟨s, hs⟩ : ∃ s : Nat, s = 10 + n := ⟨_, rfl⟩
        have hs' : (10 : Int) + (n : Int) = (s : Int) := by omega
        have hs0 : (0 : Int) ≤ (s : Int) := by omega
        have hs1 : (s : Int) ≤ (len : Int) := by omega
        have hs2 : (s : Int) ≤ (cap : Int) := by omega
        have hs3 : s ≤ len := by omega
        have hs4 : s ≤ cap := by omega
        have hs5 : ¬ cap = s := by omega
        have hs6 : (10 : Int) ≤ (s : Int) := by omega
        have hs7 : 10 ≤ s := by omega
        have hs8 : s - 10 = n := by omega
        have hc2 : ¬ cap = 2 := by omega
        have hc6 : ¬ cap = 6 := by omega
        have hc10 : ¬ cap = 10 := by omega
        have hlc' : (len : Int) ≤ (cap : Int) := by omega
        have hnumS := fun v (hv : Has v B (some ⟨b, off, none⟩) len (l.map bv)) => number_any b (off + s) (len - s) (cap - s) B (l.drop s) v (hv.tail8 s hs3) (by omega)
        have hsumS := fun v (hv : Has v B (some ⟨b, off, none⟩) len (l.map bv)) => sum_any (some ⟨b, off, none⟩) s cap B (l.take s) v (hv.head8 s hs3) (by omega)
        have hnum2 := fun v (hv : Has v B (some ⟨b, off, none⟩) len (l.map bv)) => number_any b (off + 2) (len - 2) (cap - 2) B (l.drop 2) v (hv.tail8 2 (by omega)) (by omega)
        have hnum6 := fun v (hv : Has v B (some ⟨b, off, none⟩) len (l.map bv)) => number_any b (off + 6) (len - 6) (cap - 6) B (l.drop 6) v (hv.tail8 6 (by omega)) (by omega)
        have d4 := fun h4 => derr_4 (e := e) (q := q) hl1 (show ¬ 1024 < lenB l by omega) (show ¬ l.length < 14 + lenB l by omega) h4
        have d5 := fun h4 h5 => derr_5 (e := e) (q := q) hl1 (show ¬ 1024 < lenB l by omega) (show ¬ l.length < 14 + lenB l by omega) h4 h5
        have d6 := fun h4 h5 h6 => derr_6 (e := e) (q := q) hl1 (show ¬ 1024 < lenB l by omega) (show ¬ l.length < 14 + lenB l by omega) h4 h5 h6
        rw [show 10 + lenB l = s by omega] at d4 d5 d6
        have D4 := Lib.hid d4
        have D5 := Lib.hid d5
        have D6 := Lib.hid d6
        have HA := Lib.hid hA
        have HLL := Lib.hid hL
        clear hL hA hn d4 d5 d6 hs
        obtain ⟨wS, hwS⟩ : ∃ x, x = wordB (l.drop s) := ⟨_, rfl⟩
        obtain ⟨cS, hcS⟩ : ∃ x, x = crcSum (l.take s) := ⟨_, rfl⟩
        rw [← hwS] at hnumS D4 D5 D6
        rw [← hcS] at hsumS D4 D5 D6
        clear hwS hcS
        by_cases h4 : wS = cS
        · subst h4
          obtain ⟨w2, hw2⟩ : ∃ x, x = wordB (l.drop 2) := ⟨_, rfl⟩
          obtain ⟨w6, hw6⟩ : ∃ x, x = wordB (l.drop 6) := ⟨_, rfl⟩
          rw [← hw2] at hnum2 D5 D6
          rw [← hw6] at hnum6 D5 D6
          clear hw2 hw6
          obtain ⟨x, hx⟩ : ∃ x, x = nv wS := ⟨_, rfl⟩
          rw [← hx] at hnumS hsumS
          clear hx D4
          by_cases h5 : w2 = e
          · subst h5
            by_cases h6 : w6 = q
            · subst h6
              have HD : Hid (derr l w2 w6 = 0) := Lib.hid (D6.out rfl rfl rfl)
              have HCL : Hid ((((l.drop 10).take n).map bv).length = n) := Lib.hid (by have := HLL.out; simp; omega)
              obtain ⟨x2, hx2⟩ : ∃ x, x = nv w2 := ⟨_, rfl⟩
              obtain ⟨x6, hx6⟩ : ∃ x, x = nv w6 := ⟨_, rfl⟩
              rw [← hx2] at hnum2 ⊢
              rw [← hx6] at hnum6 ⊢
              clear hx2 hx6 D5 D6
              go_enter Tryz.func83, Tryz.ntmps83
              go_wp2
              go_quiet (fail)
              go_wp2_with fail
              refine (hsz _).mono ?_
              rintro r w' ⟨rfl, rfl⟩
              go_wp2
              go_quiet (first | (go_at_call 96; exact quiet_add (hnumS _ (HA.out.drewN _))) | (go_at_call 68; exact quiet_add_left (hsumS _ (HA.out.drewN _))))
              go_wp2_with fail
              refine (hnum2 _ (HA.out.drewN _)).mono ?_
              rintro r w' ⟨rfl, m2, rfl⟩
              go_wp2_with fail
              first | refine (hnum6 _ (HA.out.drewN _)).mono ?_ | refine (hnum6 _ ((HA.out.drewN _).drewN _)).mono ?_
              rintro r w' ⟨rfl, m6, rfl⟩
              go_wp2_with (first
                | (at_make; refine wpList_make_bytes _ rfl _ _ (by exact rfl) n (by exact rfl) (by exact rfl) (by omega) ?_; intro w1 g hg0 hg1 hrow hgr; have hb1 : Below w.heap.size w w1 := Below.grown (by first | exact below_drewN (Below.refl _ _) _ | exact below_dd _ _ _ _ | exact below_ddd _ _ _ _ _ | exact below_dddd _ _ _ _ _ _) hgr (Nat.le_refl _) (fun k e => by cases e))
                | (refine wpList_copy_splice rfl _ _ _ _ (by exact rfl) 5 tyBs sizeU8 _ _ _ _ _ _ (by exact rfl) (by exact rfl) g 0 (zeros n).toList 5 (by simpa [Row] using hrow) (((l.drop 10).take n).map bv) (by first | (rw [HCL.out]; exact (Nat.min_self _).symm) | (rw [hs8, HCL.out]; exact (Nat.min_self _).symm)) (fun h0 => ⟨by exact rfl, src8 ((HA.out.sub8 10 n (by omega)).below' hb1 hB) h0⟩) (by rw [HCL.out]; simp [zeros]) (one_bytes _) w.heap.size w hb1 hg0 ?_; intro w2' hg2 hb2))
              go_ret3
              refine DecP.yes n (some ⟨g, 0, none⟩) n _ HD HN rfl (fun e => by cases e) ?_ (Nat.le_refl _) (fun _ => ⟨g, 0, _, _, rfl, hg0, hg2.out⟩) hb2
              have hg3 := hg2.out
              rw [splice8 _ _ (by rw [HCL.out]; simp [zeros])] at hg3
              exact has_row8 hg3 HCL.out
            · have HD : Hid (derr l w2 q = 8) := Lib.hid (D5.out rfl (.inr h6))
              have h6' : ¬ nv w6 = nv q := fun h => h6 (nv_inj h)
              have h6b : (nv w6 != nv q) = true := by simp [h6']
              clear D5 D6 h6
              go_enter Tryz.func83, Tryz.ntmps83
              go_wp2
              go_quiet (fail)
              go_wp2_with fail
              refine (hsz _).mono ?_
              rintro r w' ⟨rfl, rfl⟩
              go_wp2
              go_quiet (first | (go_at_call 96; exact quiet_add (hnumS _ (HA.out.drewN _))) | (go_at_call 68; exact quiet_add_left (hsumS _ (HA.out.drewN _))))
              go_wp2_with fail
              refine (hnum2 _ (HA.out.drewN _)).mono ?_
              rintro r w' ⟨rfl, m2, rfl⟩
              go_wp2_with fail
              first | refine (hnum6 _ (HA.out.drewN _)).mono ?_ | refine (hnum6 _ ((HA.out.drewN _).drewN _)).mono ?_
              rintro r w' ⟨rfl, m6, rfl⟩
              go_wp2
              go_ret3
              exact DecP.no 8 HD (by decide) (by first | exact below_drewN (Below.refl _ _) _ | exact below_dd _ _ _ _ | exact below_ddd _ _ _ _ _ | exact below_dddd _ _ _ _ _ _)
          · have HD : Hid (derr l e q = 8) := Lib.hid (D5.out rfl (.inl h5))
            have h5' : ¬ nv w2 = nv e := fun h => h5 (nv_inj h)
            have h5b : (nv w2 != nv e) = true := by simp [h5']
            clear D5 D6 h5
            go_enter Tryz.func83, Tryz.ntmps83
            go_wp2
            go_quiet (fail)
            go_wp2_with fail
            refine (hsz _).mono ?_
            rintro r w' ⟨rfl, rfl⟩
            go_wp2
            go_quiet (first | (go_at_call 96; exact quiet_add (hnumS _ (HA.out.drewN _))) | (go_at_call 68; exact quiet_add_left (hsumS _ (HA.out.drewN _))))
            go_wp2_with fail
            refine (hnum2 _ (HA.out.drewN _)).mono ?_
            rintro r w' ⟨rfl, m2, rfl⟩
            go_wp2
            go_ret3
            exact DecP.no 8 HD (by decide) (by first | exact below_drewN (Below.refl _ _) _ | exact below_dd _ _ _ _ | exact below_ddd _ _ _ _ _ | exact below_dddd _ _ _ _ _ _)
        · have HD : Hid (derr l e q = 7) := Lib.hid (D4.out h4)
          have h4' : ¬ nv wS = nv cS := fun h => h4 (nv_inj h)
          clear D4 D5 D6 h4
          obtain ⟨x, hx⟩ : ∃ x, x = nv wS := ⟨_, rfl⟩
          obtain ⟨y, hy⟩ : ∃ y, y = nv cS := ⟨_, rfl⟩
          rw [← hx] at hnumS h4'
          rw [← hy] at hsumS h4'
          have h4b : (x != y) = true := by simp [h4']
          clear hx hy
          go_enter Tryz.func83, Tryz.ntmps83
          go_wp2
          go_quiet (fail)
          go_wp2_with fail
          refine (hsz _).mono ?_
          rintro r w' ⟨rfl, rfl⟩
          go_wp2
          go_quiet (first | (go_at_call 96; exact quiet_add (hnumS _ (HA.out.drewN _))) | (go_at_call 68; exact quiet_add_left (hsumS _ (HA.out.drewN _))))
          go_wp2
          go_ret3
          exact DecP.no 7 HD (by decide) (by first | exact below_drewN (Below.refl _ _) _ | exact below_dd _ _ _ _ | exact below_ddd _ _ _ _ _ | exact below_dddd _ _ _ _ _ _)
end

end Go.Proofs.YtngomoolmncbaaaGreat
