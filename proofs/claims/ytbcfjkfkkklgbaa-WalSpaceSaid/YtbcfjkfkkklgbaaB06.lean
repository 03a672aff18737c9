/-
Contracts of Update and Sum, of package crc and of its reference.
Contracts of the reference's Fixed and DecodeFixed (layer 3), as the statements of layer 2 use them.
make([]byte, 0, n); a part of a slice. No function of the program.
What every walk of a statement ends in. No program.
Contracts of the small functions of package frame: number, appendNumber, Size; parts of slices of bytes.
Contracts of Encode, of package frame and of its reference.
-/
import Derived.Test.YtbcfjkfkkklgbaaB05
import Derived.Test.YtbcfjkfkkklgbaaB04
import Derived.Laws.MakeOwn
import Derived.Test.YtbcfjkfkkklgbaaB00
import Derived.Test.YtbcfjkfkkklgbaaB01
namespace Go.Proofs.Ytbcfjkfkkklgbaa
section
open Go.RowKit

theorem upd_next (c : W32) (l : List UInt8) (k : Nat) (h : k < l.length) : crcU c (l.take (k + 1)) = stepN 8 (crcU c (l.take k) ^^^ b32 l[k]) := upd_take_succ c l k h

set_option maxHeartbeats 1000000 in
theorem update_any (s : W32) (A : Option Addr) (len cap B : Nat) (l : List UInt8) (w : World) (hA : Has w B A len (l.map bv)) (hlen : len ≤ 1000000000) :
    Calls Try.prog 101 #[.int .u32 (nv s), .slice A len cap] w fun e w' => e = .returned (.int .u32 (nv (crcUpd s l))) ∧ w = w' := by
  have HL : Hid (l.length = len) := by show _ = _; simpa using hA.1
  have HA := Lib.hid hA
  clear hA
  have hn := nv_not s
  obtain ⟨m, hm⟩ : ∃ m, m = ~~~ s := ⟨_, rfl⟩
  rw [← hm] at hn
  have HM := Lib.hid hm
  clear hm
  go_enter Try.func101, Try.ntmps101
  go_wp2
  go_loop [5, 12] (fun v i => ∃ (k : Nat) (d : W32), k ≤ len ∧ i = .int .i64 k ∧ v = .int .u32 (nv d) ∧ d = crcU m (l.take k)) (fun _ i => len - (intOf i).toNat)
  case atStart => exact ⟨0, m, Nat.zero_le _, rfl, rfl, rfl⟩
  case round =>
    obtain ⟨k, d, hk, rfl, rfl, hd⟩ := hrel
    have HD := Lib.hid hd
    clear hd
    by_cases hlt : k < len
    · have hks : k < l.length := by rw [HL.out]; exact hlt
      obtain ⟨b, off, rfl, hb, hc⟩ := HA.out.at_ hlt
      rw [List.getElem_map, bv_eq] at hc
      have HN := Lib.hid (upd_next m l k hks)
      have hx := nv_xor_byte d l[k]
      obtain ⟨x, hxe⟩ : ∃ x, x = d ^^^ b32 l[k] := ⟨_, rfl⟩
      rw [← hxe] at hx
      have HX := Lib.hid hxe
      clear hxe
      have hbl := byte_lt l[k]
      go_wp2_with (go_at_call 107; refine (eight_any _ _).mono ?_; rintro e w' ⟨rfl, rfl⟩)
      go_round
      case rel => exact ⟨k + 1, _, by omega, by go_num, rfl, by rw [HN.out, HX.out, HD.out]⟩
      case measure => simp [intOf]; omega
    · obtain rfl : k = len := by omega
      have HT : Hid (l.take k = l) := by show _ = _; exact List.take_of_length_le (by rw [HL.out]; omega)
      have hn2 := nv_not d
      obtain ⟨z, hz⟩ : ∃ z, z = ~~~ d := ⟨_, rfl⟩
      rw [← hz] at hn2
      have HZ := Lib.hid hz
      clear hz
      go_wp2
      go_ret
      exact ⟨ret_int (by first | (rw [HZ.out, HD.out, HT.out, HM.out]; rfl) | (rw [hn2, HZ.out, HD.out, HT.out, HM.out]; rfl)), rfl⟩

set_option maxHeartbeats 400000 in
theorem sum_any (A : Option Addr) (len cap B : Nat) (l : List UInt8) (w : World) (hA : Has w B A len (l.map bv)) (hlen : len ≤ 1000000000) :
    Calls Try.prog 90 #[.slice A len cap] w fun e w' => e = .returned (.int .u32 (nv (crcSum l))) ∧ w = w' := by
  have hu := update_any 0#32 A len cap B l w hA hlen
  rw [nv_zero] at hu
  go_enter Try.func90, Try.ntmps90
  go_wp2_with fail
  refine hu.mono ?_
  rintro e w' ⟨rfl, rfl⟩
  go_wp2
  go_ret
  exact ⟨rfl, rfl⟩

set_option maxRecDepth 20000 in
set_option maxHeartbeats 1000000 in
theorem refUpdate_any (s : W32) (A : Option Addr) (len cap B : Nat) (l : List UInt8) (w : World) (hA : Has w B A len (l.map bv)) (hlen : len ≤ 1000000000) :
    Calls Try.prog 102 #[.int .u32 (nv s), .slice A len cap] w fun e w' => e = .returned (.int .u32 (nv (crcUpd s l))) ∧ w = w' := by
  have HL : Hid (l.length = len) := by show _ = _; simpa using hA.1
  have HA := Lib.hid hA
  clear hA
  have hn := nv_not s
  obtain ⟨m, hm⟩ : ∃ m, m = ~~~ s := ⟨_, rfl⟩
  rw [← hm] at hn
  have HM := Lib.hid hm
  clear hm
  go_enter Try.func102, Try.ntmps102
  go_wp2
  go_loop [5, 6] (fun v i => ∃ (k : Nat) (d : W32), k ≤ len ∧ i = .int .i64 k ∧ v = .int .u32 (nv d) ∧ d = crcU m (l.take k)) (fun _ i => len - (intOf i).toNat)
  case atStart => exact ⟨0, m, Nat.zero_le _, rfl, rfl, rfl⟩
  case round =>
    obtain ⟨k, d, hk, rfl, rfl, hd⟩ := hrel
    have HD := Lib.hid hd
    clear hd
    by_cases hlt : k < len
    · have hks : k < l.length := by rw [HL.out]; exact hlt
      obtain ⟨b, off, rfl, hb, hc⟩ := HA.out.at_ hlt
      rw [List.getElem_map, bv_eq] at hc
      have HN := Lib.hid (upd_next m l k hks)
      have hx := nv_xor_byte d l[k]
      obtain ⟨x, hxe⟩ : ∃ x, x = d ^^^ b32 l[k] := ⟨_, rfl⟩
      rw [← hxe] at hx
      have HX := Lib.hid hxe
      clear hxe
      have hbl := byte_lt l[k]
      go_wp2
      go_loop [5, 7] (fun v i => ∃ (j : Nat) (y : W32), j ≤ 8 ∧ i = .int .i64 j ∧ v = .int .u32 (nv y) ∧ y = stepN j x) (fun _ i => 8 - (intOf i).toNat)
      case atStart => exact ⟨0, x, Nat.zero_le _, rfl, rfl, rfl⟩
      case round =>
        obtain ⟨j, y, hj, rfl, rfl, hy⟩ := hrel
        have HY := Lib.hid hy
        clear hy
        by_cases hjlt : j < 8
        · have HJ := Lib.hid (stepN_succ j x)
          go_wp2_with (go_at_call 108; refine (refStep_any _ _).mono ?_; rintro e w' ⟨rfl, rfl⟩)
          go_round
          case rel => exact ⟨j + 1, _, by omega, by go_num, rfl, by rw [HJ.out, HY.out]⟩
          case measure => simp [intOf]; omega
        · obtain rfl : j = 8 := by omega
          go_wp2
          go_round
          case rel => exact ⟨k + 1, _, by omega, by go_num, rfl, by rw [HY.out, HN.out, HX.out, HD.out]⟩
          case measure => simp [intOf]; omega
    · obtain rfl : k = len := by omega
      have HT : Hid (l.take k = l) := by show _ = _; exact List.take_of_length_le (by rw [HL.out]; omega)
      have hn2 := nv_not d
      obtain ⟨z, hz⟩ : ∃ z, z = ~~~ d := ⟨_, rfl⟩
      rw [← hz] at hn2
      have HZ := Lib.hid hz
      clear hz
      go_wp2
      go_ret
      exact ⟨ret_int (by first | (rw [HZ.out, HD.out, HT.out, HM.out]; rfl) | (rw [hn2, HZ.out, HD.out, HT.out, HM.out]; rfl)), rfl⟩

set_option maxHeartbeats 400000 in
theorem refSum_any (A : Option Addr) (len cap B : Nat) (l : List UInt8) (w : World) (hA : Has w B A len (l.map bv)) (hlen : len ≤ 1000000000) :
    Calls Try.prog 92 #[.slice A len cap] w fun e w' => e = .returned (.int .u32 (nv (crcSum l))) ∧ w = w' := by
  have hu := refUpdate_any 0#32 A len cap B l w hA hlen
  rw [nv_zero] at hu
  go_enter Try.func92, Try.ntmps92
  go_wp2_with fail
  refine hu.mono ?_
  rintro e w' ⟨rfl, rfl⟩
  go_wp2
  go_ret
  exact ⟨rfl, rfl⟩
end

section
open Go.RowKit

theorem byte_of (c : W32) (d : Nat) : (((UInt8.ofNat (c.toNat / d)).toNat : Nat) : Int) = nv c / (d : Int) % 256 := by
  rw [UInt8.toNat_ofNat']
  unfold nv
  simp
theorem byte_of0 (c : W32) : (((UInt8.ofNat c.toNat).toNat : Nat) : Int) = nv c % 256 := by
  rw [UInt8.toNat_ofNat']
  unfold nv
  simp

set_option maxHeartbeats 1000000 in
theorem fixed_any (s : W32) (w : World) : Calls Try.prog 91 #[.int .u32 (nv s)] w fun e w' => (∃ g, e = .returned (.slice (some ⟨g, 0, none⟩) 4 4) ∧ Has w' w'.heap.size (some ⟨g, 0, none⟩) 4 ((fixedB s).map bv)) ∧ Below w.heap.size w w' := by
  have hge := nv_ge s
  have hlt := nv_lt s
  obtain ⟨v0, hv0⟩ : ∃ v, nv s % 256 = v := ⟨_, rfl⟩
  obtain ⟨v1, hv1⟩ : ∃ v, nv s / 256 % 256 = v := ⟨_, rfl⟩
  obtain ⟨v2, hv2⟩ : ∃ v, nv s / 65536 % 256 = v := ⟨_, rfl⟩
  obtain ⟨v3, hv3⟩ : ∃ v, nv s / 16777216 = v := ⟨_, rfl⟩
  have HV := Lib.hid (show (fixedB s).map bv = [.int .u8 v0, .int .u8 v1, .int .u8 v2, .int .u8 v3] by
    rw [← hv0, ← hv1, ← hv2, ← hv3]
    have e1 := byte_of s 256
    have e2 := byte_of s 65536
    have e3 : (((UInt8.ofNat (s.toNat / 16777216)).toNat : Nat) : Int) = nv s / 16777216 := by rw [byte_of s 16777216]; omega
    simp only [fixedB, List.map_cons, List.map_nil, bv_eq, byte_of0, e1, e2, e3]
    rfl)
  go_enter Try.func91, Try.ntmps91
  go_wp2
  go_ret
  refine ⟨⟨w.heap.size, rfl, ?_⟩, (Below.refl _ _).alloc (Nat.le_refl _) _⟩
  rw [HV.out]
  have hh := Has.laid w 5 #[.int .u8 v0, .int .u8 v1, .int .u8 v2, .int .u8 v3] (0, 0) 4 _ rfl rfl
  exact hh.more (by show w.heap.size + 1 ≤ (w.heap.push _).size; simp)

theorem fixedW_nv (p q r s : UInt8) : nv (fixedW p q r s) = (p.toNat : Int) + (q.toNat : Int) * 256 + (r.toNat : Int) * 65536 + (s.toNat : Int) * 16777216 := by
  unfold nv
  rw [fixedW_toNat]
  omega

set_option maxHeartbeats 1000000 in
theorem decodeFixed_any (A : Option Addr) (cap B : Nat) (p q r s : UInt8) (w : World) (hA : Has w B A 4 ([p, q, r, s].map bv)) :
    Calls Try.prog 103 #[.slice A 4 cap] w fun e w' => e = .returned (.tuple #[.int .u32 (nv (fixedW p q r s)), .int .i64 0]) ∧ Below w.heap.size w w' := by
  obtain ⟨b, off, rfl, _, hc⟩ := hA.2 (by decide)
  obtain ⟨y0, hy0⟩ : ∃ v : Int, v = (p.toNat : Int) := ⟨_, rfl⟩
  obtain ⟨y1, hy1⟩ : ∃ v : Int, v = (q.toNat : Int) := ⟨_, rfl⟩
  obtain ⟨y2, hy2⟩ : ∃ v : Int, v = (r.toNat : Int) := ⟨_, rfl⟩
  obtain ⟨y3, hy3⟩ : ∃ v : Int, v = (s.toNat : Int) := ⟨_, rfl⟩
  have hc0 : w.cell? ⟨b, off, none⟩ = some (.int .u8 y0) := by rw [hy0]; exact hc 0 (by simp)
  have hc1 : w.cell? ⟨b, off + 1, none⟩ = some (.int .u8 y1) := by rw [hy1]; exact hc 1 (by simp)
  have hc2 : w.cell? ⟨b, off + 2, none⟩ = some (.int .u8 y2) := by rw [hy2]; exact hc 2 (by simp)
  have hc3 : w.cell? ⟨b, off + 3, none⟩ = some (.int .u8 y3) := by rw [hy3]; exact hc 3 (by simp)
  have hv := fixedW_nv p q r s
  rw [← hy0, ← hy1, ← hy2, ← hy3] at hv
  have HV := Lib.hid hv
  have g0 : 0 ≤ y0 ∧ y0 < 256 := by have := byte_lt p; omega
  have g1 : 0 ≤ y1 ∧ y1 < 256 := by have := byte_lt q; omega
  have g2 : 0 ≤ y2 ∧ y2 < 256 := by have := byte_lt r; omega
  have g3 : 0 ≤ y3 ∧ y3 < 256 := by have := byte_lt s; omega
  obtain ⟨g00, g01⟩ := g0
  obtain ⟨g10, g11⟩ := g1
  obtain ⟨g20, g21⟩ := g2
  obtain ⟨g30, g31⟩ := g3
  clear hv hy0 hy1 hy2 hy3 hc hA
  go_enter Try.func103, Try.ntmps103
  go_wp2
  go_quiet (fail)
  go_wp2
  go_ret2
  exact ⟨by rw [HV.out]; rfl, below_drewN (Below.refl _ _) _⟩
end

section
open Go.RowKit

/-- make([]byte, 0, c). -/
theorem wpList_make_room (w : World) {ops : Array Oper} {rest : List Oper} {o : Oper} {a : Act} {Q : Exit → Act → World → Prop}
    (hg : o.guard = none) (l c : Operand) (hop : o.op = Op.makeSlice 34 l c) (n : Int) (hl : a.eval l = .int .i64 0) (hc : a.eval c = .int .i64 n) (h0 : 0 ≤ n) (hn : n ≤ 4000000000)
    (h : ∀ v' w', w'.ownsRow w.heap.size 5 1 v' 0 [] → Below w.heap.size w w' → wpList Try.prog ops Q rest (a.put o.dst v') w') : wpList Try.prog ops Q (o :: rest) a w := by
  refine wpList_plain hg fun K hK' => ?_
  obtain ⟨i, hi, hz0, hz1, hz2⟩ := info_parts infoU8
  have hrun := run_make (P := Try.prog) w 34 5 i (.int .u8 0) tyBs hi hz0 .i64 .i64 0 n (by omega) (by omega) (by rw [hz2]; omega) (by omega)
  rw [hz1, Nat.mul_one] at hrun
  have hm : madeCells (Value.int .u8 0).cells n.toNat = zeros n.toNat := made_u8 _
  rw [hm] at hrun
  have := h (.slice (some ⟨w.heap.size, 0, none⟩) 0 n.toNat) (w.alloc (.cells (zeros n.toNat) 5))
    ⟨rfl, .inr ⟨w.heap.size, n.toNat, zeros n.toNat, rfl, Nat.le_refl _, by show (w.heap.push _)[w.heap.size]? = _; simp, Nat.zero_le _, by unfold maxLen; omega, by simp [zeros], by simp⟩⟩
    ((Below.refl _ _).alloc (Nat.le_refl _) _)
  unfold Oper.wp
  simp [execOp, hop, hl, hc, hrun, Result.andThen]
  exact hK' _ _ this

/-- A part of a slice. -/
theorem Has.part {w : World} {B n b off : Nat} {xs : List Value} (h : Has w B (some ⟨b, off, none⟩) n xs) (s k : Nat) (hs : s + k ≤ n) : Has w B (some ⟨b, off + s, none⟩) k ((xs.drop s).take k) :=
  ⟨by have := h.1; simp; omega, fun h0 => by
    obtain ⟨b', off', e, hb, hc⟩ := h.2 (by omega)
    injection e with e
    injection e with e1 e2 _
    subst e1 e2
    refine ⟨b, off + s, rfl, hb, fun j hj => ?_⟩
    have hj' : j < k := by simp at hj; omega
    have := hc (s + j) (by have := h.1; omega)
    rw [← Nat.add_assoc] at this
    rw [this]
    simp⟩
end

section
open Go.RowKit

def Yes (w : World) (e : Ending) (w' : World) : Prop := e = .returned (.bool true) ∧ Below w.heap.size w w'
theorem yes_of {w w1 w' : World} {e : Ending} (hb : Below w.heap.size w w1) (h : Yes w1 e w') : Yes w e w' := ⟨h.1, hb.trans (h.2.mono hb.size)⟩
end

section
open Go.RowKit

theorem Has.tail8 {w : World} {B n b off : Nat} {l : List UInt8} (h : Has w B (some ⟨b, off, none⟩) n (l.map bv)) (s : Nat) (hs : s ≤ n) : Has w B (some ⟨b, off + s, none⟩) (n - s) ((l.drop s).map bv) := by
  have h1 := h.part s (n - s) (by omega)
  have hl : l.length = n := by simpa using h.1
  rwa [← List.map_drop, ← List.map_take, List.take_of_length_le (by simp; omega)] at h1
theorem Has.sub8 {w : World} {B n b off : Nat} {l : List UInt8} (h : Has w B (some ⟨b, off, none⟩) n (l.map bv)) (s k : Nat) (hs : s + k ≤ n) : Has w B (some ⟨b, off + s, none⟩) k (((l.drop s).take k).map bv) := by
  have h1 := h.part s k hs
  rwa [← List.map_drop, ← List.map_take] at h1
theorem Has.head8 {w : World} {B n : Nat} {A : Option Addr} {l : List UInt8} (h : Has w B A n (l.map bv)) (k : Nat) (hs : k ≤ n) : Has w B A k ((l.take k).map bv) := by
  have h1 := h.take k hs
  rwa [← List.map_take] at h1
theorem cell_bt {w : World} {B n b off : Nat} {l : List UInt8} (h : Has w B (some ⟨b, off, none⟩) n (l.map bv)) (k : Nat) (hk : k < n) : w.cell? ⟨b, off + k, none⟩ = some (.int .u8 ((l.getD k 0).toNat : Int)) := by
  have hl : l.length = n := by simpa using h.1
  obtain ⟨b', off', e, _, hc⟩ := h.at_ hk
  injection e with e
  injection e with e1 e2 _
  subst e1 e2
  rw [hc, List.getElem_map, bv_eq, List.getD_eq_getElem?_getD, List.getElem?_eq_getElem (by omega), Option.getD_some]
theorem or_32 (a b : Int) (k : Nat) (ha0 : 0 ≤ a) (ha : a.toNat < 2 ^ k) (ha2 : a < 4294967296) (hb0 : 0 ≤ b) (hb : b * 2 ^ k < 4294967296) : bits .or .u32 a (b * 2 ^ k) = a + b * 2 ^ k := by
  obtain ⟨m, rfl⟩ := Int.eq_ofNat_of_zero_le ha0
  obtain ⟨n, rfl⟩ := Int.eq_ofNat_of_zero_le hb0
  have hp : (n : Int) * 2 ^ k = ((2 ^ k * n : Nat) : Int) := by push_cast; exact Int.mul_comm _ _
  rw [hp] at hb ⊢
  have hm : m < 2 ^ k := by simpa using ha
  rw [u32_or_nat _ _ (by omega) (by omega), Nat.or_comm, ← Nat.two_pow_add_eq_or_of_lt hm]
  push_cast
  omega
theorem wordB_nv (l : List UInt8) : nv (wordB l) = ((l.getD 0 0).toNat : Int) + ((l.getD 1 0).toNat : Int) * 256 + ((l.getD 2 0).toNat : Int) * 65536 + ((l.getD 3 0).toNat : Int) * 16777216 := fixedW_nv _ _ _ _

set_option maxHeartbeats 1000000 in
theorem number_any (b off len cap B : Nat) (l : List UInt8) (w : World) (hA : Has w B (some ⟨b, off, none⟩) len (l.map bv)) (h4 : 4 ≤ len) :
    Calls Try.prog 100 #[.slice (some ⟨b, off, none⟩) len cap] w fun e w' => e = .returned (.int .u32 (nv (wordB l))) ∧ ∃ m, w' = w.drewN m := by
  have c0 : w.cell? ⟨b, off, none⟩ = some (.int .u8 ((l.getD 0 0).toNat : Int)) := cell_bt hA 0 (by omega)
  have c1 : w.cell? ⟨b, off + 1, none⟩ = some (.int .u8 ((l.getD 1 0).toNat : Int)) := cell_bt hA 1 (by omega)
  have c2 : w.cell? ⟨b, off + 2, none⟩ = some (.int .u8 ((l.getD 2 0).toNat : Int)) := cell_bt hA 2 (by omega)
  have c3 : w.cell? ⟨b, off + 3, none⟩ = some (.int .u8 ((l.getD 3 0).toNat : Int)) := cell_bt hA 3 (by omega)
  have hv := wordB_nv l
  have k0 := byte_lt (l.getD 0 0)
  have k1 := byte_lt (l.getD 1 0)
  have k2 := byte_lt (l.getD 2 0)
  have k3 := byte_lt (l.getD 3 0)
  obtain ⟨y0, hy0⟩ : ∃ v : Int, v = ((l.getD 0 0).toNat : Int) := ⟨_, rfl⟩
  obtain ⟨y1, hy1⟩ : ∃ v : Int, v = ((l.getD 1 0).toNat : Int) := ⟨_, rfl⟩
  obtain ⟨y2, hy2⟩ : ∃ v : Int, v = ((l.getD 2 0).toNat : Int) := ⟨_, rfl⟩
  obtain ⟨y3, hy3⟩ : ∃ v : Int, v = ((l.getD 3 0).toNat : Int) := ⟨_, rfl⟩
  have g00 : 0 ≤ y0 := by omega
  have g10 : 0 ≤ y1 := by omega
  have g20 : 0 ≤ y2 := by omega
  have g30 : 0 ≤ y3 := by omega
  rw [← hy0] at c0 k0
  rw [← hy1] at c1 k1
  rw [← hy2] at c2 k2
  rw [← hy3] at c3 k3
  rw [← hy0, ← hy1, ← hy2, ← hy3] at hv
  have HV := Lib.hid hv
  have o1 := or_32 y0 y1 8 g00 (by omega) (by omega) g10 (by omega)
  have o2 := or_32 (y0 + y1 * 2 ^ 8) y2 16 (by omega) (by omega) (by omega) g20 (by omega)
  have o3 := or_32 (y0 + y1 * 2 ^ 8 + y2 * 2 ^ 16) y3 24 (by omega) (by omega) (by omega) g30 (by omega)
  have p8 : (2 : Int) ^ 8 = 256 := by decide
  have p16 : (2 : Int) ^ 16 = 65536 := by decide
  have p24 : (2 : Int) ^ 24 = 16777216 := by decide
  rw [p8] at o1
  rw [p8, p16] at o2
  rw [p8, p16, p24] at o3
  have h4' : (4 : Int) ≤ (len : Int) := by omega
  clear p8 p16 p24
  clear hv hy0 hy1 hy2 hy3 hA
  go_enter Try.func100, Try.ntmps100
  go_wp2
  go_quiet (fail)
  go_wp2
  go_ret
  exact ⟨ret_int (by rw [HV.out]), _, rfl⟩

theorem fixedB_bv (s : W32) : (fixedB s).map bv = [.int .u8 (nv s % 256), .int .u8 (nv s / 256 % 256), .int .u8 (nv s / 65536 % 256), .int .u8 (nv s / 16777216)] := by
  have hge := nv_ge s
  have hlt := nv_lt s
  have e1 := byte_of s 256
  have e2 := byte_of s 65536
  have e3 : (((UInt8.ofNat (s.toNat / 16777216)).toNat : Nat) : Int) = nv s / 16777216 := by rw [byte_of s 16777216]; omega
  simp only [fixedB, List.map_cons, List.map_nil, bv_eq, byte_of0, e1, e2, e3]
  rfl

set_option maxHeartbeats 1000000 in
theorem frNum_any (base n : Nat) (vs : Value) (l : List UInt8) (s : W32) (w : World) (hown : w.ownsRow base 5 1 vs n (l.map bv)) (hbase : base ≤ w.heap.size) (hn : n ≤ 1000000000) :
    Calls Try.prog 89 #[vs, .int .u32 (nv s)] w fun e w' => (∃ v', e = .returned v' ∧ w'.ownsRow base 5 1 v' (n + 4) ((l ++ fixedB s).map bv)) ∧ Below base w w' := by
  obtain ⟨i5, hi5, hz0, hz1, hz2⟩ := info_parts infoU8
  have hge := nv_ge s
  have hlt := nv_lt s
  have hfix := fixedB_bv s
  obtain ⟨v0, hv0⟩ : ∃ v, nv s % 256 = v := ⟨_, rfl⟩
  obtain ⟨v1, hv1⟩ : ∃ v, nv s / 256 % 256 = v := ⟨_, rfl⟩
  obtain ⟨v2, hv2⟩ : ∃ v, nv s / 65536 % 256 = v := ⟨_, rfl⟩
  obtain ⟨v3, hv3⟩ : ∃ v, nv s / 16777216 = v := ⟨_, rfl⟩
  rw [hv0, hv1, hv2, hv3] at hfix
  have HV := Lib.hid hfix
  clear hfix
  have hb := (Below.refl base w).alloc hbase (.cells #[.int .u8 v0, .int .u8 v1, .int .u8 v2, .int .u8 v3] 5)
  have hown1 := hown.alloc (.cells #[.int .u8 v0, .int .u8 v1, .int .u8 v2, .int .u8 v3] 5)
  have hh := Has.laid w 5 #[.int .u8 v0, .int .u8 v1, .int .u8 v2, .int .u8 v3] (0, 0) 4 _ rfl rfl
  go_enter Try.func89, Try.ntmps89
  go_wp2_with (at_builtin; refine wpList_app_has _ rfl _ _ 34 rfl base 5 i5 (.int .u8 0) 1 tyBs hi5 hz0 hz1 hz2 rfl _ _ _ (by exact rfl) hown1 _ 4 4 _ [.int .u8 v0, .int .u8 v1, .int .u8 v2, .int .u8 v3] (by exact rfl) (by intro e; cases e) hh (by rw [← HV.out]; exact one_bytes _) (by unfold maxLen; omega) (by omega) hb hbase ?_; intro v' w' hown' hb' _)
  go_ret
  rw [← HV.out, ← List.map_append] at hown'
  exact ⟨⟨v', rfl, hown'⟩, hb'⟩

/-- The size of a frame. -/
def szB (n : Int) : Int := if n < 0 ∨ 1024 < n then 0 else 14 + n
theorem szB_no {n : Int} (h : n < 0 ∨ 1024 < n) : szB n = 0 := by unfold szB; rw [if_pos h]
theorem szB_yes {n : Int} (h0 : 0 ≤ n) (h1 : n ≤ 1024) : szB n = 14 + n := by unfold szB; rw [if_neg (by omega)]
attribute [irreducible] szB
set_option maxHeartbeats 400000 in
theorem frSize_any (n : Int) (w : World) : Calls Try.prog 56 #[.int .i64 n] w fun e w' => e = .returned (.int .i64 (szB n)) ∧ w = w' := by
  by_cases h0 : n < 0
  · have H := Lib.hid (szB_no (.inl h0))
    go_enter Try.func56, Try.ntmps56
    go_wp2
    go_ret
    exact ⟨ret_int H.out.symm, rfl⟩
  · by_cases h1 : 1024 < n
    · have H := Lib.hid (szB_no (.inr h1))
      go_enter Try.func56, Try.ntmps56
      go_wp2
      go_ret
      exact ⟨ret_int H.out.symm, rfl⟩
    · have H := Lib.hid (szB_yes (by omega) (by omega : n ≤ 1024))
      go_enter Try.func56, Try.ntmps56
      go_wp2
      go_ret
      exact ⟨ret_int H.out.symm, rfl⟩
end

section
open Go.RowKit

theorem two_bv (n : Nat) (hn : n ≤ 1024) : ([UInt8.ofNat n, UInt8.ofNat (n / 256)]).map bv = [.int .u8 ((n : Int) % 256), .int .u8 ((n : Int) / 256)] := by
  simp only [List.map_cons, List.map_nil, bv_eq, UInt8.toNat_ofNat']
  rw [show (((n % 2 ^ 8 : Nat)) : Int) = (n : Int) % 256 by omega, show (((n / 256 % 2 ^ 8 : Nat)) : Int) = (n : Int) / 256 by omega]

set_option maxHeartbeats 400000 in
theorem encode_no (e q : W32) (A : Option Addr) (len cap : Nat) (w : World) (hlen : 1024 < len) (hl : len ≤ 1000000000) :
    Calls Try.prog 54 #[.int .u32 (nv e), .int .u32 (nv q), .slice A len cap] w fun r w' => r = .returned (.tuple #[.slice none 0 0, .int .i64 3]) ∧ w = w' := by
  have hlen' : (1024 : Int) < (len : Int) := by omega
  go_enter Try.func54, Try.ntmps54
  go_wp2
  go_ret2
  exact ⟨rfl, rfl⟩
set_option maxHeartbeats 400000 in
theorem refEncode_no (e q : W32) (A : Option Addr) (len cap : Nat) (w : World) (hlen : 1024 < len) (hl : len ≤ 1000000000) :
    Calls Try.prog 55 #[.int .u32 (nv e), .int .u32 (nv q), .slice A len cap] w fun r w' => r = .returned (.tuple #[.slice none 0 0, .int .i64 3]) ∧ w = w' := by
  have hlen' : (1024 : Int) < (len : Int) := by omega
  go_enter Try.func55, Try.ntmps55
  go_wp2
  go_ret2
  exact ⟨rfl, rfl⟩

set_option maxHeartbeats 2000000 in
theorem encode_yes (e q : W32) (A : Option Addr) (len cap B : Nat) (l : List UInt8) (w : World) (hA : Has w B A len (l.map bv)) (hcap : A = none → cap = 0) (hlen : len ≤ 1024) (hB : B ≤ w.heap.size) :
    Calls Try.prog 54 #[.int .u32 (nv e), .int .u32 (nv q), .slice A len cap] w fun r w' =>
      (∃ v, r = .returned (.tuple #[v, .int .i64 0]) ∧ w'.ownsRow w.heap.size 5 1 v (14 + len) ((frameB e q l).map bv)) ∧ Below w.heap.size w w' := by
  obtain ⟨i5, hi5, hz0, hz1, hz2⟩ := info_parts infoU8
  have HL : Hid (l.length = len) := by show _ = _; simpa using hA.1
  have hlen' : ¬ (1024 : Int) < (len : Int) := by omega
  have hsz := frSize_any (len : Int) w
  rw [szB_yes (by omega) (by omega)] at hsz
  have htwo := two_bv len hlen
  obtain ⟨v0, hv0⟩ : ∃ v, (len : Int) % 256 = v := ⟨_, rfl⟩
  obtain ⟨v1, hv1⟩ : ∃ v, (len : Int) / 256 = v := ⟨_, rfl⟩
  have hv10 : 0 ≤ v1 := by omega
  have hv11 : v1 < 256 := by omega
  rw [hv0, hv1] at htwo
  have HT := Lib.hid htwo
  have HB := Lib.hid (show [UInt8.ofNat len, UInt8.ofNat (len / 256)] ++ fixedB e ++ fixedB q ++ l = bodyB e q l by unfold bodyB hdB; rw [HL.out])
  have HA := Lib.hid hA
  obtain ⟨N, hN⟩ : ∃ N, N = 10 + len := ⟨_, rfl⟩
  have HN := Lib.hid hN
  have hNb : N ≤ 1034 := by omega
  clear htwo hA hN
  go_enter Try.func54, Try.ntmps54
  go_wp2_with fail
  refine hsz.mono ?_
  rintro r w' ⟨rfl, rfl⟩
  go_wp2_with (first
    | (at_make; refine wpList_make_room _ rfl _ _ rfl (14 + (len : Int)) (by exact rfl) (by exact rfl) (by omega) (by omega) ?_; intro vA wA hownA hbA; clear hsz)
    | (at_builtin; refine wpList_app_has _ rfl _ _ 34 rfl w.heap.size 5 i5 (.int .u8 0) 1 tyBs hi5 hz0 hz1 hz2 rfl _ _ _ (by exact rfl) (hownA.alloc _) _ 2 2 _ [.int .u8 v0, .int .u8 v1] (by exact rfl) (by intro e; cases e) (Has.two wA _ _ _) (by rw [← HT.out]; exact one_bytes _) (by unfold maxLen; omega) (by omega) (hbA.alloc hbA.size _) (Nat.le_refl _) ?_; intro vB wB hownB hbB _))
  refine (frNum_any w.heap.size 2 vB [UInt8.ofNat len, UInt8.ofNat (len / 256)] e wB (by rw [HT.out]; exact hownB) hbB.size (by omega)).mono ?_
  rintro r wC ⟨⟨vC, rfl, hownC⟩, hbC⟩
  replace hbC := hbB.trans hbC
  clear hownA hbA hownB hbB
  go_wp2_with fail
  refine (frNum_any w.heap.size 6 vC _ q wC hownC hbC.size (by omega)).mono ?_
  rintro r wD ⟨⟨vD, rfl, hownD⟩, hbD⟩
  replace hbD := hbC.trans hbD
  clear hownC hbC
  go_wp2_with (at_builtin; refine wpList_app_has _ rfl _ _ 34 rfl w.heap.size 5 i5 (.int .u8 0) 1 tyBs hi5 hz0 hz1 hz2 rfl _ _ _ (by exact rfl) hownD A len cap _ (l.map bv) (by exact rfl) hcap (HA.out.below' hbD hB) (one_bytes l) (by unfold maxLen; omega) (by omega) hbD (Nat.le_refl _) ?_; intro vE wE hownE hbE _; rw [← List.map_append, HB.out, show 6 + 4 + len = N from HN.out.symm] at hownE; clear hownD hbD; obtain ⟨A1, c1, rfl, h1, _⟩ := Has.of_own hownE)
  refine (sum_any A1 N c1 _ (bodyB e q l) wE h1 (by omega)).mono ?_
  rintro r w' ⟨rfl, rfl⟩
  go_wp2_with fail
  refine (frNum_any w.heap.size N _ (bodyB e q l) (crcSum (bodyB e q l)) wE hownE hbE.size (by omega)).mono ?_
  rintro r wF ⟨⟨vF, rfl, hownF⟩, hbF⟩
  replace hbF := hbE.trans hbF
  go_wp2
  go_ret2
  refine ⟨⟨vF, rfl, ?_⟩, hbF⟩
  rw [show 14 + len = N + 4 by have := HN.out; omega]
  exact hownF

set_option maxHeartbeats 2000000 in
theorem refEncode_yes (e q : W32) (A : Option Addr) (len cap B : Nat) (l : List UInt8) (w : World) (hA : Has w B A len (l.map bv)) (hcap : A = none → cap = 0) (hlen : len ≤ 1024) (hB : B ≤ w.heap.size) :
    Calls Try.prog 55 #[.int .u32 (nv e), .int .u32 (nv q), .slice A len cap] w fun r w' =>
      (∃ v, r = .returned (.tuple #[v, .int .i64 0]) ∧ w'.ownsRow w.heap.size 5 1 v (14 + len) ((frameB e q l).map bv)) ∧ Below w.heap.size w w' := by
  obtain ⟨i5, hi5, hz0, hz1, hz2⟩ := info_parts infoU8
  have HL : Hid (l.length = len) := by show _ = _; simpa using hA.1
  have hlen' : ¬ (1024 : Int) < (len : Int) := by omega
  have htwo := two_bv len hlen
  obtain ⟨v0, hv0⟩ : ∃ v, (len : Int) % 256 = v := ⟨_, rfl⟩
  obtain ⟨v1, hv1⟩ : ∃ v, (len : Int) / 256 = v := ⟨_, rfl⟩
  have hv10 : 0 ≤ v1 := by omega
  have hv11 : v1 < 256 := by omega
  have hvd : Int.tdiv (len : Int) 256 = v1 := by rw [Int.tdiv_eq_ediv_of_nonneg (by omega)]; exact hv1
  rw [hv0, hv1] at htwo
  have HT := Lib.hid htwo
  have HB := Lib.hid (show [UInt8.ofNat len, UInt8.ofNat (len / 256)] ++ fixedB e ++ fixedB q ++ l = bodyB e q l by unfold bodyB hdB; rw [HL.out])
  have HA := Lib.hid hA
  obtain ⟨N, hN⟩ : ∃ N, N = 10 + len := ⟨_, rfl⟩
  have HN := Lib.hid hN
  have hNb : N ≤ 1034 := by omega
  have hown0 := own_laid w 5 [.int .u8 v0, .int .u8 v1] 2 rfl (by unfold maxLen; omega)
  have hb0 := (Below.refl w.heap.size w).alloc (Nat.le_refl _) (.cells #[.int .u8 v0, .int .u8 v1] 5)
  clear htwo hA hN
  go_enter Try.func55, Try.ntmps55
  go_wp2_with fail
  refine (fixed_any e _).mono ?_
  rintro r wB ⟨⟨g, rfl, hf⟩, hbB⟩
  have hownB := own_below hown0 hbB
  replace hbB := hb0.trans (hbB.mono hb0.size)
  clear hown0 hb0
  go_wp2_with (at_builtin; refine wpList_app_has _ rfl _ _ 34 rfl w.heap.size 5 i5 (.int .u8 0) 1 tyBs hi5 hz0 hz1 hz2 rfl _ _ _ (by exact rfl) hownB _ 4 4 _ ((fixedB e).map bv) (by exact rfl) (by intro e; cases e) hf (one_bytes _) (by unfold maxLen; omega) (by omega) hbB (Nat.le_refl _) ?_; intro vC wC hownC hbC _; rw [show [Value.int .u8 v0, .int .u8 v1] = _ from HT.out.symm, ← List.map_append] at hownC; clear hownB hbB hf)
  refine (fixed_any q _).mono ?_
  rintro r wD ⟨⟨g2, rfl, hf⟩, hbD⟩
  replace hownC := own_below hownC hbD
  replace hbD := hbC.trans (hbD.mono hbC.size)
  clear hbC
  go_wp2_with (first
    | (at_builtin; refine wpList_app_has _ rfl _ _ 34 rfl w.heap.size 5 i5 (.int .u8 0) 1 tyBs hi5 hz0 hz1 hz2 rfl _ _ _ (by exact rfl) hownC _ 4 4 _ ((fixedB q).map bv) (by exact rfl) (by intro e; cases e) hf (one_bytes _) (by unfold maxLen; omega) (by omega) hbD (Nat.le_refl _) ?_; intro vE wE hownE hbE _; rw [← List.map_append] at hownE; clear hownC hbD hf)
    | (at_builtin; refine wpList_app_has _ rfl _ _ 34 rfl w.heap.size 5 i5 (.int .u8 0) 1 tyBs hi5 hz0 hz1 hz2 rfl _ _ _ (by exact rfl) hownE A len cap _ (l.map bv) (by exact rfl) hcap (HA.out.below' hbE hB) (one_bytes l) (by unfold maxLen; omega) (by omega) hbE (Nat.le_refl _) ?_; intro vF wF hownF hbF _; rw [← List.map_append, HB.out, show 2 + 4 + 4 + len = N from HN.out.symm] at hownF; clear hownE hbE; obtain ⟨A1, c1, rfl, h1, _⟩ := Has.of_own hownF))
  refine (refSum_any A1 N c1 _ (bodyB e q l) wF h1 (by omega)).mono ?_
  rintro r w' ⟨rfl, rfl⟩
  go_wp2_with fail
  refine (fixed_any (crcSum (bodyB e q l)) _).mono ?_
  rintro r wG ⟨⟨g3, rfl, hf⟩, hbG⟩
  replace hownF := own_below hownF hbG
  replace hbG := hbF.trans (hbG.mono hbF.size)
  clear hbF h1
  go_wp2_with (at_builtin; refine wpList_app_has _ rfl _ _ 34 rfl w.heap.size 5 i5 (.int .u8 0) 1 tyBs hi5 hz0 hz1 hz2 rfl _ _ _ (by exact rfl) hownF _ 4 4 _ ((fixedB (crcSum (bodyB e q l))).map bv) (by exact rfl) (by intro e; cases e) hf (one_bytes _) (by unfold maxLen; omega) (by omega) hbG (Nat.le_refl _) ?_; intro vH wH hownH hbH _; rw [← List.map_append] at hownH)
  go_ret2
  refine ⟨⟨vH, rfl, ?_⟩, hbH⟩
  rw [show 14 + len = N + 4 by have := HN.out; omega]
  exact hownH
end

end Go.Proofs.Ytbcfjkfkkklgbaa
