/-
  Contracts of the encoders of package wire (layer 3): copyWithRoom, appendNumber, AppendUint, AppendText, AppendFixed.
-/
import Derived.Test.YtealjcpgcghfpaaKeepB
import Derived.Test.YtealjcpgcghfpaaWirP
import Derived.Lib.AppendStr
import Derived.Laws.MakeOwn
import Derived.Lib.Varint
namespace Go.Proofs.Ytealjcpgcghfpaa
open Go.RowKit

/-- make([]byte, 0, c). -/
theorem wpList_make_room (w : World) {ops : Array Oper} {rest : List Oper} {o : Oper} {a : Act} {Q : Exit → Act → World → Prop}
    (hg : o.guard = none) (l c : Operand) (hop : o.op = Op.makeSlice 22 l c) (n : Int) (hl : a.eval l = .int .i64 0) (hc : a.eval c = .int .i64 n) (h0 : 0 ≤ n) (hn : n ≤ 4000000000)
    (h : ∀ v' w', w'.ownsRow w.heap.size 5 1 v' 0 [] → Below w.heap.size w w' → wpList Try.prog ops Q rest (a.put o.dst v') w') : wpList Try.prog ops Q (o :: rest) a w := by
  refine wpList_plain hg fun K hK' => ?_
  obtain ⟨i, hi, hz0, hz1, hz2⟩ := info_parts infoU8
  have hrun := run_make (P := Try.prog) w 22 5 i (.int .u8 0) tyBs hi hz0 .i64 .i64 0 n (by omega) (by omega) (by rw [hz2]; omega) (by omega)
  rw [hz1, Nat.mul_one] at hrun
  have hm : madeCells (Value.int .u8 0).cells n.toNat = zeros n.toNat := made_u8 _
  rw [hm] at hrun
  have := h (.slice (some ⟨w.heap.size, 0, none⟩) 0 n.toNat) (w.alloc (.cells (zeros n.toNat) 5))
    ⟨rfl, .inr ⟨w.heap.size, n.toNat, zeros n.toNat, rfl, Nat.le_refl _, by show (w.heap.push _)[w.heap.size]? = _; simp, Nat.zero_le _, by unfold maxLen; omega, by simp [zeros], by simp⟩⟩
    ((Below.refl _ _).alloc (Nat.le_refl _) _)
  unfold Oper.wp
  simp [execOp, hop, hl, hc, hrun, Result.andThen]
  exact hK' _ _ this

set_option maxHeartbeats 400000 in
theorem room_any (A : Option Addr) (len cap B : Nat) (l : List UInt8) (k : Int) (w : World) (hA : Has w B A len (l.map bv)) (hcap : A = none → cap = 0) (hlen : len ≤ 1000000000) (hB : B ≤ w.heap.size) (h0 : 0 ≤ k) (h1 : k ≤ 1000000000) :
    Calls Try.prog 24 #[.slice A len cap, .int .i64 k] w fun e w' => (∃ v, e = .returned v ∧ w'.ownsRow w.heap.size 5 1 v len (l.map bv)) ∧ Below w.heap.size w w' := by
  obtain ⟨i5, hi5, hz0, hz1, hz2⟩ := info_parts infoU8
  go_enter Try.func24, Try.ntmps24
  go_wp2_with (first
    | (at_make; refine wpList_make_room _ rfl _ _ rfl ((len : Int) + k) (by exact rfl) (by exact rfl) (by omega) (by omega) ?_; intro v1 w1 hown hb; have hA1 := hA.below' hb hB; clear hA)
    | (at_builtin; refine wpList_app_has _ rfl _ _ 22 rfl w.heap.size 5 i5 (.int .u8 0) 1 tyBs hi5 hz0 hz1 hz2 rfl _ _ _ (by exact rfl) hown A len cap _ (l.map bv) (by exact rfl) hcap hA1 (one_bytes l) (by unfold maxLen; omega) (by omega) hb (Nat.le_refl _) ?_; intro v' w' hown' hb' _))
  go_ret
  exact ⟨⟨v', rfl, by simpa using hown'⟩, hb'⟩

theorem byteOf (u : Nat) : ((UInt8.ofNat u).toNat : Int) = (u : Int) % 256 := by rw [UInt8.toNat_ofNat']; omega
theorem moreOf (u : Nat) : ((UInt8.ofNat (u % 128 + 128)).toNat : Int) = bits .or .u8 ((u : Int) % 256) 128 := by
  rw [Lib.u8_or128_any _ (by omega) (by omega), ofNat_toNat (by omega)]
  omega
theorem snoc_bytes (l acc : List UInt8) (y : UInt8) (v : Int) (h : v = (y.toNat : Int)) : (l ++ acc).map bv ++ [.int .u8 v] = (l ++ (acc ++ [y])).map bv := by
  subst h
  simp [bv]

set_option maxHeartbeats 1000000 in
theorem appNum_any (base n : Nat) (vs : Value) (l : List UInt8) (x : Int) (w : World) (hown : w.ownsRow base 5 1 vs n (l.map bv)) (hbase : base ≤ w.heap.size) (hn : n ≤ 1000000000) (h0 : 0 ≤ x) (h1 : x < 18446744073709551616) :
    Calls Try.prog 23 #[vs, .int .u64 x] w fun e w' => (∃ v', e = .returned v' ∧ w'.ownsRow base 5 1 v' (n + (enc x.toNat).length) ((l ++ enc x.toNat).map bv)) ∧ Below base w w' := by
  obtain ⟨i5, hi5, hz0, hz1, hz2⟩ := info_parts infoU8
  obtain ⟨E, hE⟩ : ∃ E, E = enc x.toNat := ⟨_, rfl⟩
  rw [← hE]
  have HE := Lib.hid hE
  clear hE
  go_enter Try.func23, Try.ntmps23
  go_wp2
  go_loopw [0, 1] (fun o v wr => ∃ (f : Nat) (z : Int) (acc : List UInt8), f ≤ 9 ∧ acc.length + f = 9 ∧ 0 ≤ z ∧ z < 18446744073709551616 ∧ v = .int .u64 z ∧ Hid (z.toNat < 128 ^ (f + 1) ∧ E = acc ++ encF (f + 1) z.toNat) ∧
      wr.ownsRow base 5 1 o (n + acc.length) ((l ++ acc).map bv) ∧ Below base w wr) (fun _ v _ => (intOf v).toNat)
  case atStart => exact ⟨9, x, [], Nat.le_refl _, rfl, h0, h1, rfl, by refine Lib.hid ⟨Nat.lt_of_lt_of_le (show x.toNat < 18446744073709551616 by omega) (by decide), ?_⟩; rw [HE.out]; simp [enc], by simpa using hown, Below.refl _ _⟩
  case round =>
    obtain ⟨f, z, acc, hf, haf, hz, hu, rfl, HR, hown2, hb⟩ := hrel
    have hlb : acc.length ≤ 9 := by omega
    have HAF := Lib.hid haf
    clear haf
    by_cases hge : 128 ≤ z
    · match f, hf, HR, HAF with
      | 0, _, HR, _ => exact absurd HR.out.1 (by simp; omega)
      | f + 1, hf, HR, HAF =>
        obtain ⟨y, hy⟩ : ∃ y, y = UInt8.ofNat (z.toNat % 128 + 128) := ⟨_, rfl⟩
        obtain ⟨yv, hyv⟩ : ∃ yv : Int, yv = (y.toNat : Int) := ⟨_, rfl⟩
        obtain ⟨zv, hzv⟩ : ∃ zv : Int, z % 256 = zv := ⟨_, rfl⟩
        obtain ⟨zq, hzq⟩ : ∃ zq : Int, z / 128 = zq := ⟨_, rfl⟩
        have hor : bits .or .u8 zv 128 = yv := by rw [hyv, hy, moreOf, ← hzv, show ((z.toNat : Nat) : Int) = z by omega]
        have hz0' : 0 ≤ zv := by omega
        have hz1' : zv < 256 := by omega
        have hq0 : 0 ≤ zq := by omega
        have hq1 : zq < 18446744073709551616 := by omega
        have hq2 : zq < z := by omega
        have HN : Hid (zq.toNat < 128 ^ (f + 1) ∧ E = (acc ++ [y]) ++ encF (f + 1) zq.toNat) := by
          have hp := HR.out.1
          rw [Nat.pow_succ] at hp
          have hq : zq.toNat = z.toNat / 128 := by omega
          refine Lib.hid ⟨by omega, ?_⟩
          rw [HR.out.2, encF_more _ (by omega), hy, hq]
          simp
        have HYV := Lib.hid hyv
        clear hy hyv HR
        go_wp2_with (at_builtin; refine wpList_app_one _ rfl _ _ 22 rfl base 5 i5 (.int .u8 0) 1 tyBs hi5 hz0 hz1 hz2 rfl _ (by exact rfl) _ _ _ (by exact rfl) hown2 (by exact rfl) (by unfold maxLen; omega) (by omega) hb hbase ?_; intro v' w' hown' hb' _)
        go_roundw
        case rel =>
          refine ⟨f, zq, acc ++ [y], by omega, by have := HAF.out; simp; omega, hq0, hq1, rfl, HN, ?_, hb'⟩
          have hs := snoc_bytes l acc y yv HYV.out
          rw [hs] at hown'
          simpa [Nat.add_assoc] using hown'
        case measure => simp [intOf]; omega
    · have hlt : z < 128 := by omega
      obtain ⟨y, hy⟩ : ∃ y, y = UInt8.ofNat z.toNat := ⟨_, rfl⟩
      have HZ := Lib.hid (show z = (y.toNat : Int) by rw [hy, byteOf, show ((z.toNat : Nat) : Int) = z by omega]; omega)
      have HN := Lib.hid (show E = acc ++ [y] by rw [HR.out.2, encF_last _ (by omega), hy])
      clear hy
      go_wp2_with (at_builtin; refine wpList_app_one _ rfl _ _ 22 rfl base 5 i5 (.int .u8 0) 1 tyBs hi5 hz0 hz1 hz2 rfl _ (by exact rfl) _ _ _ (by exact rfl) hown2 (by exact rfl) (by unfold maxLen; omega) (by omega) hb hbase ?_; intro v' w' hown' hb' _)
      go_ret
      refine ⟨⟨v', rfl, ?_⟩, hb'⟩
      have hs := snoc_bytes l acc y z HZ.out
      rw [hs] at hown'
      rw [HN.out]
      simpa [Nat.add_assoc] using hown'

set_option maxHeartbeats 400000 in
theorem appUint_any (A : Option Addr) (len cap B : Nat) (l : List UInt8) (x : Int) (w : World) (hA : Has w B A len (l.map bv)) (hcap : A = none → cap = 0) (hlen : len ≤ 100000000) (hB : B ≤ w.heap.size) (h0 : 0 ≤ x) (h1 : x < 18446744073709551616) :
    Calls Try.prog 10 #[.slice A len cap, .int .u64 x] w fun e w' => (∃ v, e = .returned v ∧ w'.ownsRow w.heap.size 5 1 v (len + (enc x.toNat).length) ((l ++ enc x.toNat).map bv)) ∧ Below w.heap.size w w' := by
  go_enter Try.func10, Try.ntmps10
  go_wp2_with fail
  refine (room_any A len cap B l 10 _ hA hcap (by omega) hB (by omega) (by omega)).mono ?_
  rintro e w1 ⟨⟨v, rfl, hown⟩, hb⟩
  clear hA
  go_wp2_with fail
  refine (appNum_any w.heap.size len v l x w1 hown hb.size (by omega) h0 h1).mono ?_
  rintro e w2 ⟨⟨v2, rfl, hown2⟩, hb2⟩
  go_wp2
  go_ret
  exact ⟨⟨v2, rfl, hown2⟩, hb.trans hb2⟩

theorem strCells_bv (s : ByteArray) : Lib.strCells s = (ls s).map bv := by
  unfold Lib.strCells ls
  rfl

set_option maxHeartbeats 400000 in
theorem appText_any (A : Option Addr) (len cap B : Nat) (l : List UInt8) (s : ByteArray) (w : World) (hA : Has w B A len (l.map bv)) (hcap : A = none → cap = 0) (hlen : len ≤ 100000000) (hB : B ≤ w.heap.size) (hs : s.size ≤ 100000000) :
    Calls Try.prog 11 #[.slice A len cap, .string s] w fun e w' => (∃ v, e = .returned v ∧ w'.ownsRow w.heap.size 5 1 v (len + (encT (ls s)).length) ((l ++ encT (ls s)).map bv)) ∧ Below w.heap.size w w' := by
  obtain ⟨i5, hi5, hz0, hz1, hz2⟩ := info_parts infoU8
  obtain ⟨E, hE⟩ : ∃ E, E = enc s.size := ⟨_, rfl⟩
  have hEl : E.length ≤ 10 := by rw [hE]; exact enc_len _
  have HE := Lib.hid (show encT (ls s) = E ++ ls s by unfold encT; rw [ls_length, hE])
  have HE2 := Lib.hid (show enc ((s.size : Int).toNat) = E by rw [Int.toNat_natCast, hE])
  clear hE
  go_enter Try.func11, Try.ntmps11
  go_wp2_with fail
  refine (room_any A len cap B l _ _ hA hcap (by omega) hB (by omega) (by omega)).mono ?_
  rintro e w1 ⟨⟨v, rfl, hown⟩, hb⟩
  clear hA
  go_wp2_with fail
  refine (appNum_any w.heap.size len v l (s.size : Int) w1 hown hb.size (by omega) (by omega) (by omega)).mono ?_
  rintro e w2 ⟨⟨v2, rfl, hown2⟩, hb2⟩
  rw [HE2.out] at hown2
  replace hb2 := hb.trans hb2
  clear hown hb
  go_wp2_with (at_builtin; refine Lib.wpList_append_own_string _ rfl _ _ 22 9 rfl w.heap.size 5 i5 tyBs tyStr hi5 hz0 hz1 hz2 _ _ _ (by exact rfl) hown2 s (by exact rfl) (by unfold maxLen; omega) (by omega) hb2.size ?_; intro v3 w3 hown3 hg3 _; have hb3 := owns_below hown2 hb2 hb2.size hg3)
  go_ret
  refine ⟨⟨v3, rfl, ?_⟩, hb3⟩
  rw [strCells_bv, ← List.map_append] at hown3
  rw [HE.out, ← List.append_assoc, List.length_append, ← Nat.add_assoc, ls_length]
  exact hown3

end Go.Proofs.Ytealjcpgcghfpaa
