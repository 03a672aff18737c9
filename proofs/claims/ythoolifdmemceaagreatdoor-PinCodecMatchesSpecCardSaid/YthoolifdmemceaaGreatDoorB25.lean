/-
Contracts of the encoders of package wire (layer 3): copyWithRoom, appendNumber, AppendUint, AppendText, AppendFixed.
What a walk of a statement is told of a slice of bytes that came in ('In8').
Package pin: Encode.
The contract of wire.Uint (layer 3).
Contract of wire.Text.
-/
import Derived.Test.YthoolifdmemceaaGreatDoorB24
import Derived.Test.YthoolifdmemceaaGreatDoorB23
import Derived.Lib.AppendStr
import Derived.Laws.MakeOwn
import Derived.Lib.Varint
import Derived.Test.YthoolifdmemceaaGreatDoorB10
import Derived.Test.YthoolifdmemceaaGreatDoorB12
import Derived.Laws.BitsAllLaws
namespace Go.Proofs.YthoolifdmemceaaGreatDoor
section
open Go.RowKit

set_option maxHeartbeats 400000 in
theorem room_any (A : Option Addr) (len cap B : Nat) (l : List UInt8) (k : Int) (w : World) (hA : Has w B A len (l.map bv)) (hcap : A = none → cap = 0) (hlen : len ≤ 1000000000) (hB : B ≤ w.heap.size) (h0 : 0 ≤ k) (h1 : k ≤ 1000000000) :
    Calls Tryz.prog 27 #[.slice A len cap, .int .i64 k] w fun e w' => (∃ v, e = .returned v ∧ w'.ownsRow w.heap.size 5 1 v len (l.map bv)) ∧ Below w.heap.size w w' := by
  obtain ⟨i5, hi5, hz0, hz1, hz2⟩ := info_parts infoU8
  go_enter Tryz.func27, Tryz.ntmps27
  go_wp2_with (first
    | (at_make; refine wpList_make_room _ rfl _ _ rfl ((len : Int) + k) (by exact rfl) (by exact rfl) (by omega) (by omega) ?_; intro v1 w1 hown hb; have hA1 := hA.below' hb hB; clear hA)
    | (at_builtin; refine wpList_app_has _ rfl _ _ 24 rfl w.heap.size 5 i5 (.int .u8 0) 1 tyBs hi5 hz0 hz1 hz2 rfl _ _ _ (by exact rfl) hown A len cap _ (l.map bv) (by exact rfl) hcap hA1 (one_bytes l) (by unfold maxLen; omega) (by omega) hb (Nat.le_refl _) ?_; intro v' w' hown' hb' _))
  go_ret
  exact ⟨⟨v', rfl, by simpa using hown'⟩, hb'⟩

theorem byteOf (u : Nat) : ((UInt8.ofNat u).toNat : Int) = (u : Int) % 256 := by rw [UInt8.toNat_ofNat']; omega
theorem moreOf (u : Nat) : ((UInt8.ofNat (u % 128 + 128)).toNat : Int) = bits .or .u8 ((u : Int) % 256) 128 := by
  rw [Lib.u8_or128_any _ (by omega) (by omega), ofNat_toNat (by omega)]
  omega
theorem snoc_bytes (l acc : List UInt8) (y : UInt8) (v : Int) (h : v = (y.toNat : Int)) : (l ++ acc).map bv ++ [.int .u8 v] = (l ++ (acc ++ [y])).map bv := by
  subst h
  simp [bv]

set_option maxHeartbeats 1000000 in
theorem appNum_any (base n : Nat) (vs : Value) (l : List UInt8) (x : Int) (w : World) (hown : w.ownsRow base 5 1 vs n (l.map bv)) (hbase : base ≤ w.heap.size) (hn : n ≤ 1000000000) (h0 : 0 ≤ x) (h1 : x < 18446744073709551616) :
    Calls Tryz.prog 26 #[vs, .int .u64 x] w fun e w' => (∃ v', e = .returned v' ∧ w'.ownsRow base 5 1 v' (n + (enc x.toNat).length) ((l ++ enc x.toNat).map bv)) ∧ Below base w w' := by
  obtain ⟨i5, hi5, hz0, hz1, hz2⟩ := info_parts infoU8
  obtain ⟨E, hE⟩ : ∃ E, E = enc x.toNat := ⟨_, rfl⟩
  rw [← hE]
  have HE := Lib.hid hE
  clear hE
  go_enter Tryz.func26, Tryz.ntmps26
  go_wp2
  go_loopw [0, 1] (fun o v wr => ∃ (f : Nat) (z : Int) (acc : List UInt8), f ≤ 9 ∧ acc.length + f = 9 ∧ 0 ≤ z ∧ z < 18446744073709551616 ∧ v = .int .u64 z ∧ Hid (z.toNat < 128 ^ (f + 1) ∧ E = acc ++ encF (f + 1) z.toNat) ∧
      wr.ownsRow base 5 1 o (n + acc.length) ((l ++ acc).map bv) ∧ Below base w wr) (fun _ v _ => (intOf v).toNat)
  case atStart => exact ⟨9, x, [], Nat.le_refl _, rfl, h0, h1, rfl, by refine Lib.hid ⟨Nat.lt_of_lt_of_le (show x.toNat < 18446744073709551616 by omega) (by decide), ?_⟩; rw [HE.out]; simp [enc], by simpa using hown, Below.refl _ _⟩
  case round =>
    obtain ⟨f, z, acc, hf, haf, hz, hu, rfl, HR, hown2, hb⟩ := hrel
    have hlb : acc.length ≤ 9 := by omega
    have HAF := Lib.hid haf
    clear haf
    by_cases hge : 128 ≤ z
    · match f, hf, HR, HAF with
      | 0, _, HR, _ => exact absurd HR.out.1 (by simp; omega)
      | f + 1, hf, HR, HAF =>
        obtain ⟨y, hy⟩ : ∃ y, y = UInt8.ofNat (z.toNat % 128 + 128) := ⟨_, rfl⟩
        obtain ⟨yv, hyv⟩ : ∃ yv : Int, yv = (y.toNat : Int) := ⟨_, rfl⟩
        obtain ⟨zv, hzv⟩ : ∃ zv : Int, z % 256 = zv := ⟨_, rfl⟩
        obtain ⟨zq, hzq⟩ : ∃ zq : Int, z / 128 = zq := ⟨_, rfl⟩
        have hor : bits .or .u8 zv 128 = yv := by rw [hyv, hy, moreOf, ← hzv, show ((z.toNat : Nat) : Int) = z by omega]
        have hz0' : 0 ≤ zv := by omega
        have hz1' : zv < 256 := by omega
        have hq0 : 0 ≤ zq := by omega
        have hq1 : zq < 18446744073709551616 := by omega
        have hq2 : zq < z := by omega
        have HN : Hid (zq.toNat < 128 ^ (f + 1) ∧ E = (acc ++ [y]) ++ encF (f + 1) zq.toNat) := by
          have hp := HR.out.1
          rw [Nat.pow_succ] at hp
          have hq : zq.toNat = z.toNat / 128 := by omega
          refine Lib.hid ⟨by omega, ?_⟩
          rw [HR.out.2, encF_more _ (by omega), hy, hq]
          simp
        have HYV := Lib.hid hyv
        clear hy hyv HR
        go_wp2_with (at_builtin; refine wpList_app_one _ rfl _ _ 24 rfl base 5 i5 (.int .u8 0) 1 tyBs hi5 hz0 hz1 hz2 rfl _ (by exact rfl) _ _ _ (by exact rfl) hown2 (by exact rfl) (by unfold maxLen; omega) (by omega) hb hbase ?_; intro v' w' hown' hb' _)
        go_roundw
        case rel =>
          refine ⟨f, zq, acc ++ [y], by omega, by have := HAF.out; simp; omega, hq0, hq1, rfl, HN, ?_, hb'⟩
          have hs := snoc_bytes l acc y yv HYV.out
          rw [hs] at hown'
          simpa [Nat.add_assoc] using hown'
        case measure => simp [intOf]; omega
    · have hlt : z < 128 := by omega
      obtain ⟨y, hy⟩ : ∃ y, y = UInt8.ofNat z.toNat := ⟨_, rfl⟩
      have HZ := Lib.hid (show z = (y.toNat : Int) by rw [hy, byteOf, show ((z.toNat : Nat) : Int) = z by omega]; omega)
      have HN := Lib.hid (show E = acc ++ [y] by rw [HR.out.2, encF_last _ (by omega), hy])
      clear hy
      go_wp2_with (at_builtin; refine wpList_app_one _ rfl _ _ 24 rfl base 5 i5 (.int .u8 0) 1 tyBs hi5 hz0 hz1 hz2 rfl _ (by exact rfl) _ _ _ (by exact rfl) hown2 (by exact rfl) (by unfold maxLen; omega) (by omega) hb hbase ?_; intro v' w' hown' hb' _)
      go_ret
      refine ⟨⟨v', rfl, ?_⟩, hb'⟩
      have hs := snoc_bytes l acc y z HZ.out
      rw [hs] at hown'
      rw [HN.out]
      simpa [Nat.add_assoc] using hown'

set_option maxHeartbeats 400000 in
theorem appUint_any (A : Option Addr) (len cap B : Nat) (l : List UInt8) (x : Int) (w : World) (hA : Has w B A len (l.map bv)) (hcap : A = none → cap = 0) (hlen : len ≤ 100000000) (hB : B ≤ w.heap.size) (h0 : 0 ≤ x) (h1 : x < 18446744073709551616) :
    Calls Tryz.prog 14 #[.slice A len cap, .int .u64 x] w fun e w' => (∃ v, e = .returned v ∧ w'.ownsRow w.heap.size 5 1 v (len + (enc x.toNat).length) ((l ++ enc x.toNat).map bv)) ∧ Below w.heap.size w w' := by
  go_enter Tryz.func14, Tryz.ntmps14
  go_wp2_with fail
  refine (room_any A len cap B l 10 _ hA hcap (by omega) hB (by omega) (by omega)).mono ?_
  rintro e w1 ⟨⟨v, rfl, hown⟩, hb⟩
  clear hA
  go_wp2_with fail
  refine (appNum_any w.heap.size len v l x w1 hown hb.size (by omega) h0 h1).mono ?_
  rintro e w2 ⟨⟨v2, rfl, hown2⟩, hb2⟩
  go_wp2
  go_ret
  exact ⟨⟨v2, rfl, hown2⟩, hb.trans hb2⟩

theorem strCells_bv (s : ByteArray) : Lib.strCells s = (ls s).map bv := by
  unfold Lib.strCells ls
  rfl

set_option maxHeartbeats 400000 in
theorem appText_any (A : Option Addr) (len cap B : Nat) (l : List UInt8) (s : ByteArray) (w : World) (hA : Has w B A len (l.map bv)) (hcap : A = none → cap = 0) (hlen : len ≤ 100000000) (hB : B ≤ w.heap.size) (hs : s.size ≤ 100000000) :
    Calls Tryz.prog 13 #[.slice A len cap, .string s] w fun e w' => (∃ v, e = .returned v ∧ w'.ownsRow w.heap.size 5 1 v (len + (encT (ls s)).length) ((l ++ encT (ls s)).map bv)) ∧ Below w.heap.size w w' := by
  obtain ⟨i5, hi5, hz0, hz1, hz2⟩ := info_parts infoU8
  obtain ⟨E, hE⟩ : ∃ E, E = enc s.size := ⟨_, rfl⟩
  have hEl : E.length ≤ 10 := by rw [hE]; exact enc_len _
  have HE := Lib.hid (show encT (ls s) = E ++ ls s by unfold encT; rw [ls_length, hE])
  have HE2 := Lib.hid (show enc ((s.size : Int).toNat) = E by rw [Int.toNat_natCast, hE])
  clear hE
  go_enter Tryz.func13, Tryz.ntmps13
  go_wp2_with fail
  refine (room_any A len cap B l _ _ hA hcap (by omega) hB (by omega) (by omega)).mono ?_
  rintro e w1 ⟨⟨v, rfl, hown⟩, hb⟩
  clear hA
  go_wp2_with fail
  refine (appNum_any w.heap.size len v l (s.size : Int) w1 hown hb.size (by omega) (by omega) (by omega)).mono ?_
  rintro e w2 ⟨⟨v2, rfl, hown2⟩, hb2⟩
  rw [HE2.out] at hown2
  replace hb2 := hb.trans hb2
  clear hown hb
  go_wp2_with (at_builtin; refine Lib.wpList_append_own_string _ rfl _ _ 24 9 rfl w.heap.size 5 i5 tyBs tyStr hi5 hz0 hz1 hz2 _ _ _ (by exact rfl) hown2 s (by exact rfl) (by unfold maxLen; omega) (by omega) hb2.size ?_; intro v3 w3 hown3 hg3 _; have hb3 := owns_below hown2 hb2 hb2.size hg3)
  go_ret
  refine ⟨⟨v3, rfl, ?_⟩, hb3⟩
  rw [strCells_bv, ← List.map_append] at hown3
  rw [HE.out, ← List.append_assoc, List.length_append, ← Nat.add_assoc, ls_length]
  exact hown3
end

section
open Go.RowKit


/-- What a walk is told of a slice of bytes that came in. -/
def In8 (w : World) (a : Option Addr) (len cap : Nat) (zs : List Int) : Prop :=
  (a = none ∧ len = 0 ∧ cap = 0 ∧ zs = []) ∨
  ∃ x, a = some x ∧ len ≤ cap ∧ cap ≤ maxLen ∧ zs.length = cap ∧ (∀ i, i < zs.length → w.cell? (x.add i) = some (.int .u8 (zs.getD i 0))) ∧ ∀ n ∈ zs, (Lit.int .u8 n).wf = true
theorem eqL_refl (l : List UInt8) : eqL l l = true := by simp [eqL]
theorem map_append_bv (l m : List UInt8) : l.map bv ++ m.map bv = (l ++ m).map bv := by rw [List.map_append]

/-- The room of a row that a value owns is no more than the machine's. -/
theorem own_cap {w : World} {base e n : Nat} {v : Value} {xs : List Value} (h : w.ownsRow base e 1 v n xs) : ∀ A m c, v = .slice A m c → c ≤ maxLen := by
  rintro A m c rfl
  rcases h.2 with ⟨he, _⟩ | ⟨g, cap, cur, he, _, _, _, hc, _⟩
  · injection he with _ _ he; subst he; exact Nat.zero_le _
  · injection he with _ _ he; subst he; exact hc

/-- A row that a value owns and that is not empty, read as a list. -/
theorem has_own {w : World} {base e n : Nat} {v : Value} {xs : List Value} (h : w.ownsRow base e 1 v n xs) (hn : 0 < n) : ∃ g c, v = .slice (some ⟨g, 0, none⟩) n c ∧ Has w w.heap.size (some ⟨g, 0, none⟩) n xs ∧ n ≤ c := by
  obtain ⟨A, c, rfl, hh, hc⟩ := Has.of_own h
  obtain ⟨g, cap, he, _⟩ := owns_cell h hn
  injection he with h1 h2 h3
  subst h1
  exact ⟨g, c, rfl, hh, hc⟩
end

section
open Go.RowKit Go.Shelf

def PnEnc (F : FuncId) : Prop := ∀ (h : ByteArray) (s : Bool) (x : Int) (w : World), h.size ≤ 100000000 → Calls Tryz.prog F #[.agg #[.string h, .bool s, .int .i64 x]] w fun e w' =>
  (∃ v, e = .returned (.tuple #[v, .int .i64 (pinEnc ⟨ls h, s, x⟩).2]) ∧ w'.ownsRow w.heap.size 5 1 v (pinEnc ⟨ls h, s, x⟩).1.length ((pinEnc ⟨ls h, s, x⟩).1.map bv)) ∧ Below w.heap.size w w'

theorem pn_low {w : World} {base base' e size n : Nat} {v : Value} {xs : List Value} (h : w.ownsRow base e size v n xs) (hb : base' ≤ base) : w.ownsRow base' e size v n xs := by
  refine ⟨h.1, ?_⟩
  rcases h.2 with hn | ⟨g, cap, cur, hv, hg, rest⟩
  · exact .inl hn
  · exact .inr ⟨g, cap, cur, hv, Nat.le_trans hb hg, rest⟩
theorem enc_no {p : Pv} (h : pinOk p = false) : pinEnc p = ([], 1) := by unfold pinEnc; rw [if_pos h]
theorem enc_yes {p : Pv} (h : pinOk p = true) : pinEnc p = (pinE p, 0) := by unfold pinEnc; rw [if_neg (by rw [h]; decide)]
theorem pnEnc_any (hV : PnVal 9) : PnEnc 5 := by
  intro h s x w hh
  have cv := fun W => hV h s x W (by omega)
  cases hp : pinOk ⟨ls h, s, x⟩ with
  | false =>
    rw [hp] at cv
    have HE := Lib.hid (enc_no hp)
    clear hp
    go_enter Tryz.func5, Tryz.ntmps5
    go_wp2_with (first
      | (refine wpList_box_arr _ rfl 1 rfl _ _ rfl _ #[.string h, .bool s, .int .i64 x] (by exact rfl) (by exact rfl) ?_; intro W1 g1 hg1 hl1 hR1 hG1; have hR1 : RowPn W1 g1 h s x := hR1)
      | (refine wpList_load_pn (by rfl) _ rfl g1 (by exact rfl) _ _ _ hR1 ?_))
    refine (cv _).mono ?_
    rintro e w1 ⟨rfl, hb⟩
    have hb1 := below_row0 (Below.refl w.heap.size w) hG1 (Nat.le_refl _)
    go_wp2
    go_ret2
    refine ⟨⟨.slice none 0 0, ?_, ?_⟩, hb1.trans (hb.mono hb1.size)⟩
    · rw [HE.out]; rfl
    · rw [HE.out]; exact World.ownsRow_nil _ _ _ _
  | true =>
    rw [hp] at cv
    have HE := Lib.hid (enc_yes hp)
    obtain ⟨hv, hx0, hx1⟩ := pinOk_iff.1 hp
    have hl := vn_len hv
    change 0 ≤ x at hx0
    change x ≤ 1099511627776 at hx1
    change (ls h).length ≤ 253 at hl
    rw [ls_length] at hl
    have HP : Hid (pinE ⟨ls h, s, x⟩ = encT (ls h) ++ (enc (subN s) ++ enc x.toNat)) := Lib.hid rfl
    have l1 : (encT (ls h)).length ≤ 300 := by
      unfold encT
      have := enc_len (ls h).length
      rw [List.length_append, ls_length]
      rw [ls_length] at this
      omega
    have l2 := enc_len (subN s)
    have hwx : x % 18446744073709551616 = x := by omega
    clear hp hv
    go_enter Tryz.func5, Tryz.ntmps5
    go_wp2_with (first
      | (refine wpList_box_arr _ rfl 1 rfl _ _ rfl _ #[.string h, .bool s, .int .i64 x] (by exact rfl) (by exact rfl) ?_; intro W1 g1 hg1 hl1 hR1 hG1; have hR1 : RowPn W1 g1 h s x := hR1)
      | (refine wpList_load_pn (by rfl) _ rfl g1 (by exact rfl) _ _ _ hR1 ?_))
    refine (cv _).mono ?_
    rintro e w1 ⟨rfl, hb⟩
    have hb1 := below_row0 (Below.refl w.heap.size w) hG1 (Nat.le_refl _)
    have hR2 : RowPn w1 g1 h s x := Row.below hR1 hb hl1
    obtain ⟨x0, x1, x2⟩ := RowPn.cells hR2
    have l1' := Lib.hid l1
    have hwx := hwx
    cases s
    all_goals
      go_wp2_with fail
      refine (appText_any none 0 0 w1.heap.size [] h _ (Has.nil _ _ _) (fun _ => rfl) (by omega) (Nat.le_refl _) (by omega)).mono ?_
      rintro e w2 ⟨⟨v1, rfl, ho1⟩, hb2⟩
      rw [List.nil_append, Nat.zero_add] at ho1
      obtain ⟨A1, c1, rfl, hh1, hn1⟩ := Has.of_own ho1
      have hc1 := of_own_none ho1
      have hR3 : RowPn w2 g1 h _ x := Row.below hR2 hb2 (Row.lt hR2)
      clear ho1
      go_wp2_with fail
      refine (appUint_any A1 (encT (ls h)).length c1 w2.heap.size (encT (ls h)) _ _ hh1 hc1 (by omega) (Nat.le_refl _) (by omega) (by omega)).mono ?_
      rintro e w3 ⟨⟨v2, rfl, ho2⟩, hb3⟩
      obtain ⟨A2, c2, rfl, hh2, hn2⟩ := Has.of_own ho2
      have hc2 := of_own_none ho2
      have hR4 : RowPn w3 g1 h _ x := Row.below hR3 hb3 (Row.lt hR3)
      obtain ⟨y0, y1, y2⟩ := RowPn.cells hR4
      clear ho2
      go_wp2_with fail
      refine (appUint_any A2 _ c2 w3.heap.size _ x _ hh2 hc2 (Nat.le_trans (Nat.add_le_add l1'.out (enc_len _)) (by decide)) (Nat.le_refl _) hx0 (by omega)).mono ?_
      rintro e w4 ⟨⟨v3, rfl, ho3⟩, hb4⟩
      go_wp2
      go_ret2
      have hB1 := hb1.trans (hb.mono hb1.size)
      have hB2 := hB1.trans (hb2.mono hB1.size)
      have hB3 := hB2.trans (hb3.mono hB2.size)
      refine ⟨⟨v3, ?_, ?_⟩, hB3.trans (hb4.mono hB3.size)⟩
      · rw [HE.out]
        rfl
      · rw [HE.out]
        show World.ownsRow _ _ _ 1 v3 (pinE _).length ((pinE _).map bv)
        rw [HP.out, ← List.append_assoc, List.length_append, List.length_append]
        exact pn_low ho3 hB3.size
end

section
open Go.RowKit

/-- What decoding a number gives, as the walk's numbers. -/
def dv (l : List UInt8) : Int := ((dec l).1 : Int)
def dn (l : List UInt8) : Int := ((dec l).2.1 : Int)
def de (l : List UInt8) : Int := ((dec l).2.2 : Int)
theorem d_of {l : List UInt8} {v n e : Nat} (h : dec l = (v, n, e)) : dv l = (v : Int) ∧ dn l = (n : Int) ∧ de l = (e : Int) := by
  unfold dv dn de
  rw [h]
  exact ⟨rfl, rfl, rfl⟩
theorem dv_ge (l : List UInt8) : 0 ≤ dv l := by unfold dv; omega
theorem dn_ge (l : List UInt8) : 0 ≤ dn l := by unfold dn; omega
theorem de_ge (l : List UInt8) : 0 ≤ de l := by unfold de; omega
theorem d_zero {l : List UInt8} (h : de l = 0) : dv l < 18446744073709551616 ∧ 1 ≤ dn l ∧ dn l ≤ l.length ∧ dn l ≤ 10 ∧ enc (dv l).toNat = l.take (dn l).toNat := by
  have h0 : (dec l).2.2 = 0 := by unfold de at h; omega
  obtain ⟨h1, h2, h3, h4, h5⟩ := dec_canon h0
  unfold dv dn
  exact ⟨by omega, by omega, by omega, by omega, by simpa using h4⟩
theorem dv_lt (l : List UInt8) : dv l < 18446744073709551616 := by
  by_cases h : de l = 0
  · exact (d_zero h).1
  · have h0 : (dec l).2.2 ≠ 0 := by unfold de at h; omega
    unfold dv
    rw [(dec_bad h0).1]
    decide
attribute [irreducible] dv dn de

theorem and128_nat : ∀ a : Fin 256, (a.val &&& 128) = if a.val < 128 then 0 else 128 := by decide +kernel
theorem and128 (y : Int) (h0 : 0 ≤ y) (h1 : y < 256) : bits .and .u8 y 128 = if y < 128 then 0 else 128 := by
  obtain ⟨n, rfl⟩ := Int.eq_ofNat_of_zero_le h0
  have h := u8_and_nat n 128 (by omega) (by decide)
  have h2 := and128_nat ⟨n, by omega⟩
  rw [show (128 : Int) = ((128 : Nat) : Int) from rfl, h]
  simp only at h2
  rw [h2]
  by_cases hn : n < 128
  · rw [if_pos hn, if_pos (by omega)]; rfl
  · rw [if_neg hn, if_neg (by omega)]
theorem andNot128 (y : Int) (h0 : 0 ≤ y) (h1 : y < 256) : bits .andNot .u8 y 128 = y % 128 := by
  obtain ⟨n, rfl⟩ := Int.eq_ofNat_of_zero_le h0
  have h := u8_andNot_nat n 128 (by omega) (by decide)
  rw [show (128 : Int) = ((128 : Nat) : Int) from rfl, h]
  have := nat_mask7 n
  rw [show 255 - 128 = 127 from rfl, this]
  omega
/-- v |= r << 7k. -/
theorem or_shift (z r : Int) (k : Nat) (hk : k ≤ 9) (hz0 : 0 ≤ z) (hz : z.toNat < 128 ^ k) (hr0 : 0 ≤ r) (hr1 : r < 128) (h9 : k = 9 → r ≤ 1) :
    bits .or .u64 z (IntKind.u64.wrap (r * 2 ^ (7 * k))) = z + 128 ^ k * r := by
  obtain ⟨a, rfl⟩ := Int.eq_ofNat_of_zero_le hz0
  obtain ⟨b, rfl⟩ := Int.eq_ofNat_of_zero_le hr0
  have hz' : a < 128 ^ k := by simpa using hz
  have e : (2 : Nat) ^ (7 * k) = 128 ^ k := by rw [Nat.pow_mul]
  have hlt : 128 ^ k * b < 18446744073709551616 := by
    by_cases h : k = 9
    · subst h
      have := h9 rfl
      have e9 : (128 : Nat) ^ 9 = 9223372036854775808 := by decide
      rw [e9]; omega
    · have hp : (128 : Nat) ^ k ≤ 128 ^ 8 := Nat.pow_le_pow_right (by decide) (by omega)
      have e8 : (128 : Nat) ^ 8 = 72057594037927936 := by decide
      rw [e8] at hp
      have : 128 ^ k * b ≤ 72057594037927936 * 127 := Nat.mul_le_mul hp (by omega)
      omega
  have hle : (128 : Nat) ^ k ≤ 128 ^ 9 := Nat.pow_le_pow_right (by decide) (by omega)
  have e9 : (128 : Nat) ^ 9 = 9223372036854775808 := by decide
  rw [e9] at hle
  have hs : (b : Int) * 2 ^ (7 * k) = ((128 ^ k * b : Nat) : Int) := by
    rw [← e]
    push_cast
    exact Int.mul_comm _ _
  have hw : IntKind.u64.wrap (((128 ^ k * b : Nat) : Int)) = ((128 ^ k * b : Nat) : Int) := by rw [IntKind.wrap_u64]; omega
  rw [hs, hw, u64_or_nat _ _ (by omega) hlt, Nat.or_comm]
  have hor : 128 ^ k * b ||| a = 128 ^ k * b + a := by
    rw [← e, Nat.two_pow_add_eq_or_of_lt (by rw [e]; exact hz')]
  rw [hor]
  push_cast
  omega

/-- As far as the loop has come. -/
structure Seen (l : List UInt8) (k : Nat) (z : Int) : Prop where
  big : ∀ j, j < k → 128 ≤ (l.getD j 0).toNat
  num : k ≤ 9 → z = (val (l.take k) : Int)
theorem Seen.cont {l : List UInt8} {k : Nat} {z : Int} (h : Seen l k z) (hk : k ≤ 10) (hl : k ≤ l.length) (he : k < 10 → ∀ h : k < l.length, l[k].toNat < 128) : cont 10 l = k :=
  cont_of hk hl h.big (fun h1 h2 => by rw [getD_at l k h2]; exact he h1 h2)
theorem Seen.next {l : List UInt8} {k : Nat} {z z2 : Int} (h : Seen l k z) (hk : k < l.length) (hb : 128 ≤ l[k].toNat) (hz : k + 1 ≤ 9 → z2 = (val (l.take (k + 1)) : Int)) : Seen l (k + 1) z2 :=
  ⟨fun j hj => by
    by_cases e : j = k
    · subst e; rw [getD_at l j hk]; exact hb
    · exact h.big j (by omega), hz⟩

set_option maxHeartbeats 2000000 in
theorem uint_any (A : Option Addr) (len cap B : Nat) (l : List UInt8) (w : World) (hA : Has w B A len (l.map bv)) (hlc : len ≤ cap) (hlen : len ≤ 1000000000) :
    Calls Tryz.prog 18 #[.slice A len cap] w fun e w' => e = .returned (.tuple #[.int .u64 (dv l), .int .i64 (dn l), .int .i64 (de l)]) ∧ w = w' := by
  have HL : Hid (l.length = len) := by show _ = _; simpa using hA.1
  have HA := Lib.hid hA
  clear hA
  obtain ⟨m, hm⟩ : ∃ m : Nat, m = min len 10 := ⟨_, rfl⟩
  have hmin : ∀ ts t, (Builtin.min_ ts t #[.int .i64 (len : Int), .int .i64 10]).run Tryz.prog w = .ok (.int .i64 (m : Int)) w := fun ts t => min_two w ts t _ _ _ (by omega)
  have hmc : m ≤ cap := by omega
  have hml : m ≤ len := by omega
  have hm10 : m ≤ 10 := by omega
  have HM := Lib.hid hm
  clear hm
  go_enter Tryz.func18, Tryz.ntmps18
  go_wp2
  go_loop [5, 14] (fun v i => ∃ (k : Nat) (z : Int), k ≤ m ∧ i = .int .i64 k ∧ v = .int .u64 z ∧ Hid (Seen l k z)) (fun _ i => m - (intOf i).toNat)
  case atStart => exact ⟨0, 0, Nat.zero_le _, rfl, rfl, Lib.hid ⟨by simp, by simp [val]⟩⟩
  case round =>
    obtain ⟨k, z, hk, rfl, rfl, HS⟩ := hrel
    by_cases hlt : k < m
    · have hkl : k < len := by omega
      have hks : k < l.length := by rw [HL.out]; exact hkl
      obtain ⟨b, off, rfl, hb, hc⟩ := HA.out.at_ hkl
      rw [List.getElem_map, bv_eq] at hc
      have hbl := byte_lt l[k]
      obtain ⟨y, hy⟩ : ∃ y : Int, y = (l[k].toNat : Int) := ⟨_, rfl⟩
      rw [← hy] at hc hbl
      have hy0 : 0 ≤ y := by omega
      have h1 := and128 y hy0 hbl
      have h2 := andNot128 y hy0 hbl
      obtain ⟨r, hr⟩ : ∃ r : Int, r = y % 128 := ⟨_, rfl⟩
      rw [← hr] at h2
      have hr0 : 0 ≤ r := by omega
      have hr1 : r < 128 := by omega
      obtain ⟨K, hK⟩ : ∃ K : Nat, K = 7 * k := ⟨_, rfl⟩
      have hK' : 7 * (k : Int) = (K : Int) := by omega
      have hK64 : K ≤ 63 := by omega
      obtain ⟨z2, hz2⟩ : ∃ z2, bits .or .u64 z (IntKind.u64.wrap (r * 2 ^ K)) = z2 := ⟨_, rfl⟩
      have HZ : Hid ((k = 9 → l[k].toNat ≤ 1) → z2 = (val (l.take (k + 1)) : Int)) := by
        refine Lib.hid fun h9 => ?_
        have hnum := HS.out.num (by omega)
        have hval := val_lt (l.take k)
        have hor := or_shift z r k (by omega) (by omega) (by rw [hnum]; simpa [List.length_take, Nat.min_eq_left (show k ≤ l.length by omega)] using hval) hr0 hr1 (by intro e; have := h9 e; omega)
        rw [← hz2, hK, hor, val_take_succ l k hks, hnum, show r = ((l[k].toNat % 128 : Nat) : Int) by omega]
        push_cast
        rfl
      have HR := Lib.hid hr
      have HY := Lib.hid hy
      clear hr hK hy
      by_cases hbig : 128 ≤ y
      · rw [if_neg (by omega)] at h1
        have HN : Hid (Seen l (k + 1) z2) := Lib.hid (HS.out.next hks (by have := HY.out; omega) (fun h => HZ.out (by intro e; omega)))
        go_wp2
        go_round
        case rel => exact ⟨k + 1, z2, by omega, by go_num, (by first | rfl | rw [hz2]), HN⟩
        case measure => simp [intOf]; omega
      · rw [if_pos (by omega)] at h1
        have HC := Lib.hid (HS.out.cont (by omega) (by omega) (fun _ _ => by have := HY.out; omega))
        by_cases hk9 : k = 9
        · have hk9' : ((k : Int) == 9) = true := by simp; omega
          have hkpos : (0 : Int) < (k : Int) := by omega
          by_cases hy1 : 1 < y
          · have HD := Lib.hid (d_of (dec_big HC.out hks hk9 (by have := HY.out; omega)))
            clear hk9
            go_wp2
            go_ret3
            exact ⟨by rw [HD.out.1, HD.out.2.1, HD.out.2.2]; rfl, rfl⟩
          · by_cases hy0' : y = 0
            · have HD := Lib.hid (d_of (dec_zero HC.out hks (by omega) (by omega) (by have := HY.out; omega)))
              have hye : (y == 0) = true := by simp; omega
              clear hk9 hy0'
              go_wp2
              go_ret3
              exact ⟨by rw [HD.out.1, HD.out.2.1, HD.out.2.2]; rfl, rfl⟩
            · have hye : (y == 0) = false := by simp; omega
              have HD := Lib.hid (d_of (dec_val HC.out hks (by omega) (fun _ => by have := HY.out; omega) (fun _ => by have := HY.out; omega)))
              have HZ2 := Lib.hid (HZ.out (fun _ => by have := HY.out; omega))
              clear hk9 hy0'
              go_wp2
              go_ret3
              exact ⟨by rw [HD.out.1, HD.out.2.1, HD.out.2.2, ← HZ2.out, ← hz2]; rfl, rfl⟩
        · have hk9' : ((k : Int) == 9) = false := by simp; omega
          by_cases hk0 : k = 0
          · have hkpos : ¬ (0 : Int) < (k : Int) := by omega
            have HD := Lib.hid (d_of (dec_val HC.out hks (by omega) (fun e => by omega) (fun e => by omega)))
            have HZ2 := Lib.hid (HZ.out (fun e => by omega))
            clear hk0
            go_wp2
            go_ret3
            exact ⟨by rw [HD.out.1, HD.out.2.1, HD.out.2.2, ← HZ2.out, ← hz2]; rfl, rfl⟩
          · have hkpos : (0 : Int) < (k : Int) := by omega
            by_cases hy0' : y = 0
            · have HD := Lib.hid (d_of (dec_zero HC.out hks (by omega) (by omega) (by have := HY.out; omega)))
              have hye : (y == 0) = true := by simp; omega
              clear hy0'
              go_wp2
              go_ret3
              exact ⟨by rw [HD.out.1, HD.out.2.1, HD.out.2.2]; rfl, rfl⟩
            · have hye : (y == 0) = false := by simp; omega
              have HD := Lib.hid (d_of (dec_val HC.out hks (by omega) (fun e => by omega) (fun _ => by have := HY.out; omega)))
              have HZ2 := Lib.hid (HZ.out (fun e => by omega))
              clear hy0'
              go_wp2
              go_ret3
              exact ⟨by rw [HD.out.1, HD.out.2.1, HD.out.2.2, ← HZ2.out, ← hz2]; rfl, rfl⟩
    · obtain rfl : k = m := by omega
      by_cases h10 : len < 10
      · have HD := Lib.hid (d_of (dec_end (l := l) (by rw [HS.out.cont (by omega) (by rw [HL.out]; exact hml) (fun _ h => by have h1 := HM.out; rw [HL.out] at h; omega), HL.out]; have := HM.out; omega) (by rw [HL.out]; exact h10)))
        go_wp2
        go_ret3
        exact ⟨by rw [HD.out.1, HD.out.2.1, HD.out.2.2]; rfl, rfl⟩
      · have HD := Lib.hid (d_of (dec_ten (l := l) (by rw [HS.out.cont (by omega) (by rw [HL.out]; exact hml) (fun h1 _ => by have h2 := HM.out; omega)]; have := HM.out; omega)))
        go_wp2
        go_ret3
        exact ⟨by rw [HD.out.1, HD.out.2.1, HD.out.2.2]; rfl, rfl⟩
end

section
open Go.RowKit

/-- What decoding a text gives, as the walk's values. -/
def dt (l : List UInt8) : ByteArray := bs (decT l).1
def dtn (l : List UInt8) : Int := ((decT l).2.1 : Int)
def dte (l : List UInt8) : Int := ((decT l).2.2 : Int)
theorem t_of {l s : List UInt8} {n e : Nat} (h : decT l = (s, n, e)) : dt l = bs s ∧ dtn l = (n : Int) ∧ dte l = (e : Int) := by
  unfold dt dtn dte
  rw [h]
  exact ⟨rfl, rfl, rfl⟩
theorem t_zero {l : List UInt8} (h : dte l = 0) : 1 ≤ dtn l ∧ dtn l ≤ l.length ∧ encT (ls (dt l)) = l.take (dtn l).toNat ∧ (dt l).size ≤ 4096 := by
  have h0 : (decT l).2.2 = 0 := by unfold dte at h; omega
  obtain ⟨h1, h2, h3, h4⟩ := decT_canon h0
  unfold dt dtn
  exact ⟨by omega, by omega, by rw [ls_bs]; simpa using h3, by rw [bs_size]; exact h4⟩
theorem t_bad {l : List UInt8} (h : de l ≠ 0) : dt l = bs [] ∧ dtn l = 0 ∧ dte l = de l := by
  have h0 : (dec l).2.2 ≠ 0 := by unfold de at h; omega
  have hd : decT l = ([], 0, (dec l).2.2) := by unfold decT; rw [if_pos h0]
  obtain ⟨h1, h2, h3⟩ := t_of hd
  exact ⟨h1, by simpa using h2, by rw [h3]; unfold de; rfl⟩
theorem t_good {l : List UInt8} (h : de l = 0) : (dec l).2.2 = 0 ∧ dv l = ((dec l).1 : Int) ∧ dn l = ((dec l).2.1 : Int) := by
  refine ⟨?_, by unfold dv; rfl, by unfold dn; rfl⟩
  unfold de at h
  omega
theorem t_limit {l : List UInt8} (h : de l = 0) (h1 : 4096 < dv l) : dt l = bs [] ∧ dtn l = 0 ∧ dte l = 3 := by
  obtain ⟨g1, g2, g3⟩ := t_good h
  have hd : decT l = ([], 0, 3) := by unfold decT; rw [if_neg (by omega), if_pos (by omega)]
  simpa using t_of hd
theorem t_short {l : List UInt8} (h : de l = 0) (h1 : dv l ≤ 4096) (h2 : (l.length : Int) < dn l + dv l) : dt l = bs [] ∧ dtn l = 0 ∧ dte l = 5 := by
  obtain ⟨g1, g2, g3⟩ := t_good h
  have hd : decT l = ([], 0, 5) := by unfold decT; rw [if_neg (by omega), if_neg (by omega), if_pos (by omega)]
  simpa using t_of hd
theorem t_ok {l : List UInt8} (h : de l = 0) (h1 : dv l ≤ 4096) (h2 : dn l + dv l ≤ (l.length : Int)) {s k : Nat} (hs : dn l = (s : Int)) (hk : dv l = (k : Int)) : dt l = bs ((l.drop s).take k) ∧ dtn l = dn l + dv l ∧ dte l = 0 := by
  obtain ⟨g1, g2, g3⟩ := t_good h
  have hd : decT l = ((l.drop (dec l).2.1).take (dec l).1, (dec l).2.1 + (dec l).1, 0) := by unfold decT; rw [if_neg (by omega), if_neg (by omega), if_neg (by omega)]
  obtain ⟨e1, e2, e3⟩ := t_of hd
  refine ⟨?_, ?_, e3⟩
  · rw [e1, show (dec l).2.1 = s by omega, show (dec l).1 = k by omega]
  · rw [e2]; push_cast; omega
set_option maxRecDepth 100000 in
set_option maxHeartbeats 2000000 in
theorem text_any (A : Option Addr) (len cap B : Nat) (l : List UInt8) (w : World) (hA : Has w B A len (l.map bv)) (hlc : len ≤ cap) (_hcap : cap ≤ maxLen) (hlen : len ≤ 1000000000) :
    Calls Tryz.prog 17 #[.slice A len cap] w fun e w' => e = .returned (.tuple #[.string (dt l), .int .i64 (dtn l), .int .i64 (dte l)]) ∧ w = w' := by
  have hcall := uint_any A len cap B l w hA hlc hlen
  have HL : Hid (l.length = len) := by show _ = _; simpa using hA.1
  have HA := Lib.hid hA
  clear hA
  have hv0 := dv_ge l
  have hv1 := dv_lt l
  have hn0 := dn_ge l
  have he0 := de_ge l
  by_cases hbad : de l = 0
  · obtain ⟨hn1, hn2, hn3⟩ : 1 ≤ dn l ∧ dn l ≤ l.length ∧ dn l ≤ 10 := by
      obtain ⟨_, h1, h2, h3, _⟩ := d_zero hbad
      exact ⟨h1, h2, h3⟩
    rw [HL.out] at hn2
    have hz : (de l != 0) = false := by rw [hbad]; rfl
    by_cases hlim : 4096 < dv l
    · have HT := Lib.hid (t_limit hbad hlim)
      have HB := Lib.hid hbad
      clear hbad
      go_enter Tryz.func17, Tryz.ntmps17
      go_wp2_with fail
      refine hcall.mono ?_
      rintro e w' ⟨rfl, rfl⟩
      go_wp2
      go_ret3
      exact ⟨by rw [HT.out.1, HT.out.2.1, HT.out.2.2]; rfl, rfl⟩
    · by_cases hsh : (len : Int) < dn l + dv l
      · have HT := Lib.hid (t_short hbad (by omega) (by rw [HL.out]; exact hsh))
        have hsh2 : (len : Int) - dn l < dv l := by omega
        have HB := Lib.hid hbad
        clear hbad
        go_enter Tryz.func17, Tryz.ntmps17
        go_wp2_with fail
        refine hcall.mono ?_
        rintro e w' ⟨rfl, rfl⟩
        go_wp2
        go_ret3
        exact ⟨by rw [HT.out.1, HT.out.2.1, HT.out.2.2]; rfl, rfl⟩
      · obtain ⟨s, hs⟩ : ∃ s : Nat, dn l = (s : Int) := ⟨(dn l).toNat, by omega⟩
        obtain ⟨k, hk⟩ : ∃ k : Nat, dv l = (k : Int) := ⟨(dv l).toNat, by omega⟩
        have HT := Lib.hid (t_ok hbad (by omega) (by rw [HL.out]; omega) hs hk)
        have HB := Lib.hid hbad
        clear hbad
        obtain ⟨b, off, rfl⟩ : ∃ b off, A = some ⟨b, off, none⟩ := by
          obtain ⟨b, off, e, _⟩ := HA.out.at_ (show 0 < len by omega)
          exact ⟨b, off, e⟩
        obtain ⟨E, hE⟩ : ∃ E : Nat, E = s + k := ⟨_, rfl⟩
        rw [hs, hk] at hcall hsh
        rw [hk] at hlim
        rw [hs] at hn0 hn1 hn2 hn3
        rw [hk] at hv0 hv1
        have hsum : (s : Int) + (k : Int) = (E : Int) := by omega
        have hEs : E - s = k := by omega
        have hsE : s ≤ E := by omega
        have hEl : E ≤ len := by omega
        have hEc : E ≤ cap := by omega
        have hsh3 : ¬ (len : Int) < (E : Int) := by omega
        have hsh4 : ¬ (len : Int) - (s : Int) < (k : Int) := by omega
        have HS := Lib.hid hs
        have HK := Lib.hid hk
        have HE := Lib.hid hE
        clear hs hk hE
        have hkb : (k : Int) ≤ 4096 := by omega
        clear hv1 hlim
        by_cases hcs : cap = s
        · have hk0 : k = 0 := by have := HE.out; omega
          have hE2 : E = s := by have := HE.out; omega
          have hconv : ∀ ad, (convert 24 9 (.slice (some ad) 0 0)).run Tryz.prog w = .ok (.string (bs [])) w := fun ad => str_has w (some ad) 0 0 w.heap.size [] (Has.nil _ _ _)
          subst hk0 hE2 hcs
          go_enter Tryz.func17, Tryz.ntmps17
          go_wp2_with fail
          refine hcall.mono ?_
          rintro e w' ⟨rfl, rfl⟩
          go_wp2
          go_ret3
          exact ⟨by rw [HT.out.1, HT.out.2.1, HT.out.2.2, HS.out, HK.out]; simp, rfl⟩
        · have hp := HA.out.part s k (by omega)
          rw [← List.map_drop, ← List.map_take] at hp
          have hconv := str_has w _ k (cap - s) _ _ hp
          have hcs' : ¬ cap - s = 0 := by omega
          go_enter Tryz.func17, Tryz.ntmps17
          go_wp2_with fail
          refine hcall.mono ?_
          rintro e w' ⟨rfl, rfl⟩
          go_wp2
          go_ret3
          exact ⟨by rw [HT.out.1, HT.out.2.1, HT.out.2.2, HS.out, HK.out, hsum]; rfl, rfl⟩
  · have HT := Lib.hid (t_bad hbad)
    have hz : (de l != 0) = true := by simpa using hbad
    clear hbad
    go_enter Tryz.func17, Tryz.ntmps17
    go_wp2_with fail
    refine hcall.mono ?_
    rintro e w' ⟨rfl, rfl⟩
    go_wp2
    go_ret3
    exact ⟨by rw [HT.out.1, HT.out.2.1, HT.out.2.2]; rfl, rfl⟩
end

end Go.Proofs.YthoolifdmemceaaGreatDoor
