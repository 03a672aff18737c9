/-
strconv.ParseUint at two digits to the base 16, and the program's escapedByte of package host.
Contracts of the small functions of package ipv4: digit, isHexadecimal, withoutLastDot, and how a part is read.
Contract of ParseNumbers of package ipv4.
The program's unescaped of package host.
A box that holds a slice of one's own, in a loop over an iterator that turns blocks of its own. No program.
-/
import Derived.Test.YtekaljeicfjkjaaGreatDoorK20
import Derived.Test.YtekaljeicfjkjaaGreatDoorK04
import Derived.Test.YtekaljeicfjkjaaGreatDoorShelf
import Derived.Test.YtekaljeicfjkjaaGreatDoorShelfE
import Derived.Shelf.Strconv.ToError
import Derived.BigQuiet
import Derived.Test.YtekaljeicfjkjaaGreatDoorK03
import Derived.Test.YtekaljeicfjkjaaGreatDoorK07
import Derived.Test.YtekaljeicfjkjaaGreatDoorK08
import Derived.Deep.LoopGhost
import Derived.Test.YtekaljeicfjkjaaGreatDoorK14
import Derived.Test.YtekaljeicfjkjaaGreatDoorK10
import Derived.RangeFuncBox
import Derived.Maps.AppendAt
import Derived.OwnWalkIn
import Derived.TacticsInMore
namespace Go.Proofs.YtekaljeicfjkjaaGreatDoor
section
open Go.RowKit Go.Shelf
set_option maxHeartbeats 16000000
def zey (w : World) : Prop := ∃ te pe, w.cell? ⟨4, 0, none⟩ = some (.iface te pe)
theorem zez {w w' : World} (h : zey w) (hb : Below w.heap.size w w') : zey w' := by
 obtain ⟨te, pe, hc⟩ := h
 refine ⟨te, pe, (hb.cell ?_).trans hc⟩
 unfold World.cell? at hc
 cases ho : w.heap[(4 : Nat)]? with
 | none => simp [ho] at hc
 | some o => exact (Array.getElem?_eq_some_iff.1 ho).1
def ze0 (T : ByteArray) (w : World) (e : Ending) (w' : World) : Prop :=
 ((ls T).all (fun b => decide (zqe b < 16)) = true /\ e = .returned (.tuple #[.int .u64 ((zqf 16 0 (ls T) : Nat) : Int), .nilIface]) \/
   (ls T).all (fun b => decide (zqe b < 16)) = false /\ ∃ N, e = .returned (.tuple #[.int .u64 0, .iface 156 (.pointer (some ⟨N, 0, none⟩))])) /\ Below w.heap.size w w'
theorem ze1 (T : ByteArray) (hT : T.size = 2) (w : World) (hS : zey w) : Calls Tryz.prog 114 #[.string T, .int .i64 16, .int .i64 8] w (ze0 T w) := by
 have c1 := zex T hT w
 have c2 : ∀ W, zey W -> Calls Tryz.prog 153 #[.string ⟨#[80, 97, 114, 115, 101, 85, 105, 110, 116]⟩, .string T, .int .i64 16, .int .i64 8, .iface 155 (.int .i64 2)] W fun e w' => (∃ N, e = .returned (.iface 156 (.pointer (some ⟨N, 0, none⟩)))) /\ Below W.heap.size W w' := by
  intro W hW
  obtain ⟨te, pe, hc⟩ := hW
  refine (Any.strconv_toError_syntax Tryz.laysC245 ⟨#[80, 97, 114, 115, 101, 85, 105, 110, 116]⟩ T 16 8 (.iface te pe) W (by omega) hc (.inr ⟨te, pe, rfl⟩)).mono ?_
  rintro e w' ⟨N, rfl, _, _, hb⟩
  exact ⟨⟨N, rfl⟩, hb⟩
 unfold ze0
 unfold zev at c1
 obtain ⟨q, hq⟩ : ∃ q, q = (ls T).all (fun b => decide (zqe b < 16)) := ⟨_, rfl⟩
 obtain ⟨v, hv⟩ : ∃ v, v = zqf 16 0 (ls T) := ⟨_, rfl⟩
 rw [<- hq, <- hv] at c1 ⊢
 have HS := jL hS
 clear hq hv hS hT
 go_enter Tryz.func114, Tryz.ntmps114
 go_wp2_with fail
 refine c1.mono ?_
 rintro e w1 ⟨⟨hq, rfl⟩ | ⟨hq, rfl⟩, hb⟩
 ·go_wp2
  go_ret2
  exact ⟨.inl ⟨hq, rfl⟩, hb⟩
 ·have c3 := c2 w1 (zez HS.out hb)
  go_wp2_with fail
  refine c3.mono ?_
  rintro e w2 ⟨⟨N, rfl⟩, hb2⟩
  go_wp2
  go_ret2
  exact ⟨.inr ⟨hq, N, rfl⟩, hb.trans (hb2.mono hb.size)⟩
theorem ze2 {s : ByteArray} (h : 2 <= s.size) : zds (ls s) = if (ls (s.extract 0 2)).all (fun b => decide (zqe b < 16)) = true then some (zqf 16 0 (ls (s.extract 0 2))) else none := by
 have hl : 2 <= (ls s).length := by rw [zb4]; exact h
 have e : ls (s.extract 0 2) = (ls s).take 2 := by rw [zb9]; rfl
 rw [e]
 unfold zds
 match ls s, hl with
 | a :: b :: r, _ =>
   have e2 : (a :: b :: r).take 2 = [a, b] := rfl
   rw [e2]
   simp only [List.getD_cons_zero, List.getD_cons_succ, List.all_cons, List.all_nil, Bool.and_true, Bool.and_eq_true, decide_eq_true_eq]
   by_cases hc : zqe a < 16 /\ zqe b < 16
   ·rw [if_pos ⟨by simp, hc⟩, if_pos hc]
    simp [zqf]
    omega
   ·rw [if_neg (fun hh => hc hh.2), if_neg hc]
theorem ze3 {l : List UInt8} (h : l.all (fun b => decide (zqe b < 16)) = true) (hl : l.length = 2) : zqf 16 0 l <= 255 := by
 match l, hl with
 | [a, b], _ =>
   simp only [List.all_cons, List.all_nil, Bool.and_true, Bool.and_eq_true, decide_eq_true_eq] at h
   simp [zqf]
   omega
theorem ze4 (s : ByteArray) (hs : s.size <= 1000000000) (w : World) (hS : zey w) : Calls Tryz.prog 144 #[.string s] w fun e w' =>
 e = .returned (.tuple #[.int .u8 (((zds (ls s)).getD 0 : Nat) : Int), .bool (zds (ls s)).isSome]) /\ Below w.heap.size w w' := by
 by_cases h : s.size < 2
 ·rw [zdt (by rw [zb4]; exact h)]
  have hd : decide ((s.size : Int) < 2) = true := jT (by omega)
  clear hS
  go_enter Tryz.func144, Tryz.ntmps144
  go_wp2
  go_ret2
  exact ⟨rfl, Below.refl _ _⟩
 ·have hd : decide ((s.size : Int) < 2) = false := jF (by omega)
  have hz2 : (s.extract 0 2).size = 2 := by simp; omega
  have c1 := ze1 (s.extract 0 2) hz2 w hS
  rw [ze2 (by omega)]
  have hle := ze3 (l := ls (s.extract 0 2))
  unfold ze0 at c1
  have hll : (ls (s.extract 0 2)).length = 2 := by rw [zb4]; exact hz2
  obtain ⟨q, hq⟩ : ∃ q, q = (ls (s.extract 0 2)).all (fun b => decide (zqe b < 16)) := ⟨_, rfl⟩
  obtain ⟨v, hv⟩ : ∃ v, v = zqf 16 0 (ls (s.extract 0 2)) := ⟨_, rfl⟩
  rw [<- hq, <- hv] at c1 hle ⊢
  have hle2 : q = true -> v <= 255 := fun h => hle h hll
  clear hle hll hq hv hS hz2
  have h2 : 2 <= s.size := by omega
  clear h
  cases q with
  | true =>
    have hv255 := hle2 rfl
    rw [if_pos rfl]
    clear hle2
    go_enter Tryz.func144, Tryz.ntmps144
    go_wp2_with fail
    refine c1.mono ?_
    rintro e w1 ⟨⟨_, rfl⟩ | ⟨hf, _⟩, hb⟩
    ·go_wp2_with fail
     go_quiet (fail)
     go_wp2
     go_ret2
     exact ⟨rfl, ⟨hb.os, hb.tape, hb.output, hb.size, hb.block⟩⟩
    ·cases hf
  | false =>
    rw [if_neg (by simp)]
    clear hle2
    go_enter Tryz.func144, Tryz.ntmps144
    go_wp2_with fail
    refine c1.mono ?_
    rintro e w1 ⟨⟨hf, _⟩ | ⟨_, N, rfl⟩, hb⟩
    ·cases hf
    ·go_wp2_with fail
     go_quiet (fail)
     go_wp2
     go_ret2
     exact ⟨rfl, ⟨hb.os, hb.tape, hb.output, hb.size, hb.block⟩⟩
end

section
open Go.RowKit
set_option maxHeartbeats 16000000
theorem zre (c : UInt8) (w : World) :
 Calls Tryz.prog 177 #[.int .u8 (c.toNat : Int)] w fun e w' => e = .returned (.int .u64 (pd c : Nat)) /\ w = w' := by
 have hlt := c.toNat_lt
 by_cases h1 : 48 <= c.toNat /\ c.toNat <= 57
 ·have HE : Hid (((pd c : Nat) : Int) = (c.toNat : Int) - 48) := by show _ = _; unfold pd zqe; rw [if_pos h1]; omega
  have d1 : decide ((48 : Int) <= (c.toNat : Int)) = true := jT (by omega)
  have d2 : decide ((c.toNat : Int) <= 57) = true := jT (by omega)
  go_enter Tryz.func177, Tryz.ntmps177
  go_wp2
  go_ret
  exact ⟨zby HE.out.symm, rfl⟩
 ·by_cases h2 : 97 <= c.toNat /\ c.toNat <= 102
  ·have HE : Hid (((pd c : Nat) : Int) = 10 + ((c.toNat : Int) - 97)) := by show _ = _; unfold pd zqe; rw [if_neg h1, if_pos h2]; omega
   have d2 : decide ((c.toNat : Int) <= 57) = false := jF (by omega)
   have d3 : decide ((97 : Int) <= (c.toNat : Int)) = true := jT (by omega)
   have d4 : decide ((c.toNat : Int) <= 102) = true := jT (by omega)
   have d1 : decide ((48 : Int) <= (c.toNat : Int)) = true := jT (by omega)
   go_enter Tryz.func177, Tryz.ntmps177
   go_wp2
   go_ret
   exact ⟨zby HE.out.symm, rfl⟩
  ·by_cases h3 : 65 <= c.toNat /\ c.toNat <= 70
   ·have HE : Hid (((pd c : Nat) : Int) = 10 + ((c.toNat : Int) - 65)) := by show _ = _; unfold pd zqe; rw [if_neg h1, if_neg h2, if_pos h3]; omega
    have d1 : decide ((48 : Int) <= (c.toNat : Int)) = true := jT (by omega)
    have d2 : decide ((c.toNat : Int) <= 57) = false := jF (by omega)
    have d3 : decide ((97 : Int) <= (c.toNat : Int)) = false := jF (by omega)
    have d5 : decide ((65 : Int) <= (c.toNat : Int)) = true := jT (by omega)
    have d6 : decide ((c.toNat : Int) <= 70) = true := jT (by omega)
    go_enter Tryz.func177, Tryz.ntmps177
    go_wp2
    go_ret
    exact ⟨zby HE.out.symm, rfl⟩
   ·have HE : Hid (((pd c : Nat) : Int) = 16) := by show _ = _; unfold pd zqe; rw [if_neg h1, if_neg h2, if_neg h3]; rfl
    have c1 : (decide ((48 : Int) <= (c.toNat : Int)) && decide ((c.toNat : Int) <= 57)) = false := by rw [Bool.and_eq_false_iff, decide_eq_false_iff_not, decide_eq_false_iff_not]; omega
    have c2 : (decide ((97 : Int) <= (c.toNat : Int)) && decide ((c.toNat : Int) <= 102)) = false := by rw [Bool.and_eq_false_iff, decide_eq_false_iff_not, decide_eq_false_iff_not]; omega
    have c3 : (decide ((65 : Int) <= (c.toNat : Int)) && decide ((c.toNat : Int) <= 70)) = false := by rw [Bool.and_eq_false_iff, decide_eq_false_iff_not, decide_eq_false_iff_not]; omega
    go_enter Tryz.func177, Tryz.ntmps177
    go_wp2
    all_goals (go_ret; exact ⟨zby HE.out.symm, rfl⟩)
theorem zrf (s : ByteArray) (w : World) :
 Calls Tryz.prog 147 #[.string s] w fun e w' => e = .returned (.bool (zr7 (ls s))) /\ w = w' := by
 have c1 := fun W => Any.strings_HasPrefix Tryz.lays99 s ⟨#[48, 120]⟩ W
 have c2 := fun W => Any.strings_HasPrefix Tryz.lays99 s ⟨#[48, 88]⟩ W
 have HE : Hid (zr7 (ls s) = (Lib.hasPrefix s.data.toList [48, 120] || Lib.hasPrefix s.data.toList [48, 88])) := jL rfl
 rw [show (⟨#[48, 120]⟩ : ByteArray).data.toList = [48, 120] from rfl] at c1
 rw [show (⟨#[48, 88]⟩ : ByteArray).data.toList = [48, 88] from rfl] at c2
 obtain ⟨x, hx⟩ : ∃ x, x = Lib.hasPrefix s.data.toList [48, 120] := ⟨_, rfl⟩
 obtain ⟨y, hy⟩ : ∃ y, y = Lib.hasPrefix s.data.toList [48, 88] := ⟨_, rfl⟩
 rw [<- hx] at c1 HE
 rw [<- hy] at c2 HE
 clear hx hy
 cases x with
 | true =>
   go_enter Tryz.func147, Tryz.ntmps147
   go_wp2_with fail
   refine (c1 _).mono ?_
   rintro e w' ⟨rfl, rfl⟩
   go_wp2
   go_ret
   exact ⟨zbx (by rw [HE.out]; rfl), rfl⟩
 | false =>
   go_enter Tryz.func147, Tryz.ntmps147
   go_wp2_with fail
   refine (c1 _).mono ?_
   rintro e w' ⟨rfl, rfl⟩
   go_wp2_with fail
   refine (c2 _).mono ?_
   rintro e w2 ⟨rfl, rfl⟩
   go_wp2
   go_ret
   exact ⟨zbx (by rw [HE.out]; rfl), rfl⟩
theorem zrg (s : ByteArray) (hs : s.size <= 1000000000) (w : World) :
 Calls Tryz.prog 145 #[.string s] w fun e w' => e = .returned (.string (bs (zrx (ls s)))) /\ w = w' := by
 have c1 := Any.strings_TrimSuffix Tryz.lays102 s ⟨#[46]⟩ w (by omega)
 have HE : Hid (bs (zrx (ls s)) = ⟨(Lib.trimSuffix s.data.toList [46]).toArray⟩) := by show _ = _; rw [zr0]; rfl
 go_enter Tryz.func145, Tryz.ntmps145
 go_wp2_with fail
 refine c1.mono ?_
 rintro e w' ⟨rfl, rfl⟩
 go_wp2
 go_ret
 exact ⟨zbz HE.out.symm, rfl⟩
theorem zrh (s : ByteArray) (h0 : 0 < s.size) (w : World) :
 Calls Tryz.prog 178 #[.string s] w fun e w' => e = .returned (.tuple #[.int .u64 ((zr9 (ls s)).1 : Nat), .int .i64 ((zr9 (ls s)).2 : Nat)]) /\ w = w' := by
 have c1 := zrf s w
 by_cases hh : zr7 (ls s) = true
 ·have HE : Hid (zr9 (ls s) = (16, 2)) := jL (by unfold zr9; rw [if_pos hh])
  rw [hh] at c1
  go_enter Tryz.func178, Tryz.ntmps178
  go_wp2_with fail
  refine c1.mono ?_
  rintro e w' ⟨rfl, rfl⟩
  go_wp2
  go_ret2
  rw [HE.out]
  exact ⟨rfl, rfl⟩
 ·have hhd : (ls s).head? = some s[0] := by
   rw [List.head?_eq_getElem?, zb7 s 0 h0]
  by_cases hz : s[0] = 48
  ·have HE : Hid (zr9 (ls s) = (8, 1)) := jL (by unfold zr9; rw [if_neg hh, if_pos (by rw [hhd, hz])])
   have hq : ((s[0].toNat : Int) == 48) = true := by rw [hz]; rfl
   rw [Bool.not_eq_true] at hh
   rw [hh] at c1
   clear hhd hz
   go_enter Tryz.func178, Tryz.ntmps178
   go_wp2_with fail
   refine c1.mono ?_
   rintro e w' ⟨rfl, rfl⟩
   go_wp2
   go_ret2
   rw [HE.out]
   exact ⟨rfl, rfl⟩
  ·have HE : Hid (zr9 (ls s) = (10, 0)) := jL (by unfold zr9; rw [if_neg hh, if_neg (by rw [hhd]; simpa using hz)])
   have hq : ((s[0].toNat : Int) == 48) = false := by
    rw [beq_eq_false_iff_ne]
    exact fun e => hz (UInt8.toNat_inj.1 (by rw [show (48 : UInt8).toNat = 48 from rfl]; omega))
   rw [Bool.not_eq_true] at hh
   rw [hh] at c1
   clear hhd hz
   go_enter Tryz.func178, Tryz.ntmps178
   go_wp2_with fail
   refine c1.mono ?_
   rintro e w' ⟨rfl, rfl⟩
   go_wp2
   go_ret2
   rw [HE.out]
   exact ⟨rfl, rfl⟩
end

section
open Go.RowKit
set_option maxHeartbeats 16000000
theorem zri (a b : Nat) (k : Nat) (hb : b < 2 ^ k) (hab : a * 2 ^ k + b < 18446744073709551616) : bits .or .u64 (((a * 2 ^ k : Nat)) : Int) (b : Int) = ((a * 2 ^ k + b : Nat) : Int) := by
 rw [u64_or_nat _ _ (by omega) (by omega), Nat.mul_comm a, <- Nat.two_pow_add_eq_or_of_lt hb]
theorem zrj {P : Program} (w : World) (ts : Array TypeId) (t : TypeId) (a b r : Int) (hr : min a b = r) :
 (Builtin.min_ ts t #[.int .u64 a, .int .u64 b]).run P w = .ok (.int .u64 r) w := by
 have e1 : (if b < a then b else a) = min a b := by omega
 simp [Builtin.min_, Builtin.min2, List.foldlM, e1]
 omega
theorem zrk (l : List UInt8) (h : l ≠ []) : (zr9 l).2 <= l.length /\ 1 <= (zr9 l).1 /\ (zr9 l).1 <= 16 := by
 unfold zr9
 split
 ·rename_i hh
  obtain ⟨b, r, rfl, _⟩ := (zr8 _).1 hh
  refine ⟨by simp, by decide, by decide⟩
 ·have := List.length_pos_iff.2 h
  split
  ·exact ⟨this, by decide, by decide⟩
  ·exact ⟨by simp, by decide, by decide⟩
theorem zrl (l : List UInt8) : (zrx l).length <= l.length := by
 unfold zrx
 split
 ·simp
 ·exact jH
theorem zrm (s : ByteArray) (h : 0 < s.size) : (ls s).head? = some s[0] := by rw [List.head?_eq_getElem?, zb7 s 0 h]
theorem zrn (s : ByteArray) (h : 0 < s.size) : ls s ≠ [] := by
 intro e
 have := zb4 s
 rw [e] at this
 simp at this
 omega
theorem zro (s : ByteArray) : (s.toList == ([] : List UInt8)) = decide (s.size = 0) := by
 rw [zb3, <- zb4]
 cases ls s <;> rfl
theorem zrp {b c : UInt8} (h : b ≠ c) : ((b.toNat : Int) == (c.toNat : Int)) = false := by
 rw [beq_eq_false_iff_ne]
 exact fun e => h (UInt8.toNat_inj.1 (by omega))
theorem zrq {M k N A b st : Nat} {T : ByteArray} {V : Option Nat} (hP : pnS (M + 1) (ls T) A = V) (hne : ls T ≠ []) (hd : (ls T).head? ≠ some 46) (hb : (zr9 (ls T)).1 = b) (hst : (zr9 (ls T)).2 = st)
 (hS : zr4 b ((ls T).drop k) N = zr4 b ((ls T).drop st) 0) :
 V = match zr4 b ((ls T).drop k) N with
  | none => none
  | some (n, none) => if n < 256 ^ (M + 1) then some (A * 256 ^ (M + 1) + n) else none
  | some (n, some r) => if n <= 255 then pnS M r (A * 256 + n) else none := by
 rw [<- hP, pnS, if_neg (by simp [hne, hd]), hb, hst, hS]
 rfl
set_option maxRecDepth 20000 in
theorem zrr (s : ByteArray) (hs : s.size <= 1000000000) (w : World) :
 Calls Tryz.prog 149 #[.string s] w fun e w' => e = .returned (.tuple #[.int .u32 (aV (pnL (ls s))), .bool (aK (pnL (ls s)))]) /\ w' = w := by
 have c1 := zrg s hs w
 obtain ⟨T0, hT0⟩ : ∃ T, T = bs (zrx (ls s)) := ⟨_, rfl⟩
 rw [<- hT0] at c1
 have hP0 : pnS 4 (ls T0) 0 = pnL (ls s) := by rw [hT0, zb0, zsf]
 have hT0s : T0.size <= 1000000000 := by rw [hT0, zb5]; have := zrl (ls s); rw [zb4] at this; omega
 generalize pnL (ls s) = V at *
 have HP0 := jL hP0
 have HT0 := jL hT0s
 clear hT0 hP0 hs hT0s
 go_enter Tryz.func149, Tryz.ntmps149
 go_wp2
 go_step3
 go_wp2_with fail
 refine c1.mono ?_
 rintro e w' ⟨rfl, rfl⟩
 go_wp2
 go_step3
 go_wp2
 go_loopg [4, 5, 6] 4 (fun g t a m wr => ∃ (M : Nat) (T : ByteArray) (A : Nat), wr = w /\ M <= 4 /\ g = M /\ m = .int .i64 M /\ t = .string T /\ a = .int .u64 A /\ Hid (T.size <= 1000000000) /\ Hid (A < 256 ^ (4 - M)) /\ Hid (pnS M (ls T) A = V))
 case atStart => exact ⟨4, T0, 0, rfl, jH, rfl, rfl, rfl, rfl, HT0, jL (by decide), HP0⟩
 case round =>
  obtain ⟨M, T, A, rfl, hM, hg, rfl, rfl, rfl, HT, HA, HP⟩ := hrel
  cases M with
  | zero =>
    have HV : Hid (V = none) := jL HP.out.symm
    go_wp2
    rw [Exit.noGoto_ret]
    go_ret2
    rw [HV.out]
    exact ⟨rfl, rfl⟩
  | succ M =>
    have HG := jL hg
    clear hg
    have hd0 : decide ((0 : Int) < ((M + 1 : Nat) : Int)) = true := jT (by omega)
    by_cases he : T.size = 0
    ·have HV : Hid (V = none) := by
      show _ = _
      rw [<- HP.out, pnS, if_pos (.inl (List.eq_nil_of_length_eq_zero (by rw [zb4]; exact he)))]
     have hE : (T.toList == ([] : List UInt8)) = true := by rw [zro, jT he]
     go_wp2
     rw [Exit.noGoto_ret]
     go_ret2
     rw [HV.out]
     exact ⟨rfl, rfl⟩
    ·have hpos : 0 < T.size := Nat.pos_of_ne_zero he
     have hE : (T.toList == ([] : List UInt8)) = false := by rw [zro, jF he]
     by_cases h46 : T[0] = 46
     ·have HV : Hid (V = none) := by
       show _ = _
       rw [<- HP.out, pnS, if_pos (.inr (by rw [zrm T hpos, h46]))]
      have hq : ((T[0].toNat : Int) == 46) = true := by rw [h46]; rfl
      clear h46 he
      go_wp2
      rw [Exit.noGoto_ret]
      go_ret2
      rw [HV.out]
      exact ⟨rfl, rfl⟩
     ·have hq : ((T[0].toNat : Int) == 46) = false := zrp h46
      have HH : Hid ((ls T).head? ≠ some 46) := by show _ ≠ _; rw [zrm T hpos]; simpa using h46
      have HNE : Hid (ls T ≠ []) := jL (zrn T hpos)
      have c2 := zrh T hpos
      obtain ⟨b, hb⟩ : ∃ b, (zr9 (ls T)).1 = b := ⟨_, rfl⟩
      obtain ⟨st, hst⟩ : ∃ st, (zr9 (ls T)).2 = st := ⟨_, rfl⟩
      have hle := zrk (ls T) (zrn T hpos)
      rw [hb, hst, zb4] at hle
      rw [hb, hst] at c2
      obtain ⟨hst1, hb1, hb2⟩ := hle
      have HB := jL hb
      have HST := jL hst
      clear hb hst h46 he
      go_wp2_with fail
      refine (c2 _).mono ?_
      rintro e w' ⟨rfl, rfl⟩
      go_wp2
      obtain ⟨wo, rfl⟩ : ∃ wo : World, wo = wr := ⟨_, rfl⟩
      obtain ⟨go, rfl⟩ : ∃ go : Nat, go = gk := ⟨_, rfl⟩
      go_loopg [4, 5, 9, 10] (T.size + 1 - st) (fun g tv av n i wr => ∃ (k N : Nat), wr = wo /\ k <= T.size /\ g = T.size + 1 - k /\ tv = .string T /\ av = .int .u64 A /\ i = .int .i64 k /\ n = .int .u64 N /\ N <= 4294967296 /\ Hid (zr4 b ((ls T).drop k) N = zr4 b ((ls T).drop st) 0))
      case atStart => exact ⟨st, 0, rfl, hst1, rfl, rfl, rfl, rfl, rfl, by omega, jL rfl⟩
      case round =>
       obtain ⟨k, N, rfl, hk, hg2, rfl, rfl, rfl, rfl, hN, HS⟩ := hrel
       have HG2 := jL hg2
       have HW := jL (zrq HP.out HNE.out HH.out HB.out HST.out HS.out)
       clear hg2
       have hTs : T.size <= 1000000000 := HT.out
       by_cases hlt : k < T.size
       ·have hdrop := zcc T k hlt
        by_cases h46 : T[k] = 46
        ·have hq : ((T[k].toNat : Int) == 46) = true := by rw [h46]; rfl
         have HV0 : Hid (V = if N <= 255 then pnS M ((ls T).drop (k + 1)) (A * 256 + N) else none) := by
          show _ = _
          have := HW.out
          rw [hdrop, zr4, if_pos h46] at this
          exact this
         clear hdrop h46 HW
         by_cases hn : N <= 255
         ·have hd : decide ((255 : Int) < (N : Int)) = false := jF (by omega)
          have hdN : decide (255 < N) = false := jF (by omega)
          have HV : Hid (pnS M ((ls T).drop (k + 1)) (A * 256 + N) = V) := by show _ = _; rw [HV0.out, if_pos hn]
          have hA3 : A < 16777216 := by
           have h1 : (256 : Nat) ^ (4 - (M + 1)) <= 256 ^ 3 := Nat.pow_le_pow_right (by decide) (by omega)
           have h2 : (256 : Nat) ^ 3 = 16777216 := by decide
           have := HA.out
           omega
          have HA2 : Hid (A * 256 + N < 256 ^ (4 - M)) := by
           show _ < _
           have h1 : (256 : Nat) ^ (4 - M) = 256 ^ (4 - (M + 1)) * 256 := by rw [show 4 - M = 4 - (M + 1) + 1 by omega, Nat.pow_succ]
           have := HA.out
           rw [h1]
           generalize (256 : Nat) ^ (4 - (M + 1)) = p at *
           omega
          have o1 := zri A N 8 (by omega) (by omega)
          rw [show A * 2 ^ 8 = A * 256 from rfl] at o1
          obtain ⟨A2, hA2⟩ : ∃ A2, A2 = A * 256 + N := ⟨_, rfl⟩
          rw [<- hA2] at o1 HV HA2
          have o2 : ((A * 256 : Nat) : Int) = (A : Int) * 256 := by omega
          rw [o2] at o1
          clear hA2 o2
          have HT2 : Hid ((T.extract (k + 1) T.size).size <= 1000000000) := by
           show _ <= _
           rw [ByteArray.size_extract]
           have := HT.out
           omega
          have HL : Hid (ls (T.extract (k + 1) T.size) = (ls T).drop (k + 1)) := by
           show _ = _
           rw [zb9]
           exact List.take_of_length_le (by rw [List.length_drop, zb4]; omega)
          go_wp2
          go_roundg M
          case rel => exact ⟨M, _, A2, rfl, by omega, rfl, by go_num, rfl, rfl, HT2, HA2, by show _ = _; rw [HL.out]; exact HV.out⟩
          case measure => rw [HG.out]; omega
         ·have hd : decide ((255 : Int) < (N : Int)) = true := jT (by omega)
          have hdN : decide (255 < N) = true := jT (by omega)
          have HV : Hid (V = none) := by show _ = _; rw [HV0.out, if_neg hn]
          clear hn
          go_wp2
          rw [Exit.noGoto_ret]
          go_ret2
          rw [HV.out]
          exact ⟨rfl, rfl⟩
        ·have hq : ((T[k].toNat : Int) == 46) = false := zrp h46
         have hdg := zre T[k]
         have hlt2 := zr3 T[k] b hb2
         obtain ⟨d, hde⟩ : ∃ d, d = pd T[k] := ⟨_, rfl⟩
         have hd16 : d <= 16 := by rw [hde]; unfold pd; omega
         rw [<- hde] at hdg hlt2
         by_cases hdb : zqe T[k] < b
         ·have hdv : zqe T[k] = d := by
           have := hlt2.2 hdb
           rw [hde] at this ⊢
           unfold pd at this ⊢
           omega
          have hge : decide ((b : Int) <= (d : Int)) = false := jF (by have := hlt2.2 hdb; omega)
          have hgeN : decide (b <= d) = false := jF (by have := hlt2.2 hdb; omega)
          obtain ⟨N2, hN2⟩ : ∃ N2, N2 = min (b * N + d) 4294967296 := ⟨_, rfl⟩
          have HS2 : Hid (zr4 b ((ls T).drop (k + 1)) N2 = zr4 b ((ls T).drop st) 0) := by
           show _ = _
           have := HS.out
           rw [hdrop, zr4, if_neg h46, if_pos hdb, hdv, <- hN2] at this
           exact this
          have hbN : b * N <= 16 * 4294967296 := Nat.mul_le_mul hb2 hN
          have hz3 : min ((b : Int) * (N : Int) + (d : Int)) 4294967296 = (N2 : Int) := by
           rw [hN2]
           have : (b : Int) * (N : Int) = ((b * N : Nat) : Int) := by simp
           rw [this]
           omega
          have hmul : (b : Int) * (N : Int) = ((b * N : Nat) : Int) := by simp
          have hmul0 : 0 <= (b : Int) * (N : Int) := by omega
          have hmul1 : (b : Int) * (N : Int) <= 68719476736 := by omega
          clear hmul
          have hN2b : N2 <= 4294967296 := by rw [hN2]; omega
          have hmin : ∀ (W : World) ts ty, (Builtin.min_ ts ty #[.int .u64 ((b : Int) * (N : Int) + (d : Int)), .int .u64 4294967296]).run Tryz.prog W = .ok (.int .u64 (N2 : Int)) W := fun W ts ty => zrj W ts ty _ _ _ hz3
          clear hz3 hN2 hde hdv hdb hlt2 hdrop h46 hbN HW HS
          go_wp2_with (go_at_call 177; refine (hdg _).mono ?_; rintro e w' ⟨rfl, rfl⟩)
          go_roundg (T.size + 1 - (k + 1))
          case rel => exact ⟨k + 1, N2, rfl, by omega, rfl, rfl, rfl, by go_num, rfl, hN2b, HS2⟩
          case measure => rw [HG2.out]; omega
         ·have hge : decide ((b : Int) <= (d : Int)) = true := jT (by have := mt hlt2.1 hdb; omega)
          have hgeN : decide (b <= d) = true := jT (by have := mt hlt2.1 hdb; omega)
          have HV : Hid (V = none) := by
           show _ = _
           have := HW.out
           rw [hdrop, zr4, if_neg h46, if_neg hdb] at this
           exact this
          clear hde hdb hlt2 hdrop h46 HW HS
          go_wp2_with (go_at_call 177; refine (hdg _).mono ?_; rintro e w' ⟨rfl, rfl⟩)
          rw [Exit.noGoto_ret]
          go_ret2
          rw [HV.out]
          exact ⟨rfl, rfl⟩
       ·obtain rfl : k = T.size := by omega
        have HV0 : Hid (V = if N < 256 ^ (M + 1) then some (A * 256 ^ (M + 1) + N) else none) := by
         show _ = _
         have := HW.out
         rw [zcd] at this
         exact this
        obtain ⟨K, hK⟩ : ∃ K, K = 8 * (M + 1) := ⟨_, rfl⟩
        have hK64 : K <= IntKind.u64.bits := by show K <= 64; omega
        have hKK : (8 : Int) * ((M : Int) + 1) = (K : Int) := by omega
        obtain ⟨R, hR⟩ : ∃ R, R = 2 ^ K := ⟨_, rfl⟩
        have hp : (256 : Nat) ^ (M + 1) = R := by rw [hR, hK, Nat.pow_mul]
        have hple := zsc M hM
        rw [hp] at HV0 hple
        have hA4 : (A + 1) * R <= 4294967296 := by
         have h1 : (256 : Nat) ^ (4 - (M + 1)) * R = 4294967296 := by rw [<- hp, <- Nat.pow_add, show 4 - (M + 1) + (M + 1) = 4 by omega]
         rw [<- h1]
         exact Nat.mul_le_mul_right _ HA.out
        have hR0 : 0 < R := by rw [hR]; exact Nat.pow_pos (by decide)
        rw [Nat.add_mul, Nat.one_mul] at hA4
        have hR2 : (2 : Int) ^ K = (R : Int) := by rw [hR, Int.natCast_pow]; rfl
        have or1 : ∀ n : Nat, n < R -> bits .or .u64 ((A * R : Nat) : Int) (n : Int) = ((A * R + n : Nat) : Int) := by
         intro n hn
         have := zri A n K (by omega) (by rw [<- hR]; omega)
         rw [<- hR] at this
         exact this
        obtain ⟨Z, hZ⟩ : ∃ Z, Z = A * R := ⟨_, rfl⟩
        rw [<- hZ] at hA4 HV0 or1
        have hsh1 : IntKind.u64.wrap (1 * 2 ^ K) = (R : Int) := by
         rw [hR2, IntKind.wrap_u64]
         omega
        have hsh2 : IntKind.u64.wrap ((A : Int) * 2 ^ K) = (Z : Int) := by
         have : (A : Int) * (R : Int) = (Z : Int) := by rw [hZ, Int.natCast_mul]
         rw [hR2, this, IntKind.wrap_u64]
         omega
        have HS1 := jL hsh1
        have HS2 := jL hsh2
        clear hsh1 hsh2 hK hp HW HS hR hR2 hZ
        by_cases hn : N < R
        ·have HV : Hid (V = some (Z + N)) := by show _ = _; rw [HV0.out, if_pos hn]
         have o1 := or1 N hn
         obtain ⟨Y, hY⟩ : ∃ Y, Y = Z + N := ⟨_, rfl⟩
         rw [<- hY] at o1 HV
         have hYb : Y < 4294967296 := by omega
         have hge : decide ((R : Int) <= (N : Int)) = false := jF (by omega)
         have hgeN : decide (R <= N) = false := jF (by omega)
         clear hY or1 HV0
         go_wp2_with (first | (refine za3 _ rfl _ _ _ _ rfl .u64 1 K hK64 (by exact rfl) (by exact rfl) _ HS1.out ?_) | (refine za3 _ rfl _ _ _ _ rfl .u64 (A : Int) K hK64 (by exact rfl) (by exact rfl) _ HS2.out ?_))
         rw [Exit.noGoto_ret]
         go_ret2
         rw [HV.out]
         exact ⟨rfl, rfl⟩
        ·have HV : Hid (V = none) := by show _ = _; rw [HV0.out, if_neg hn]
         have hge : decide ((R : Int) <= (N : Int)) = true := jT (by omega)
         have hgeN : decide (R <= N) = true := jT (by omega)
         clear or1 HV0
         go_wp2_with (first | (refine za3 _ rfl _ _ _ _ rfl .u64 1 K hK64 (by exact rfl) (by exact rfl) _ HS1.out ?_) | (refine za3 _ rfl _ _ _ _ rfl .u64 (A : Int) K hK64 (by exact rfl) (by exact rfl) _ HS2.out ?_))
         rw [Exit.noGoto_ret]
         go_ret2
         rw [HV.out]
         exact ⟨rfl, rfl⟩
end

section
open Go.RowKit Go.Shelf
set_option maxHeartbeats 16000000
theorem ze5 {w w' : World} {B e size n : Nat} {v : Value} {xs : List Value} (h : w.ownsRow B e size v n xs) (hb : Below w.heap.size w w') : w'.ownsRow B e size v n xs := by
 refine h.kept (row := none) ⟨hb.os, hb.tape, hb.output, hb.size, fun k hk _ => hb.block k hk⟩ ?_
 cases hv : v.ownBlock with
 | none => exact .inl rfl
 | some g => exact .inr (by simp)
set_option maxRecDepth 20000 in
theorem ze6 (s : ByteArray) (hs : s.size <= 100000000) (w : World) (hS : zey w) : Calls Tryz.prog 110 #[.string s] w fun e w' =>
 e = .returned (.tuple #[.string (bs ((zg9 (ls s)).getD [])), .bool (zg9 (ls s)).isSome]) /\ Below w.heap.size w w' := by
 obtain ⟨i5, hi5, hz0, hz1, hz2⟩ := info_parts z34
 have hP0 : zdw (zg9 (ls s)) [] (ls s) := by
  unfold zdw
  cases zg9 (ls s) <;> rfl
 generalize zg9 (ls s) = V at *
 have HP0 := jL hP0
 have HSY := jL hS
 clear hP0 hS
 go_enter Tryz.func110, Tryz.ntmps110
 go_wp2
 go_step3
 go_wp2
 go_step3
 go_wp2
 go_loopg [4, 5] s.size (fun g tv rv wr => ∃ (acc : List UInt8) (R : ByteArray), g = R.size /\ rv = .string R /\ acc.length + R.size <= 100000000 /\ Hid (zdw V acc (ls R)) /\ wr.ownsRow w.heap.size 5 1 tv acc.length (acc.map bv) /\ Below w.heap.size w wr)
 case atStart => exact ⟨[], s, rfl, rfl, by simpa using hs, HP0, World.ownsRow_nil _ _ _ _, Below.refl _ _⟩
 case round =>
  obtain ⟨acc, R, hg, rfl, hsz, HP, hown, hb⟩ := hrel
  have HG := jL hg
  clear hg
  go_wp2
  have HR : Hid (R.size <= 100000000) := by show _ <= _; omega
  obtain ⟨wo, rfl⟩ : ∃ wo : World, wo = wr := ⟨_, rfl⟩
  obtain ⟨go, rfl⟩ : ∃ go : Nat, go = gk := ⟨_, rfl⟩
  go_loopg [4, 5, 12] (R.size + 1) (fun g tv rv i wr => ∃ (k : Nat) (acc : List UInt8), k <= R.size /\ g = R.size + 1 - k /\ rv = .string R /\ i = .int .i64 k /\ acc.length + (R.size - k) <= 100000000 /\ Hid (zdw V acc ((ls R).drop k)) /\ wr.ownsRow w.heap.size 5 1 tv acc.length (acc.map bv) /\ Below w.heap.size w wr)
  case atStart => exact ⟨0, acc, Nat.zero_le _, by omega, rfl, rfl, by omega, jL (by rw [List.drop_zero]; exact HP.out), hown, hb⟩
  case round =>
   clear hown hb HP hsz acc
   obtain ⟨k, acc, hk, hg2, rfl, rfl, hsz, HP, hown, hb⟩ := hrel
   have HG2 := jL hg2
   clear hg2
   have hl1 : acc.length <= 100000000 := by omega
   by_cases hlt : k < R.size
   ·have hdrop := zcc R k hlt
    have hHP := HP.out
    rw [hdrop] at hHP
    have hR8 : R.size <= 1000000000 := by have := HR.out; omega
    by_cases h37 : R[k] = 37
    ·have hq : (!((R[k].toNat : Int) == 37)) = false := by rw [h37]; rfl
     have hq' : ((R[k].toNat : Int) == 37) = true := by rw [h37]; rfl
     rw [h37] at hHP
     have hsl : ls (R.extract (k + 1) R.size) = (ls R).drop (k + 1) := z24 R (k + 1)
     have c1 := ze4 (R.extract (k + 1) R.size) (by rw [<- zb4, hsl, List.length_drop, zb4]; omega) wr (zez HSY.out hb)
     rw [hsl] at c1
     cases he : zds ((ls R).drop (k + 1)) with
     | none =>
       have HV := jL (zdy hHP he)
       rw [he] at c1
       clear hHP he hdrop h37 hsl
       go_wp2_with fail
       refine c1.mono ?_
       rintro e w2 ⟨rfl, hb2⟩
       replace hb2 := hb.trans (hb2.mono hb.size)
       go_wp2
       rw [Exit.noGoto_ret]
       go_ret2
       rw [HV.out]
       exact ⟨rfl, hb2⟩
     | some v =>
       have hv := zdv he
       have hlen3 : k + 3 <= R.size := by
        have := hv.1
        rw [List.length_drop, zb4] at this
        omega
       have hv256 : v < 256 := hv.2
       have HN := jL (zdz hHP he)
       have HX : Hid (ls (R.extract (k + 1 + 2) R.size) = ((ls R).drop (k + 1)).drop 2) := by
        show _ = _
        rw [z24, List.drop_drop]
       have HZ : Hid ((R.extract (k + 1 + 2) R.size).size = R.size - (k + 3)) := by
        show _ = _
        rw [ByteArray.size_extract]
        omega
       have HB8 : Hid (bv (UInt8.ofNat v) = .int .u8 (v : Int)) := by
        show _ = _
        rw [zcf]
        simp
        omega
       rw [he] at c1
       rw [show (((some v).getD 0 : Nat) : Int) = (v : Int) from rfl, show (some v).isSome = true from rfl] at c1
       clear hHP he hdrop h37 hsl hv
       go_wp2_with fail
       refine c1.mono ?_
       rintro e w2 ⟨rfl, hb2⟩
       replace hown := ze5 hown hb2
       replace hb2 := hb.trans (hb2.mono hb.size)
       go_wp2_with (at_builtin; refine zcq _ rfl _ _ 72 rfl w.heap.size 5 i5 (.int .u8 0) 1 z31 hi5 hz0 hz1 hz2 rfl _ (by exact rfl) _ _ _ (by exact rfl) hown (by exact rfl) (by unfold maxLen; omega) (by omega) hb2 jH ?_; intro v' w1' hown' hb' _)
       go_roundg (R.size - (k + 3))
       case rel =>
        refine ⟨acc ++ [UInt8.ofNat v], _, ?_, rfl, ?_, ?_, ?_, hb'⟩
        ·rw [HZ.out]
        ·rw [HZ.out, List.length_append, List.length_singleton]; omega
        ·show zdw V _ _
         rw [HX.out]
         exact HN.out
        ·have e : (acc ++ [UInt8.ofNat v]).map bv = acc.map bv ++ [.int .u8 (v : Int)] := by rw [List.map_append, <- HB8.out]; rfl
         rw [e, List.length_append, List.length_singleton]
         exact hown'
       case measure => rw [HG.out]; omega
    ·have hq' : ((R[k].toNat : Int) == 37) = false := zrp h37
     have hq : (!((R[k].toNat : Int) == 37)) = true := by rw [hq']; rfl
     have HN := jL (zdx hHP h37)
     clear hHP hdrop h37
     go_wp2_with (at_builtin; refine zcq _ rfl _ _ 72 rfl w.heap.size 5 i5 (.int .u8 0) 1 z31 hi5 hz0 hz1 hz2 rfl _ (by exact rfl) _ _ _ (by exact rfl) hown (by exact rfl) (by unfold maxLen; omega) (by omega) hb jH ?_; intro v' w1' hown' hb' _)
     go_roundg (R.size + 1 - (k + 1))
     case rel =>
      refine ⟨k + 1, acc ++ [R[k]], by omega, rfl, rfl, by go_num, by rw [List.length_append, List.length_singleton]; omega, HN, ?_, hb'⟩
      have e : (acc ++ [R[k]]).map bv = acc.map bv ++ [.int .u8 (R[k].toNat : Int)] := by rw [List.map_append]; rfl
      rw [e, List.length_append, List.length_singleton]
      exact hown'
     case measure => rw [HG2.out]; omega
   ·obtain rfl : k = R.size := by omega
    have hHP := HP.out
    rw [zcd] at hHP
    have HV := jL (zd0 hHP)
    have hconv := z36 wr w.heap.size acc.length u4 acc hown
    clear hHP
    go_wp2
    rw [Exit.noGoto_ret]
    go_ret2
    rw [HV.out]
    exact ⟨rfl, hb⟩
end

section
open Go.RowKit
set_option maxHeartbeats 16000000
theorem z2g {β : Type} {Al : Nat -> Prop} {B : Nat} (b : Nat) (t : TypeId) (c : β -> Array Value) (hA : ¬ Al b) : z2b Al B (fun s W => Row W b t (c s)) := by
 intro s W W' row hs hg hr
 refine (hg.block b hs.lt ?_).trans hs
 intro e
 rcases hr b e.symm with h | ⟨_, o, ho, hc⟩
 ·exact hA h
 ·rw [show W.heap[b]? = _ from hs] at ho
  cases ho
  cases hc
def z2h (W : World) (b : Nat) (t : TypeId) (N : Nat) (e : TypeId) (size k : Nat) (xs : List Value) : Prop := ∃ v, Boxed W b t v /\ W.ownsRow N e size v k xs
theorem z2i {β : Type} {Al : Nat -> Prop} {B : Nat} (b : Nat) (t : TypeId) (N : Nat) (e : TypeId) (size : Nat) (k : β -> Nat) (f : β -> List Value) (hA : ¬ Al b) (hN : ∀ r, Al r -> r < N) :
 z2b Al B (fun s W => z2h W b t N e size (k s) (f s)) := by
 rintro s W W' row ⟨v, hv, hr⟩ hg hrow
 refine ⟨v, z2e (Al := Al) (B := B) b t (fun _ : Unit => v) hA () W W' row hv hg hrow, hr.kept hg ?_⟩
 rcases hr.2 with ⟨rfl, _⟩ | ⟨g, cap, cur, rfl, hge, hgb, _⟩
 ·exact .inl rfl
 ·refine .inr fun e' => ?_
  have e2 : row = some g := by simpa [Value.ownBlock] using e'.symm
  rcases hrow g e2 with h | ⟨_, o, ho, hc⟩
  ·have := hN g h
   omega
  ·rw [hgb] at ho
   cases ho
   cases hc
theorem z2h.later {W W' : World} {b N : Nat} {t e : TypeId} {size k : Nat} {xs : List Value} (h : z2h W b t N e size k xs) (hb : Below W.heap.size W W') : z2h W' b t N e size k xs := by
 obtain ⟨v, hv, hr⟩ := h
 refine ⟨v, (hb.block b hv.lt).trans hv, hr.kept (row := none) ⟨hb.os, hb.tape, hb.output, hb.size, fun k hk _ => hb.block k hk⟩ ?_⟩
 cases hv : v.ownBlock with
 | none => exact .inl rfl
 | some g => exact .inr (by simp)
theorem z2j {W w1 : World} {N b : Nat} {t e : TypeId} {size k m : Nat} {v v' : Value} {xs ys : List Value} {tmp : Obj} (hv : Boxed W b t v) (hr : W.ownsRow N e size v k xs) (hb : b < N) (hN : N <= W.heap.size)
 (hown : w1.ownsRow N e size v' m ys) (hg : (W.alloc tmp).grownBy w1 v.ownBlock) :
 Boxed w1 b t v /\ Boxed (w1.setCell ⟨b, 0, none⟩ v') b t v' /\ z2h (w1.setCell ⟨b, 0, none⟩ v') b t N e size m ys /\ KeepsOthers W (w1.setCell ⟨b, 0, none⟩ v') /\
 (∀ r, r < N -> r ≠ b -> (w1.setCell ⟨b, 0, none⟩ v').heap[r]? = W.heap[r]?) /\ (∀ n₀ (w : World), n₀ <= b -> Below n₀ w W -> Below n₀ w (w1.setCell ⟨b, 0, none⟩ v')) := by
 have hge : ∀ {X : World} {u : Value} {j : Nat} {zs : List Value}, X.ownsRow N e size u j zs -> ∀ g, u.ownBlock = some g -> N <= g /\ ∃ o, X.heap[g]? = some o /\ o.isCells = true := by
  intro X u j zs h g hu
  rcases h.2 with ⟨rfl, _⟩ | ⟨g', cap, cur, rfl, hge, hgb, _⟩
  ·simp [Value.ownBlock] at hu
  ·obtain rfl : g' = g := by simpa [Value.ownBlock] using hu
   exact ⟨hge, _, hgb, rfl⟩
 have hv1 : Boxed w1 b t v := (hv.alloc tmp).kept hg (fun h => by have := (hge hr b h.symm).1; omega)
 have hs : ∀ r, r < N -> r ≠ b -> (w1.setCell ⟨b, 0, none⟩ v').heap[r]? = W.heap[r]? := by
  intro r hrN hne
  rw [Below.heap_setCell _ _ _ r hne, hg.block r (by simp; omega) (fun h => by have := (hge hr r h.symm).1; omega)]
  exact Below.heap_alloc W tmp r (by omega)
 refine ⟨hv1, hv1.set v', ⟨v', hv1.set v', hown.kept (grownBy_setCell' w1 b v') (.inr fun h => ?_)⟩, ?_, hs, ?_⟩
 ·have := (hge hown b h).1
  omega
 ·refine ((KeepsOthers.alloc W tmp).trans (KeepsOthers.of_grownBy hg fun j o ej hj => ?_)).trans (KeepsOthers.setCell _ _ _)
  obtain ⟨_, o', ho', hc⟩ := hge hr j ej
  rw [Below.heap_alloc W tmp j (Array.getElem?_eq_some_iff.1 ho').1, ho'] at hj
  cases hj
  exact hc
 ·intro n₀ w hn hB
  refine (hB.trans (((Below.refl n₀ W).alloc (by omega) tmp).grown hg (by simp; omega) fun j ej => ?_)).setCell (p := ⟨b, 0, none⟩) hn v'
  have := (hge hr j ej).1
  omega
theorem z2k {F : Fence} {n : Nat} {P : Program} (w : World) {ops : Array Oper} {rest : List Oper} {o : Oper} {a : Act} {Q : Exit -> Act -> World -> Prop}
 (hg : o.guard = none) (hd : o.dst = none) (t : TypeId) (p x : Operand) (hop : o.op = .store t p x) (g : Nat) (hp : a.eval p = .pointer (some ⟨g, 0, none⟩)) (c' : Array Value) (hx : a.eval x = .agg c')
 (t' : TypeId) (c : Array Value) (hrow : Row w g t' c) (hi : (P.info? t).map (·.size) = some c'.size) (ho : c.size = c'.size) (h1 : c'.all (·.oneCell') = true)
 (h : ∀ w', Row w' g t' c' -> w.grownBy w' (some g) -> wpListIn F n P ops Q rest a w') : wpListIn F n P ops Q (o :: rest) a w := by
 refine wpListIn_plain hg fun K hK => ?_
 have hl := run_storeVar_row (P := P) w g t' t c c' hrow hi ho h1
 have : wpListIn F n P ops Q rest (a.put o.dst undef) (w.setRow g c') := by
  rw [hd]
  exact h (w.setRow g c') (setRow_heap w g c c' t' _ hrow) (zaw w g c')
 unfold Oper.wpIn
 refine ⟨?_, ?_⟩
 ·simp [Oper.about, hop]
 ·rw [Oper.semAt_plain F _ _ (by rw [hop]; intro c hc'; cases hc')]
  simp only [execOp, hop, hp, hx, Instr.storeAt, Instr.sureAddr, Sem.run_bind, Sem.run_pure, Result.andThen, hl]
  exact hK _ _ this
end

end Go.Proofs.YtekaljeicfjkjaaGreatDoor
