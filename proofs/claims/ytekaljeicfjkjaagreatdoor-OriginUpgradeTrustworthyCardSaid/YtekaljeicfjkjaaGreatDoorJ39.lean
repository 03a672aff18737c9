/-
Contract of Numeric of package ipv4.
make([]byte, 0, n). No function of the program.
Contracts of Format and Parse of package ipv4; strconv.AppendUint.
A reader of IPv6 addresses from left to right: no program.
Contracts of digit and leadingGroup of package ipv6.
Slices of arrays: a[l:h]. No program.
-/
import Derived.Test.YtekaljeicfjkjaaGreatDoorJ21
import Derived.Test.YtekaljeicfjkjaaGreatDoorJ38
import Derived.Test.YtekaljeicfjkjaaGreatDoorJ07
import Derived.Laws.MakeOwn
import Derived.Test.YtekaljeicfjkjaaGreatDoorJ09
import Derived.Test.YtekaljeicfjkjaaGreatDoorJ03
import Derived.Test.YtekaljeicfjkjaaGreatDoorJ18
import Derived.Test.YtekaljeicfjkjaaGreatDoorJ08
import Derived.Laws.Slices
namespace Go.Proofs.YtekaljeicfjkjaaGreatDoor
section
open Go.RowKit
set_option maxHeartbeats 16000000
theorem zqz (s : ByteArray) (hs : s.size <= 1000000000) (w : World) :
 Calls Tryz.prog 111 #[.string s] w fun e w' => e = .returned (.bool (zpn (ls s))) /\ w = w' := by
 have c1 := zqj s hs w
 obtain ⟨T, hT⟩ : ∃ T, T = bs (zq0 (ls s)) := ⟨_, rfl⟩
 rw [<- hT] at c1
 have hTs : T.size <= 1000000000 := by rw [hT, zb5]; have := zqo (ls s); rw [zb4] at this; omega
 obtain ⟨i, hi, hib, hlast⟩ := zro T
 have c2 := fun W => Any.strings_LastIndexByte Tryz.lays149 T 46 (by omega) W
 obtain ⟨x, hx⟩ : ∃ x, x = Lib.lastIndexByte T 46 := ⟨_, rfl⟩
 rw [<- hx] at c2 hi
 obtain ⟨X, hX⟩ : ∃ X, X = T.extract i T.size := ⟨_, rfl⟩
 have hL : ls X = (ls T).drop i := by
  rw [hX, zb9]
  exact List.take_of_length_le (by rw [List.length_drop, zb4]; omega)
 have hXs : X.size <= 1000000000 := by rw [hX, ByteArray.size_extract]; omega
 have hV : zpn (ls s) = if zra (ls X) = true then ((ls X).drop 2).all (fun c => decide (zph c < 16)) else (!(ls X).isEmpty && (ls X).all (fun c => decide (zph c < 10))) := by
  rw [zrr, <- zrq, hL, <- hlast, hT, zb0]
 have c3 := zqi X
 have hx0 : -1 <= x := by omega
 have hx1 : x <= 1000000000 := by omega
 have hxi : x = (i : Int) - 1 := by omega
 subst hxi
 have hii : (i : Int) - 1 + 1 = (i : Int) := by omega
 have HX := jL hX
 clear hT hlast hL hx hi hX
 by_cases hh : zra (ls X) = true
 ·rw [if_pos hh] at hV
  rw [hh] at c3
  obtain ⟨b, r, e, _⟩ := (zrb _).1 hh
  have h2 : 2 <= X.size := by rw [<- zb4, e]; simp
  have c4 := zqy (X.extract 2 X.size) (by rw [ByteArray.size_extract]; omega) 16 (by omega)
  have e2 : ls (X.extract 2 X.size) = (ls X).drop 2 := by
   rw [zb9]
   exact List.take_of_length_le (by rw [List.length_drop, zb4]; exact jH)
  rw [e2] at c4
  have HV := jL hV
  generalize ((ls X).drop 2).all (fun c => decide (zph c < 16)) = q at *
  clear hV hh e e2
  go_enter Tryz.func111, Tryz.ntmps111
  go_wp2_with fail
  refine c1.mono ?_
  rintro e w' ⟨rfl, rfl⟩
  go_wp2_with fail
  refine (c2 _).mono ?_
  rintro e w' ⟨rfl, rfl⟩
  go_wp2_with fail
  rw [<- HX.out]
  refine (c3 _).mono ?_
  rintro e w' ⟨rfl, rfl⟩
  go_wp2_with fail
  refine (c4 _).mono ?_
  rintro e w' ⟨rfl, rfl⟩
  go_wp2
  go_ret
  exact ⟨zbx HV.out.symm, rfl⟩
 ·rw [if_neg hh] at hV
  rw [Bool.not_eq_true] at hh
  rw [hh] at c3
  have hemp : (ls X).isEmpty = decide (X.size = 0) := z1x X
  by_cases h0 : X.size = 0
  ·have hE : X.toList = ([] : List UInt8) := by rw [zb3]; exact List.eq_nil_of_length_eq_zero (by rw [zb4]; exact h0)
   have HV : Hid (zpn (ls s) = false) := by show _ = _; rw [hV, hemp, jT h0]; rfl
   clear hV hh hemp
   go_enter Tryz.func111, Tryz.ntmps111
   go_wp2_with fail
   refine c1.mono ?_
   rintro e w' ⟨rfl, rfl⟩
   go_wp2_with fail
   refine (c2 _).mono ?_
   rintro e w' ⟨rfl, rfl⟩
   go_wp2_with fail
   rw [<- HX.out]
   refine (c3 _).mono ?_
   rintro e w' ⟨rfl, rfl⟩
   go_wp2
   go_ret
   exact ⟨zbx HV.out.symm, rfl⟩
  ·have hE : ¬ X.toList = ([] : List UInt8) := by rw [zb3]; exact zqq X (Nat.pos_of_ne_zero h0)
   have hE2 : X.toList.isEmpty = false := by rw [zb3, hemp, jF h0]
   have c4 := zqy X hXs 10 (by omega)
   have HV : Hid (zpn (ls s) = (ls X).all (fun c => decide (zph c < 10))) := by show _ = _; rw [hV, hemp, jF h0]; rfl
   generalize (ls X).all (fun c => decide (zph c < 10)) = q at *
   clear hV hh hemp
   go_enter Tryz.func111, Tryz.ntmps111
   go_wp2_with fail
   refine c1.mono ?_
   rintro e w' ⟨rfl, rfl⟩
   go_wp2_with fail
   refine (c2 _).mono ?_
   rintro e w' ⟨rfl, rfl⟩
   go_wp2_with fail
   rw [<- HX.out]
   refine (c3 _).mono ?_
   rintro e w' ⟨rfl, rfl⟩
   go_wp2_with fail
   refine (c4 _).mono ?_
   rintro e w' ⟨rfl, rfl⟩
   go_wp2
   go_ret
   exact ⟨zbx HV.out.symm, rfl⟩
end

section
open Go.RowKit
set_option maxHeartbeats 16000000
theorem zt8 (w : World) {ops : Array Oper} {rest : List Oper} {o : Oper} {a : Act} {Q : Exit -> Act -> World -> Prop}
 (hg : o.guard = none) (l c : Operand) (hop : o.op = Op.makeSlice 72 l c) (n : Int) (hl : a.eval l = .int .i64 0) (hc : a.eval c = .int .i64 n) (h0 : 0 <= n) (hn : n <= 4000000000)
 (h : ∀ v' w', w'.ownsRow w.heap.size 5 1 v' 0 [] -> Below w.heap.size w w' -> wpList Tryz.prog ops Q rest (a.put o.dst v') w') : wpList Tryz.prog ops Q (o :: rest) a w := by
 refine wpList_plain hg fun K hK' => ?_
 obtain ⟨i, hi, hz0, hz1, hz2⟩ := info_parts z3f
 have hrun := run_make (P := Tryz.prog) w 72 5 i (.int .u8 0) z3c hi hz0 .i64 .i64 0 n (by omega) (by omega) (by rw [hz2]; omega) (by omega)
 rw [hz1, Nat.mul_one] at hrun
 have hm : madeCells (Value.int .u8 0).cells n.toNat = zcg n.toNat := zch _
 rw [hm] at hrun
 have := h (.slice (some ⟨w.heap.size, 0, none⟩) 0 n.toNat) (w.alloc (.cells (zcg n.toNat) 5))
  ⟨rfl, .inr ⟨w.heap.size, n.toNat, zcg n.toNat, rfl, jH, by show (w.heap.push _)[w.heap.size]? = _; simp, Nat.zero_le _, by unfold maxLen; omega, by simp [zcg], by simp⟩⟩
  ((Below.refl _ _).alloc jH _)
 unfold Oper.wp
 simp [execOp, hop, hl, hc, hrun, Result.andThen]
 exact hK' _ _ this
end

section
open Go.RowKit
set_option maxHeartbeats 16000000
theorem zqv (B n u : Nat) (hu : u < 18446744073709551616) (sv : Value) (l : List UInt8) (w : World) (hp : Pow w) (hown : w.ownsRow B 5 1 sv n (l.map bv)) (hB : B <= w.heap.size) (hn : n <= 1000000000) :
 Calls Tryz.prog 98 #[sv, .int .u64 u, .int .i64 10] w fun e w' => ∃ v', e = .returned v' /\ w'.ownsRow B 5 1 v' (n + (Lib.decDigits u).length) ((l ++ Lib.decDigits u).map bv) /\ Below B w w' := by
 have c1 := Any.internal_strconv_AppendUint_10 Tryz.laysM288 B n u hu sv (l.map bv) w hown hB (by omega) hp
 have HM : Hid (∀ m : List UInt8, l.map bv ++ Lib.byteCells m = (l ++ m).map bv) := by
  show ∀ m : List UInt8, _ = _
  intro m
  rw [List.map_append]
  rfl
 clear hown hp
 go_enter Tryz.func98, Tryz.ntmps98
 go_wp2_with fail
 refine c1.mono ?_
 rintro e w' ⟨v', rfl, h1, h2, _⟩
 rw [HM.out] at h1
 go_wp2
 go_ret
 exact ⟨_, rfl, h1, h2⟩
set_option maxRecDepth 20000 in
theorem zqw (v : Int) (hv0 : 0 <= v) (hv1 : v < 4294967296) (w : World) (hp : Pow w) :
 Calls Tryz.prog 72 #[.int .u32 v] w fun e w' => e = .returned (.string (bs (zps v.toNat))) /\ Below w.heap.size w w' := by
 obtain ⟨i5, hi5, hz0, hz1, hz2⟩ := info_parts z3f
 have hF : zrt v.toNat 4 = zps v.toNat := zru _ (by omega)
 have HF := jL hF
 clear hF
 go_enter Tryz.func72, Tryz.ntmps72
 go_wp2_with (refine zt8 _ rfl _ _ rfl 15 rfl rfl (by decide) (by decide) ?_; intro v0 w0 hown0 hb0)
 go_loopg [3, 7] 4 (fun g t i wr => ∃ k : Nat, k <= 4 /\ g = 4 - k /\ i = .int .i64 k /\ wr.ownsRow w.heap.size 5 1 t (zrt v.toNat k).length ((zrt v.toNat k).map bv) /\ Below w.heap.size w wr)
 case atStart => exact ⟨0, by omega, rfl, rfl, hown0, hb0⟩
 case round =>
  obtain ⟨k, hk, hg, rfl, hown, hb⟩ := hrel
  have HG := jL hg
  clear hg
  have hlen := zrw v.toNat k
  by_cases hk4 : k < 4
  ·obtain ⟨K, hK⟩ : ∃ K, K = 8 * (3 - k) := ⟨_, rfl⟩
   have hKK : (8 : Int) * (3 - (k : Int)) = (K : Int) := by omega
   have hK32 : K <= 32 := by omega
   obtain ⟨r, hr⟩ : ∃ r : Nat, r = v.toNat / 2 ^ K := ⟨_, rfl⟩
   have hrv : v / 2 ^ K = (r : Int) := by
    rw [hr, Int.natCast_ediv, Int.natCast_pow, show ((v.toNat : Nat) : Int) = v by omega]
    rfl
   have HR := jL hrv
   have hrb : r < 4294967296 := by
    rw [hr]
    exact Nat.lt_of_le_of_lt (Nat.div_le_self _ _) (by omega)
   obtain ⟨u, hu⟩ : ∃ u, u = r % 256 := ⟨_, rfl⟩
   have hand : bits .and .u64 (r : Int) 255 = (u : Int) := by
    have := u64_and_nat r 255 (by omega) (by omega)
    rw [show ((255 : Nat) : Int) = 255 from rfl] at this
    rw [this, hu, show 255 = 2 ^ 8 - 1 from rfl, Nat.and_two_pow_sub_one_eq_mod]
   have hwr : IntKind.u64.wrap (r : Int) = (r : Int) := by rw [IntKind.wrap_u64]; omega
   have hdec : Lib.decDigits (v.toNat / 256 ^ (3 - k) % 256) = Lib.decDigits u := by
    rw [hu, hr, hK, Nat.pow_mul]
   have hub : u < 256 := by omega
   have hdl := zrv u hub
   by_cases h0 : k = 0
   ·have HN : Hid (zrt v.toNat (k + 1) = zrt v.toNat k ++ Lib.decDigits u) := by
     show _ = _
     rw [zrt, hdec, if_pos h0]
     rfl
    have hd : decide ((0 : Int) < (k : Int)) = false := jF (by omega)
    have hdN : decide (0 < k) = false := jF (by omega)
    have HU := jL (show u < 18446744073709551616 by omega)
    clear hK hr hrv hu hdec h0
    go_wp2_with (refine za2 _ rfl _ _ _ _ rfl (by kernel_rfl) _ K hK32 (by exact rfl) (by exact rfl) _ HR.out ?_)
    refine (zqv w.heap.size _ u HU.out _ _ _ (zwf hp hb) hown hb.size (by omega)).mono ?_
    rintro e w1 ⟨v1, rfl, hown1, hb1⟩
    replace hb1 := hb.trans hb1
    have hl : (zrt v.toNat (k + 1)).length = (zrt v.toNat k).length + (Lib.decDigits u).length := by rw [HN.out, List.length_append]
    rw [<- HN.out, <- hl] at hown1
    go_wp2
    go_roundg (4 - (k + 1))
    case rel => exact ⟨k + 1, by omega, rfl, by go_num, hown1, hb1⟩
    case measure => rw [HG.out]; omega
   ·have HN : Hid (zrt v.toNat (k + 1) = (zrt v.toNat k ++ [46]) ++ Lib.decDigits u) := by
     show _ = _
     rw [zrt, hdec, if_neg h0, List.append_assoc]
    have hd : decide ((0 : Int) < (k : Int)) = true := jT (by omega)
    have hdN : decide (0 < k) = true := jT (by omega)
    have HU := jL (show u < 18446744073709551616 by omega)
    clear hK hr hrv hu hdec h0
    go_wp2_with (at_builtin; refine zcq wr rfl _ _ 72 rfl w.heap.size 5 i5 (.int .u8 0) 1 z3c hi5 hz0 hz1 hz2 rfl _ (by exact rfl) _ _ _ (by exact rfl) hown (by exact rfl) (by unfold maxLen; omega) (by omega) hb jH ?_; intro v2 w2 hown2 hb2 hgr)
    rw [show (zrt v.toNat k).map bv ++ [Value.int .u8 46] = (zrt v.toNat k ++ [46]).map bv by rw [List.map_append]; rfl] at hown2
    go_wp2_with fail
    rw [HR.out, hwr, hand]
    refine (zqv w.heap.size _ u HU.out _ _ _ (zwf hp hb2) hown2 hb2.size (by omega)).mono ?_
    rintro e w1 ⟨v1, rfl, hown1, hb1⟩
    replace hb1 := hb2.trans hb1
    have hl : (zrt v.toNat (k + 1)).length = (zrt v.toNat k).length + 1 + (Lib.decDigits u).length := by rw [HN.out, List.length_append, List.length_append]; rfl
    rw [<- HN.out, <- hl] at hown1
    go_wp2
    go_roundg (4 - (k + 1))
    case rel => exact ⟨k + 1, by omega, rfl, by go_num, hown1, hb1⟩
    case measure => rw [HG.out]; omega
  ·obtain rfl : k = 4 := by omega
   have hconv := z3h wr _ _ _ _ hown
   rw [HF.out] at hconv
   go_wp2
   go_ret
   exact ⟨rfl, hb⟩
theorem zqx (s : ByteArray) (w : World) (hs : s.size <= 1000000000) (hp : Pow w) :
 Calls Tryz.prog 175 #[.string s] w fun e w' => e = .returned (.tuple #[.int .u32 (aV (zpr (ls s))), .bool (aK (zpr (ls s)))]) /\ Below w.heap.size w w' := by
 have c1 := zqu s hs w
 cases hq : pnL (ls s) with
 | none =>
   have HE : Hid (zpr (ls s) = none) := by show _ = _; rw [zrs, hq]
   rw [hq, show aV (none : Option Nat) = 0 from rfl, show aK (none : Option Nat) = false from rfl] at c1
   clear hq
   go_enter Tryz.func175, Tryz.ntmps175
   go_wp2_with fail
   refine c1.mono ?_
   rintro e w' ⟨rfl, rfl⟩
   go_wp2
   go_ret2
   rw [HE.out]
   exact ⟨rfl, Below.refl _ _⟩
 | some v =>
   have hv := zrk hq
   have c2 := zqw (v : Int) (by omega) (by omega) w hp
   rw [show ((v : Int)).toNat = v from rfl] at c2
   rw [hq, show aV (some v) = (v : Int) from rfl, show aK (some v) = true from rfl] at c1
   by_cases hf : zps v = ls s
   ·have HE : Hid (zpr (ls s) = some v) := by show _ = _; rw [zrs, hq]; exact if_pos hf
    rw [hf, zb1] at c2
    clear hq hf
    go_enter Tryz.func175, Tryz.ntmps175
    go_wp2_with fail
    refine c1.mono ?_
    rintro e w' ⟨rfl, hw⟩
    subst hw
    go_wp2_with fail
    refine c2.mono ?_
    rintro e w2 ⟨rfl, hb⟩
    go_wp2
    go_ret2
    rw [HE.out]
    exact ⟨rfl, hb⟩
   ·have HE : Hid (zpr (ls s) = none) := by show _ = _; rw [zrs, hq]; exact if_neg hf
    obtain ⟨X, hX⟩ : ∃ X, X = bs (zps v) := ⟨_, rfl⟩
    have hne : ¬ X.toList = s.toList := by
     rw [zb3, zb3, hX, zb0]
     exact hf
    have hn2 : (X.toList == s.toList) = false := beq_eq_false_iff_ne.2 hne
    have hn3 : (!X.toList == s.toList) = true := by rw [hn2]; rfl
    rw [<- hX] at c2
    clear hq hf hX
    go_enter Tryz.func175, Tryz.ntmps175
    go_wp2_with fail
    refine c1.mono ?_
    rintro e w' ⟨rfl, hw⟩
    subst hw
    go_wp2_with fail
    refine c2.mono ?_
    rintro e w2 ⟨rfl, hb⟩
    go_wp2
    go_ret2
    rw [HE.out]
    exact ⟨rfl, hb⟩
end

section
open Go.RowKit
set_option maxHeartbeats 16000000
def zl6 : Nat -> List UInt8 -> Nat
 | 0, _ => 0
 | _ + 1, [] => 0
 | n + 1, c :: r => if zph c < 16 then zl6 n r + 1 else 0
theorem zl7 : ∀ (n : Nat) (l : List UInt8), zl6 n l <= n /\ zl6 n l <= l.length
 | 0, _ => by simp [zl6]
 | _ + 1, [] => by simp [zl6]
 | n + 1, c :: r => by
   have ih := zl7 n r
   unfold zl6
   split
   ·simp only [List.length_cons]; omega
   ·simp
theorem zl8 : ∀ (n : Nat) (l : List UInt8) (k : Nat), k < zl6 n l -> zph (l.getD k 0) < 16
 | 0, _, k, h => by simp [zl6] at h
 | _ + 1, [], k, h => by simp [zl6] at h
 | n + 1, c :: r, k, h => by
   unfold zl6 at h
   split at h
   ·rename_i hc
    cases k with
    | zero => exact hc
    | succ k => rw [List.getD_cons_succ]; exact zl8 n r k (by omega)
   ·omega
theorem zl9 : ∀ (n : Nat) (l : List UInt8), zl6 n l = n \/ zl6 n l = l.length \/ ¬ zph (l.getD (zl6 n l) 0) < 16
 | 0, _ => .inl rfl
 | _ + 1, [] => .inr (.inl rfl)
 | n + 1, c :: r => by
   have ih := zl9 n r
   unfold zl6
   split
   ·rcases ih with h | h | h
    ·left; omega
    ·right; left; simp only [List.length_cons]; omega
    ·right; right; rw [List.getD_cons_succ]; exact h
   ·rename_i hc
    right; right; exact hc
theorem zma (n : Nat) (l : List UInt8) : (l.take (zl6 n l)).all (fun c => decide (zph c < 16)) = true := by
 rw [List.all_eq_true]
 intro c hc
 obtain ⟨k, hk, rfl⟩ := List.getElem_of_mem hc
 have h1 : k < zl6 n l := by simp at hk; omega
 have h2 := zl8 n l k h1
 have h3 : k < l.length := by simp at hk; omega
 rw [List.getD_eq_getElem?_getD, List.getElem?_eq_getElem h3, Option.getD_some] at h2
 rw [List.getElem_take]
 exact jT h2
theorem zmb : ¬ zph 58 < 16 := by decide
theorem zmc : ¬ zph 46 < 16 := by decide
theorem zmd (x : List UInt8) (h : x.all (fun c => decide (zph c < 16)) = true) : noB 58 x := by
 intro c hc e
 subst e
 have := List.all_eq_true.1 h _ hc
 exact zmb (of_decide_eq_true this)
theorem zme : ∀ (n : Nat) (x r : List UInt8), x.all (fun c => decide (zph c < 16)) = true -> x.length <= n -> (r = [] \/ ∃ c t, r = c :: t /\ ¬ zph c < 16) -> zl6 n (x ++ r) = x.length
 | n, [], r, _, _, hr => by
   rcases hr with rfl | ⟨c, t, rfl, hc⟩
   ·cases n <;> rfl
   ·cases n with
    | zero => rfl
    | succ n => rw [List.nil_append, zl6, if_neg hc]; rfl
 | 0, c :: x, r, _, h, _ => by simp at h
 | n + 1, c :: x, r, ha, h, hr => by
   rw [List.all_cons, Bool.and_eq_true] at ha
   rw [List.cons_append, zl6, if_pos (of_decide_eq_true ha.1), zme n x r ha.2 (by simp at h; omega) hr]
   rfl
theorem zmf : ∀ l : List UInt8, ∃ P, noB 58 P /\ (l = P \/ ∃ R, l = P ++ 58 :: R)
 | [] => ⟨[], fun b hb => (by simp at hb), .inl rfl⟩
 | c :: l => by
   by_cases hc : c = 58
   ·exact ⟨[], fun b hb => (by simp at hb), .inr ⟨l, by rw [hc]; rfl⟩⟩
   ·obtain ⟨P, hP, h⟩ := zmf l
    refine ⟨c :: P, fun b hb => ?_, ?_⟩
    ·rcases List.mem_cons.1 hb with rfl | hb
     ·exact hc
     ·exact hP b hb
    ·rcases h with rfl | ⟨R, rfl⟩
     ·exact .inl rfl
     ·exact .inr ⟨R, rfl⟩
theorem zmg : ∀ (a m : List UInt8) (i : Nat), noB 58 a -> m.head? ≠ some 58 -> zm7 (a ++ 58 :: m) i = zm7 m (i + a.length + 1)
 | [], [], i, _, _ => rfl
 | [], c :: m, i, _, h => by
   have hc : c ≠ 58 := by simpa using h
   rw [List.nil_append, zm7, if_neg (fun e => hc e.2)]
   rfl
 | [x], m, i, ha, h => by
   have hx : x ≠ 58 := ha x (by simp)
   rw [List.cons_append, List.nil_append, zm7, if_neg (fun e => hx e.1)]
   have := zmg [] m (i + 1) (by intro b hb; simp at hb) h
   simpa using this
 | x :: y :: a, m, i, ha, h => by
   have hx : x ≠ 58 := ha x (by simp)
   rw [List.cons_append, List.cons_append, zm7, if_neg (fun e => hx e.1)]
   have := zmg (y :: a) m (i + 1) (fun b hb => ha b (by simp at hb ⊢; exact .inr hb)) h
   rw [List.cons_append] at this
   rw [this]
   congr 1
   simp only [List.length_cons]; omega
theorem zmh (P R : List UInt8) (h : noB 58 P) (j : Nat) (hj : zm7 (P ++ 58 :: R) 0 = some j) : P.length <= j := by
 by_cases hR : R.head? = some 58
 ·cases R with
  | nil => cases hR
  | cons c R =>
    have hc : c = 58 := by simpa using hR
    subst hc
    have := znl P R 0 (znn P 0 h) (fun e => h 58 (List.mem_of_getLast? e) rfl)
    rw [this] at hj
    injection hj with hj
    omega
 ·rw [zmg P R 0 h hR, znk] at hj
  cases hq : zm7 R 0 with
  | none => rw [hq] at hj; cases hj
  | some q => rw [hq] at hj; injection hj with hj; simp only at hj; omega
theorem zmi : ∀ (p : List (List UInt8)) (last : Bool) (g : List Nat), p ≠ [] -> zm5 p last = some g -> 1 <= g.length
 | [], _, _, h, _ => absurd rfl h
 | [x], last, g, _, h => by
   unfold zm5 at h
   split at h
   ·injection h with h; subst h; simp
   ·split at h
    ·injection h with h; subst h; simp
    ·cases h
 | x :: y :: r, last, g, _, h => by
   unfold zm5 at h
   split at h
   ·cases h
   ·split at h
    ·cases h
    ·injection h with h; subst h; simp
theorem zmj (P : List UInt8) (rest : List (List UInt8)) (last : Bool) (h : zm4 P = none) (hp : last = true -> rest = [] -> zpr P = none) : zm5 (P :: rest) last = none := by
 cases rest with
 | nil =>
   unfold zm5
   cases last with
   | false => rw [h]; rfl
   | true => rw [hp rfl rfl, h]; rfl
 | cons y r => unfold zm5; rw [h]
theorem zmk (x : List UInt8) (rest : List (List UInt8)) (last : Bool) (v : Nat) (h : zm4 x = some v) (hr : rest ≠ []) : zm5 (x :: rest) last = (zm5 rest last).map (v :: ·) := by
 cases rest with
 | nil => exact absurd rfl hr
 | cons y r =>
   rw [zm5, h]
   cases zm5 (y :: r) last <;> rfl
def zml (G : List Nat) : Option Nat -> Option (List Nat)
 | none => if G.length = 8 then some G else none
 | some m => if G.length <= 7 then some (G.take m ++ (zm8 (8 - G.length) ++ G.drop m)) else none
def spB (l : List UInt8) (G : List Nat) (m : Nat) : Option (List Nat) := match (if l = [] /\ G.length = m then some [] else zm5 (z2m 58 l) true) with
 | some h => zml (G ++ h) (some m)
 | none => none
def spA (l : List UInt8) (G : List Nat) : Option (List Nat) := match zm7 l 0 with
 | none => (match zm5 (z2m 58 l) true with
   | some g => zml (G ++ g) none
   | none => none)
 | some k => (match zm5 (z2m 58 (l.take k)) false with
   | some g => spB (l.drop (k + 2)) (G ++ g) (G ++ g).length
   | none => none)
def sp6 (l : List UInt8) (G : List Nat) : Option Nat -> Option (List Nat)
 | none => spA l G
 | some m => spB l G m
theorem zmm (l : List UInt8) (G : List Nat) (m : Nat) : sp6 l G (some m) = spB l G m := rfl
theorem zmn (l : List UInt8) (G : List Nat) : sp6 l G none = spA l G := rfl
theorem zmo (G : List Nat) (m : Nat) : zml G (some m) = if G.length <= 7 then some (G.take m ++ (zm8 (8 - G.length) ++ G.drop m)) else none := rfl
theorem zmp (G : List Nat) : zml G none = if G.length = 8 then some G else none := rfl
theorem zmq (G : List Nat) (gap : Option Nat) (h : 9 <= G.length) : zml G gap = none := by
 cases gap with
 | none => rw [zmp, if_neg (by omega)]
 | some m => rw [zmo, if_neg (by omega)]
theorem zmr (l : List UInt8) : z2m 58 l ≠ [] := z2n 58 l []
theorem zms (l : List UInt8) : zm9 l = if l.take 2 = [58, 58] then sp6 (l.drop 2) [] (some 0) else sp6 l [] none := by
 split
 ·rename_i h
  obtain ⟨r, rfl⟩ : ∃ r, l = 58 :: 58 :: r := by
   match l, h with
   | a :: b :: r, h => simp at h; exact ⟨r, by rw [h.1, h.2]⟩
  have hd : zm7 (58 :: 58 :: r) 0 = some 0 := by rw [zm7, if_pos ⟨rfl, rfl⟩]
  unfold zm9 sp6 spB
  rw [hd]
  simp only [List.take_zero, List.drop_succ_cons, List.drop_zero, List.nil_append, List.length_nil]
  rw [show zm6 [] false = some [] from rfl]
  simp only [zm6]
  by_cases hr : r = []
  ·subst hr; simp [zml]
  ·rw [if_neg hr, if_neg (fun e => hr e.1)]
   cases zm5 (z2m 58 r) true with
   | none => rfl
   | some g => simp [zml]
 ·rename_i h
  unfold zm9 sp6 spA
  cases hd : zm7 l 0 with
  | none =>
    simp only [zm6]
    by_cases hl : l = []
    ·subst hl
     rfl
    ·rw [if_neg hl]
     cases zm5 (z2m 58 l) true with
     | none => rfl
     | some g => simp [zml]
  | some k =>
    have hk : l.take k ≠ [] := by
     intro e
     match l, hd, h with
     | a :: b :: r, hd, h =>
       rw [zm7] at hd
       split at hd
       ·rename_i hab; rw [hab.1, hab.2] at h; exact h rfl
       ·rw [znk] at hd
        cases hq : zm7 (b :: r) 0 with
        | none => rw [hq] at hd; cases hd
        | some q =>
          rw [hq] at hd
          injection hd with hd
          simp only at hd
          rw [<- hd] at e
          simp at e
    simp only [zm6]
    rw [if_neg hk]
    cases hg : zm5 (z2m 58 (l.take k)) false with
    | none => rfl
    | some g =>
      simp only [List.nil_append]
      unfold spB
      by_cases hr : l.drop (k + 2) = []
      ·rw [if_pos hr, if_pos ⟨hr, rfl⟩]
       simp only [zml, List.append_nil, List.length_nil, Nat.add_zero, Nat.sub_zero, List.take_length, List.drop_length]
      ·rw [if_neg hr, if_neg (fun e => hr e.1)]
       cases zm5 (z2m 58 (l.drop (k + 2))) true with
       | none => rfl
       | some h =>
         simp only [zml, List.length_append, List.take_left', List.drop_left', Nat.sub_sub]
theorem zmt (l : List UInt8) (G : List Nat) (gap : Option Nat) (hl : ¬ (l = [] /\ gap = some G.length)) (hp : zpr l = none) (hh : ∀ P, noB 58 P -> (l = P \/ ∃ R, l = P ++ 58 :: R) -> zm4 P = none) : sp6 l G gap = none := by
 obtain ⟨P, hP, hc⟩ := zmf l
 have hx := hh P hP hc
 have hg : zm5 (z2m 58 l) true = none := by
  rcases hc with rfl | ⟨R, rfl⟩
  ·rw [z2u 58 _ hP]
   exact zmj _ _ _ hx (fun _ _ => hp)
  ·rw [z2t 58 P R hP]
   exact zmj _ _ _ hx (fun _ e => absurd e (zmr R))
 cases gap with
 | some m =>
   rw [zmm]; unfold spB
   rw [if_neg (fun e => hl ⟨e.1, by rw [e.2]⟩), hg]
 | none =>
   rw [zmn]; unfold spA
   cases hd : zm7 l 0 with
   | none => simp only [hg]
   | some j =>
     have hg2 : zm5 (z2m 58 (l.take j)) false = none := by
      rcases hc with rfl | ⟨R, rfl⟩
      ·rw [znn _ 0 hP] at hd; cases hd
      ·have hj := zmh P R hP j hd
       by_cases he : j = P.length
       ·rw [he, List.take_left', z2u 58 _ hP]
        ·exact zmj _ _ _ hx (fun e => by cases e)
        ·rfl
       ·obtain ⟨q, rfl⟩ : ∃ q, j = P.length + (q + 1) := ⟨j - P.length - 1, by omega⟩
        rw [List.take_length_add_append, List.take_succ_cons, z2t 58 P _ hP]
        exact zmj _ _ _ hx (fun e => by cases e)
     simp only [hg2]
theorem zmu (l : List UInt8) (G : List Nat) (gap : Option Nat) (hl : ¬ (l = [] /\ gap = some G.length)) (h8 : 8 <= G.length) : sp6 l G gap = none := by
 have hb : ∀ (t : List UInt8) (H : List Nat) (m : Nat), 8 <= H.length -> ¬ (t = [] /\ H.length = m) -> spB t H m = none := by
  intro t H m hH ht
  unfold spB
  rw [if_neg ht]
  cases hg : zm5 (z2m 58 t) true with
  | none => rfl
  | some g =>
    have := zmi _ _ _ (zmr t) hg
    exact zmq _ _ (by simp; omega)
 cases gap with
 | some m => exact hb l G m h8 (fun e => hl ⟨e.1, by rw [e.2]⟩)
 | none =>
   rw [zmn]; unfold spA
   cases hd : zm7 l 0 with
   | none =>
     cases hg : zm5 (z2m 58 l) true with
     | none => simp only []
     | some g =>
       have := zmi _ _ _ (zmr l) hg
       simp only []
       exact zmq _ _ (by simp; omega)
   | some k =>
     cases hg : zm5 (z2m 58 (l.take k)) false with
     | none => simp only [hg]
     | some g =>
       have h1 := zmi _ _ _ (zmr (l.take k)) hg
       simp only [hg]
       unfold spB
       by_cases hr : l.drop (k + 2) = []
       ·rw [if_pos ⟨hr, rfl⟩]
        exact zmq _ _ (by simp; omega)
       ·rw [if_neg (fun e => hr e.1)]
        cases zm5 (z2m 58 (l.drop (k + 2))) true with
        | none => rfl
        | some q => exact zmq _ _ (by simp; omega)
section
variable {l : List UInt8} {G : List Nat} {gap : Option Nat} {k : Nat}
theorem zmv (h : zl6 4 l = k) (h0 : 0 < k) : zm4 (l.take k) = some (zpi 16 0 (l.take k)) := by
 have h1 := zl7 4 l
 have h2 := zma 4 l
 rw [h] at h1 h2
 unfold zm4
 rw [if_pos ⟨by rw [List.length_take]; omega, h2⟩]
theorem zmw (h : zl6 4 l = k) : noB 58 (l.take k) := by
 have h2 := zma 4 l
 rw [h] at h2
 exact zmd _ h2
theorem zmx {u : Nat} (h : zpr l = some u) : 0 < zl6 4 l /\ ∃ r, l.drop (zl6 4 l) = 46 :: r := by
 obtain ⟨hu, rfl⟩ := zqg h
 have hd := zp1 (u / 16777216)
 have hlen : (Lib.decDigits (u / 16777216)).length <= 3 := by
  have hlt : u / 16777216 < 256 := by omega
  generalize u / 16777216 = q at hlt
  revert q
  decide +kernel
 have hall : (Lib.decDigits (u / 16777216)).all (fun c => decide (zph c < 16)) = true := by
  rw [List.all_eq_true] at hd ⊢
  intro c hc
  have := of_decide_eq_true (hd c hc)
  exact jT (by omega)
 have hpos : 0 < (Lib.decDigits (u / 16777216)).length := by
  have hlt : u / 16777216 < 256 := by omega
  generalize u / 16777216 = q at hlt
  revert q
  decide +kernel
 unfold zps
 rw [z2w _ _ _ (by simp)]
 rw [zme 4 _ _ hall (by omega) (.inr ⟨46, _, rfl, zmc⟩)]
 exact ⟨hpos, _, List.drop_left' rfl⟩
theorem zmy (h : zl6 4 l = k) (hb : k = 0 \/ ∃ c r, l.drop k = c :: r /\ c ≠ 58) (P : List UInt8) (hP : noB 58 P) (hc : l = P \/ ∃ R, l = P ++ 58 :: R) : zm4 P = none := by
 by_cases hall : (1 <= P.length /\ P.length <= 4) /\ P.all (fun c => decide (zph c < 16)) = true
 ·exfalso
  have hk : k = P.length := by
   rw [<- h]
   rcases hc with rfl | ⟨R, rfl⟩
   ·have := zme 4 l [] hall.2 hall.1.2 (.inl rfl)
    rwa [List.append_nil] at this
   ·exact zme 4 P _ hall.2 hall.1.2 (.inr ⟨58, R, rfl, zmb⟩)
  rcases hb with h0 | ⟨c, r, hd, hne⟩
  ·have := hall.1.1; omega
  ·rcases hc with rfl | ⟨R, rfl⟩
   ·rw [hk, List.drop_length] at hd; cases hd
   ·rw [hk, List.drop_left' rfl] at hd
    injection hd with hd
    exact hne hd.symm
 ·unfold zm4
  rw [if_neg hall]
theorem zmz (hl : ¬ (l = [] /\ gap = some G.length)) (h : zl6 4 l = k) (hb : k = 0 \/ ∃ c r, l.drop k = c :: r /\ c ≠ 58 /\ c ≠ 46) : sp6 l G gap = none := by
 refine zmt l G gap hl ?_ (zmy h ?_)
 ·cases hq : zpr l with
  | none => rfl
  | some u =>
    exfalso
    obtain ⟨h0, r, hr⟩ := zmx hq
    rw [h] at h0 hr
    rcases hb with e | ⟨c, t, e, _, h2⟩
    ·omega
    ·rw [hr] at e; injection e with e; exact h2 e.symm
 ·rcases hb with e | ⟨c, t, e, h2, _⟩
  ·exact .inl e
  ·exact .inr ⟨c, t, e, h2⟩
theorem zm0 (h : zl6 4 l = k) (h0 : 0 < k) (hr : l.drop k = []) : sp6 l G gap = zml (G ++ [zpi 16 0 (l.take k)]) gap := by
 have hx := zmv h h0
 have hn := zmw h
 have hk : l.take k = l := by
  have := List.take_append_drop k l
  rw [hr, List.append_nil] at this
  exact this
 rw [hk] at hx hn ⊢
 have hl : l ≠ [] := by
  intro e; subst e; simp [zl6] at h; omega
 have hg : zm5 (z2m 58 l) true = some [zpi 16 0 l] := by
  rw [z2u 58 l hn, zm5, if_pos rfl, zny hx, hx]
 cases gap with
 | some m =>
   rw [zmm]; unfold spB
   rw [if_neg (fun e => hl e.1), hg]
 | none =>
   rw [zmn]; unfold spA
   rw [znn l 0 hn]
   simp only [hg]
theorem zm1 {r : List UInt8} (h : zl6 4 l = k) (hr : l.drop k = 46 :: r) : sp6 l G gap = match zpr l with
 | none => none
 | some u => zml (G ++ [u / 65536, u % 65536]) gap := by
 have hl : l ≠ [] := by intro e; subst e; simp at hr
 cases hq : zpr l with
 | none => exact zmt l G gap (fun e => hl e.1) hq (zmy h (.inr ⟨46, r, hr, by decide⟩))
 | some u =>
   have hn : noB 58 l := by
    obtain ⟨hu, rfl⟩ := zqg hq
    unfold zps
    have hd : ∀ q, noB 58 (Lib.decDigits q) := fun q => zmd _ (by
     have := zp1 q
     rw [List.all_eq_true] at this ⊢
     intro c hc
     have := of_decide_eq_true (this c hc)
     exact jT (by omega))
    intro b hb
    simp only [z2v, List.mem_append, List.mem_cons] at hb
    have h1 := hd (u / 16777216) b
    have h2 := hd (u / 65536 % 256) b
    have h3 := hd (u / 256 % 256) b
    have h4 := hd (u % 256) b
    rcases hb with hb | rfl | hb | rfl | hb | rfl | hb
    ·exact h1 hb
    ·decide
    ·exact h2 hb
    ·decide
    ·exact h3 hb
    ·decide
    ·exact h4 hb
   have hg : zm5 (z2m 58 l) true = some [u / 65536, u % 65536] := by
    rw [z2u 58 l hn, zm5, if_pos rfl, hq]
   cases gap with
   | some m =>
     rw [zmm]; unfold spB
     rw [if_neg (fun e => hl e.1), hg]
   | none =>
     rw [zmn]; unfold spA
     rw [znn l 0 hn]
     simp only [hg]
theorem zm2 {r : List UInt8} (h : zl6 4 l = k) (h0 : 0 < k) (hr : l.drop k = 58 :: 58 :: r) : sp6 l G none = sp6 r (G ++ [zpi 16 0 (l.take k)]) (some (G.length + 1)) := by
 have hx := zmv h h0
 have hn := zmw h
 have hlen : (l.take k).length = k := by have := (zl7 4 l).2; rw [h] at this; simp; omega
 have hd : zm7 l 0 = some k := by
  have := znl (l.take k) r 0 (znn _ 0 hn) (fun e => hn 58 (List.mem_of_getLast? e) rfl)
  rw [<- hr, List.take_append_drop, hlen, Nat.zero_add] at this
  exact this
 rw [zmn]; unfold spA
 rw [hd]
 simp only
 rw [z2u 58 _ hn, show zm5 [l.take k] false = some [zpi 16 0 (l.take k)] by rw [zm5, if_neg (by decide), hx]]
 simp only
 rw [show l.drop (k + 2) = r by rw [<- List.drop_drop, hr]; rfl, zmm, List.length_append]
 rfl
theorem zm3 {r : List UInt8} (h : zl6 4 l = k) (h0 : 0 < k) (hr : l.drop k = 58 :: r) (hg : gap = none -> r.head? ≠ some 58) (hm : ∀ m, gap = some m -> m <= G.length) : sp6 l G gap = sp6 r (G ++ [zpi 16 0 (l.take k)]) gap := by
 have hx := zmv h h0
 have hn := zmw h
 have hlen : (l.take k).length = k := by have := (zl7 4 l).2; rw [h] at this; simp; omega
 have hl : l ≠ [] := by intro e; subst e; simp at hr
 have hsp : l = l.take k ++ 58 :: r := by rw [<- hr, List.take_append_drop]
 have hs : z2m 58 l = l.take k :: z2m 58 r := by
  conv => lhs; rw [hsp]
  exact z2t 58 _ r hn
 have hgo : ∀ (t : List UInt8) (last : Bool), zm5 (l.take k :: z2m 58 t) last = (zm5 (z2m 58 t) last).map (zpi 16 0 (l.take k) :: ·) := fun t last => zmk _ _ _ _ hx (zmr t)
 generalize zpi 16 0 (l.take k) = v at hgo
 cases gap with
 | some m =>
   have hmG := hm m rfl
   rw [zmm, zmm]; unfold spB
   rw [if_neg (fun e => hl e.1), if_neg (fun e => by have := e.2; simp at this; omega), hs, hgo r true]
   cases zm5 (z2m 58 r) true with
   | none => rfl
   | some g => simp
 | none =>
   have hd : zm7 l 0 = (zm7 r 0).map (· + (k + 1)) := by
    conv => lhs; rw [hsp]
    rw [zmg _ r 0 hn (hg rfl), hlen, Nat.zero_add, znk]
   rw [zmn, zmn]; unfold spA
   rw [hd]
   cases hq : zm7 r 0 with
   | none =>
     simp only [Option.map_none]
     rw [hs, hgo r true]
     cases zm5 (z2m 58 r) true with
     | none => rfl
     | some g => simp
   | some j =>
     simp only [Option.map_some]
     have ht : l.take (j + (k + 1)) = l.take k ++ 58 :: r.take j := by
      conv => lhs; rw [hsp]
      rw [show j + (k + 1) = (l.take k).length + (j + 1) by omega, List.take_length_add_append, List.take_succ_cons]
     have hdr : l.drop (j + (k + 1) + 2) = r.drop (j + 2) := by
      conv => lhs; rw [hsp]
      rw [show j + (k + 1) + 2 = (l.take k).length + (j + 2 + 1) by omega, List.drop_length_add_append, List.drop_succ_cons]
     rw [ht, hdr, z2t 58 _ _ hn, hgo (r.take j) false]
     cases zm5 (z2m 58 (r.take j)) false with
     | none => rfl
     | some g => simp
end
end

section
open Go.RowKit
set_option maxHeartbeats 16000000
theorem zkj (c : UInt8) (w : World) :
 Calls Tryz.prog 200 #[.int .u8 (c.toNat : Int)] w fun e w' => e = .returned (.int .u16 (pd c : Nat)) /\ w = w' := by
 have hlt := c.toNat_lt
 by_cases h1 : 48 <= c.toNat /\ c.toNat <= 57
 ·have HE : Hid (((pd c : Nat) : Int) = (c.toNat : Int) - 48) := by show _ = _; unfold pd zph; rw [if_pos h1]; omega
  have d1 : decide ((48 : Int) <= (c.toNat : Int)) = true := jT (by omega)
  have d2 : decide ((c.toNat : Int) <= 57) = true := jT (by omega)
  go_enter Tryz.func200, Tryz.ntmps200
  go_wp2
  go_ret
  exact ⟨zby HE.out.symm, rfl⟩
 ·by_cases h2 : 97 <= c.toNat /\ c.toNat <= 102
  ·have HE : Hid (((pd c : Nat) : Int) = 10 + ((c.toNat : Int) - 97)) := by show _ = _; unfold pd zph; rw [if_neg h1, if_pos h2]; omega
   have d2 : decide ((c.toNat : Int) <= 57) = false := jF (by omega)
   have d3 : decide ((97 : Int) <= (c.toNat : Int)) = true := jT (by omega)
   have d4 : decide ((c.toNat : Int) <= 102) = true := jT (by omega)
   have d1 : decide ((48 : Int) <= (c.toNat : Int)) = true := jT (by omega)
   go_enter Tryz.func200, Tryz.ntmps200
   go_wp2
   go_ret
   exact ⟨zby HE.out.symm, rfl⟩
  ·by_cases h3 : 65 <= c.toNat /\ c.toNat <= 70
   ·have HE : Hid (((pd c : Nat) : Int) = 10 + ((c.toNat : Int) - 65)) := by show _ = _; unfold pd zph; rw [if_neg h1, if_neg h2, if_pos h3]; omega
    have d1 : decide ((48 : Int) <= (c.toNat : Int)) = true := jT (by omega)
    have d2 : decide ((c.toNat : Int) <= 57) = false := jF (by omega)
    have d3 : decide ((97 : Int) <= (c.toNat : Int)) = false := jF (by omega)
    have d5 : decide ((65 : Int) <= (c.toNat : Int)) = true := jT (by omega)
    have d6 : decide ((c.toNat : Int) <= 70) = true := jT (by omega)
    go_enter Tryz.func200, Tryz.ntmps200
    go_wp2
    go_ret
    exact ⟨zby HE.out.symm, rfl⟩
   ·have HE : Hid (((pd c : Nat) : Int) = 16) := by show _ = _; unfold pd zph; rw [if_neg h1, if_neg h2, if_neg h3]; rfl
    have c1 : (decide ((48 : Int) <= (c.toNat : Int)) && decide ((c.toNat : Int) <= 57)) = false := by rw [Bool.and_eq_false_iff, decide_eq_false_iff_not, decide_eq_false_iff_not]; omega
    have c2 : (decide ((97 : Int) <= (c.toNat : Int)) && decide ((c.toNat : Int) <= 102)) = false := by rw [Bool.and_eq_false_iff, decide_eq_false_iff_not, decide_eq_false_iff_not]; omega
    have c3 : (decide ((65 : Int) <= (c.toNat : Int)) && decide ((c.toNat : Int) <= 70)) = false := by rw [Bool.and_eq_false_iff, decide_eq_false_iff_not, decide_eq_false_iff_not]; omega
    go_enter Tryz.func200, Tryz.ntmps200
    go_wp2
    all_goals (go_ret; exact ⟨zby HE.out.symm, rfl⟩)
theorem zkk (a b : Nat) (hb : b < 16) (ha : a * 16 + b < 65536) : bits .or .u16 (((a : Nat) : Int) * 16) (b : Int) = ((a * 16 + b : Nat) : Int) := by
 rw [show ((a : Nat) : Int) * 16 = ((a * 16 : Nat) : Int) by omega, u16_or_nat _ _ (by omega) (by omega), nat_join 4 (a * 16) b (by omega) (by omega)]
theorem zkl (l : List UInt8) (k : Nat) (h : (l.take k).all (fun c => decide (zph c < 16)) = true) : zpi 16 0 (l.take k) < 16 ^ k := by
 have h1 := zjk (l.take k) 0 0 (by decide) h
 have h2 : (16 : Nat) ^ (0 + (l.take k).length) <= 16 ^ k := Nat.pow_le_pow_right (by decide) (by rw [List.length_take]; omega)
 omega
theorem zkm {p : UInt8 -> Bool} {l : List UInt8} {k n : Nat} (h : (l.take n).all p = true) (hk : k <= n) : (l.take k).all p = true := by
 rw [List.all_eq_true] at h ⊢
 intro c hc
 refine h c ?_
 rw [show l.take k = (l.take n).take k by rw [List.take_take, Nat.min_eq_left hk]] at hc
 exact List.mem_of_mem_take hc
theorem zkn (s : ByteArray) (hs : s.size <= 1000000000) (w : World) :
 Calls Tryz.prog 174 #[.string s] w fun e w' => e = .returned (.tuple #[.int .u16 (zpi 16 0 ((ls s).take (zl6 4 (ls s))) : Nat), .int .i64 (zl6 4 (ls s) : Nat)]) /\ w = w' := by
 have hle := zl7 4 (ls s)
 have hall := zma 4 (ls s)
 have hst := zl9 4 (ls s)
 have hlt := zl8 4 (ls s)
 rw [zb4] at hle hst
 generalize zl6 4 (ls s) = n at *
 obtain ⟨hn4, hns⟩ := hle
 have HALL := jL hall
 have HST := jL hst
 have HLT := jL hlt
 clear hall hst hlt
 obtain ⟨M, hM⟩ : ∃ M : Int, min (s.size : Int) 4 = M := ⟨_, rfl⟩
 have hmin : ∀ (W : World) (ts : Array TypeId) (t : TypeId), (Builtin.min_ ts t #[.int .i64 (s.size : Int), .int .i64 4]).run Tryz.prog W = .ok (.int .i64 M) W := fun W ts t => zt6 W ts t _ _ _ hM
 have HM := jL hM
 clear hM
 go_enter Tryz.func174, Tryz.ntmps174
 go_wp2
 go_loop [2, 3] (fun g i => ∃ (k : Nat) (z : Nat), k <= n /\ i = .int .i64 k /\ g = .int .u16 z /\ Hid (z = zpi 16 0 ((ls s).take k))) (fun _ i => 4 - (intOf i).toNat)
 case atStart => exact ⟨0, 0, Nat.zero_le _, rfl, rfl, jL rfl⟩
 case round =>
  obtain ⟨k, z, hk, rfl, rfl, HZ⟩ := hrel
  have hz16 : z < 65536 := by
   have h1 := zkl (ls s) k (zkm HALL.out hk)
   have h2 : (16 : Nat) ^ k <= 16 ^ 4 := Nat.pow_le_pow_right (by decide) (by omega)
   have e : (16 : Nat) ^ 4 = 65536 := by decide
   rw [HZ.out]; omega
  by_cases hb : (k : Int) < M
  ·have hd : decide ((k : Int) < M) = true := jT hb
   have hks : k < s.size := by have := HM.out; omega
   have hk4 : k < 4 := by have := HM.out; omega
   have c1 := fun W => zkj s[k] W
   by_cases hx : zph s[k] < 16
   ·have hpd : pd s[k] = zph s[k] := by unfold pd; omega
    rw [hpd] at c1
    have HZ2 : Hid (z * 16 + zph s[k] = zpi 16 0 ((ls s).take (k + 1))) := by
     show _ = _
     rw [zji s k hks, HZ.out]
    have hkn : k + 1 <= n := by
     by_cases e : k = n
     ·exfalso
      rcases HST.out with h | h | h
      ·omega
      ·omega
      ·rw [<- e, List.getD_eq_getElem?_getD, zb7 s k hks, Option.getD_some] at h
       exact h hx
     ·omega
    have hz2 : z * 16 + zph s[k] < 65536 := by
     have h1 := zkl (ls s) (k + 1) (zkm HALL.out hkn)
     have h2 : (16 : Nat) ^ (k + 1) <= 16 ^ 4 := Nat.pow_le_pow_right (by decide) (by omega)
     have e : (16 : Nat) ^ 4 = 65536 := by decide
     rw [HZ2.out]; omega
    obtain ⟨d, hdd⟩ : ∃ d, d = zph s[k] := ⟨_, rfl⟩
    rw [<- hdd] at c1 hx HZ2 hz2
    have hor := zkk z d hx hz2
    have hwr : IntKind.u16.wrap ((z : Int) * 16) = (z : Int) * 16 := by rw [IntKind.wrap_u16]; omega
    have hge : decide ((d : Int) >= 16) = false := jF (by omega)
    have hge2 : decide ((16 : Int) <= (d : Int)) = false := jF (by omega)
    clear hdd hpd
    go_wp2_with fail
    refine (c1 _).mono ?_
    rintro e w' ⟨rfl, rfl⟩
    go_wp2
    go_round
    case rel => exact ⟨k + 1, z * 16 + d, hkn, by go_num, by first | rfl | go_num, HZ2⟩
    case measure => simp [intOf]; omega
   ·have hpd : pd s[k] = 16 := by unfold pd; omega
    rw [hpd, show ((16 : Nat) : Int) = 16 from rfl] at c1
    have hkn : k = n := by
     by_cases e : k < n
     ·exfalso
      have := HLT.out k e
      rw [List.getD_eq_getElem?_getD, zb7 s k hks, Option.getD_some] at this
      exact hx this
     ·omega
    subst hkn
    clear hpd
    go_wp2_with fail
    refine (c1 _).mono ?_
    rintro e w' ⟨rfl, rfl⟩
    go_wp2
    go_ret2
    exact ⟨by rw [HZ.out]; rfl, rfl⟩
  ·have hd : decide ((k : Int) < M) = false := jF hb
   have hkn : k = n := by have := HM.out; omega
   subst hkn
   go_wp2
   go_ret2
   exact ⟨by rw [HZ.out]; rfl, rfl⟩
end

section
open Go.RowKit
set_option maxHeartbeats 16000000
theorem z13 {P : Program} (t e : TypeId) (n g l h : Nat) (hu : P.underlying t = some (.array n e)) (hs : (P.info? e).map (·.size) = some 1) (lo hi : Option Value)
 (hl : lo = some (.int .i64 (l : Int)) \/ (lo = none /\ l = 0)) (hh : hi = some (.int .i64 (h : Int)) \/ (hi = none /\ h = n)) (h1 : l <= h) (h2 : h <= n) (w : World) :
 (Instr.sliceAt t (.pointer (some ⟨g, 0, none⟩)) lo hi none).run P w = .ok (.slice (some (if n = l then ⟨g, 0, none⟩ else ⟨g, l, none⟩)) (h - l) (n - l)) w := by
 obtain ⟨q, hq, hq1⟩ : ∃ q, P.info? e = some q /\ q.size = 1 := by
  cases hq : P.info? e with
  | none => simp [hq] at hs
  | some q => exact ⟨q, rfl, by simpa [hq] using hs⟩
 have hadd : (⟨g, 0, none⟩ : Addr).add l = ⟨g, l, none⟩ := by unfold Addr.add; simp; omega
 have b1 : ∀ (y : Nat) (code : BoundsCode) (W : World), l <= y -> (Instr.sliceBound (.int .i64 (l : Int)) y code).run P W = .ok l W := fun y code W hy => by
  have := run_sliceBound (P := P) W .i64 (l : Int) y code (by omega) (by omega)
  simpa using this
 have b2 : ∀ (y : Nat) (code : BoundsCode) (W : World), h <= y -> (Instr.sliceBound (.int .i64 (h : Int)) y code).run P W = .ok h W := fun y code W hy => by
  have := run_sliceBound (P := P) W .i64 (h : Int) y code (by omega) (by omega)
  simpa using this
 have hsz : ∀ W, (sizeOf e).run P W = .ok 1 W := fun W => by simp [sizeOf, typeInfo, hq, hq1]
 rcases hl with rfl | ⟨rfl, rfl⟩ <;> rcases hh with rfl | ⟨rfl, rfl⟩
 ·simp [Instr.sliceAt, Instr.sureAddr, run_underlying hu, Instr.sliceBounds, b1 h _ _ h1, b2 n _ _ h2, hsz, hadd, Result.andThen]
 ·simp [Instr.sliceAt, Instr.sureAddr, run_underlying hu, Instr.sliceBounds, b1 _ _ _ h1, hsz, hadd, Result.andThen]
 ·simp [Instr.sliceAt, Instr.sureAddr, run_underlying hu, Instr.sliceBounds, b2 n _ _ h2, hsz, Result.andThen]
  exact fun _ => hadd
 ·simp [Instr.sliceAt, Instr.sureAddr, run_underlying hu, Instr.sliceBounds, hsz, Result.andThen]
  exact fun _ => hadd
end

end Go.Proofs.YtekaljeicfjkjaaGreatDoor
