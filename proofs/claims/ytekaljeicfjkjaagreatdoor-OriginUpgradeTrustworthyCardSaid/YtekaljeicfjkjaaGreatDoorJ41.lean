/-
Contract of strconv.AppendUint to the base 16 for numbers of 16 bits.
Contracts of strconv.AppendUint to the base 16, and of joined of package ipv6.
The longest run of groups 0, met by trying (plain); contract of longestZeros of package ipv6.
Contract of Format of package ipv6.
-/
import Derived.Test.YtekaljeicfjkjaaGreatDoorJ03
import Derived.Test.YtekaljeicfjkjaaGreatDoorJ08
import Derived.Test.YtekaljeicfjkjaaGreatDoorJ09
import Derived.Test.YtekaljeicfjkjaaGreatDoorJ07
import Derived.Test.YtekaljeicfjkjaaGreatDoorJ39
import Derived.Test.YtekaljeicfjkjaaGreatDoorJ04
import Derived.Laws.CopyRow
import Derived.Deep.RegionHeld3
namespace Go.Proofs.YtekaljeicfjkjaaGreatDoor
section
open Go.RowKit
set_option maxHeartbeats 16000000
theorem zko : Tryz.prog.underlying 142 = some (.array 65 5) := by kernel_rfl
theorem zkp : (Tryz.prog.info? 142).map (fun i => (i.zero, i.size)) = some (some (.agg (zcg 65)), 65) := by kernel_rfl
theorem zkq : (Tryz.prog.info? 5).map (·.size) = some 1 := by kernel_rfl
theorem zkr : ∀ w, (zeroValue 142).run Tryz.prog w = .ok (.agg (zcg 65)) w := by
 intro w
 cases hi : Tryz.prog.info? 142 with
 | none => have := zkp; rw [hi] at this; cases this
 | some i =>
   have := zkp
   rw [hi] at this
   simp only [Option.map_some, Option.some.injEq, Prod.mk.injEq] at this
   simp [zeroValue, typeInfo, hi, this.1]
def zks (L : List UInt8) : Array Value := (List.replicate (65 - L.length) (Value.int .u8 0) ++ L.map bv).toArray
theorem zkt : zks [] = zcg 65 := by
 unfold zks zcg
 rw [List.map_nil, List.append_nil, List.length_nil, List.toArray_replicate]
theorem zku (L : List UInt8) (h : L.length <= 65) : (zks L).size = 65 := by simp [zks]; omega
theorem zkv (L : List UInt8) (j : Nat) (h : j + 1 + L.length = 65) (c : UInt8) : (zks L).setIfInBounds j (bv c) = zks (c :: L) := by
 simp only [zks, List.setIfInBounds_toArray]
 congr 1
 rw [List.set_append_left _ _ (by simp; omega)]
 have e : 65 - L.length = j + 1 := by omega
 have e2 : 65 - (c :: L).length = j := by simp; omega
 rw [e, e2, List.replicate_succ', List.set_append_right _ _ (by simp)]
 simp
theorem zkw (L : List UInt8) (j k : Nat) (h : j + L.length = 65) (hk : k < L.length) : (zks L)[j + k]? = some (bv (L.getD k 0)) := by
 simp only [zks, List.getElem?_toArray]
 rw [List.getElem?_append_right (by simp; omega)]
 simp only [List.length_replicate, List.getElem?_map]
 rw [show j + k - (65 - L.length) = k by omega, List.getElem?_eq_getElem hk, List.getD_eq_getElem?_getD, List.getElem?_eq_getElem hk]
 rfl
theorem zkx {w : World} {g : Nat} {L : List UInt8} (h : Row w g 142 (zks L)) (j : Nat) (hj : j + L.length = 65) : Has w w.heap.size (some ⟨g, j, none⟩) L.length (L.map bv) := by
 refine ⟨by simp, fun _ => ⟨g, j, rfl, h.lt, fun k hk => ?_⟩⟩
 have hk' : k < L.length := by simpa using hk
 rw [cell_of_row w g (j + k) _ _ (0, 0) h, zkw L j k hj hk', List.getElem_map, List.getD_eq_getElem?_getD, List.getElem?_eq_getElem hk']
 rfl
theorem zky : ∀ r : Fin 16, ((⟨#[48, 49, 50, 51, 52, 53, 54, 55, 56, 57, 97, 98, 99, 100, 101, 102, 103, 104, 105, 106, 107, 108, 109, 110, 111, 112, 113, 114, 115, 116, 117, 118, 119, 120, 121, 122]⟩ : ByteArray)[r.val]?) = some (zda r.val) := by decide +kernel
theorem zkz (w : World) {ops : Array Oper} {rest : List Oper} {o : Oper} {a : Act} {Q : Exit -> Act -> World -> Prop} (hg : o.guard = none) (x y : Operand) (hop : o.op = .index 9 x y)
 (hx : a.eval x = .string ⟨#[48, 49, 50, 51, 52, 53, 54, 55, 56, 57, 97, 98, 99, 100, 101, 102, 103, 104, 105, 106, 107, 108, 109, 110, 111, 112, 113, 114, 115, 116, 117, 118, 119, 120, 121, 122]⟩) (z : Int) (hy : a.eval y = .int .u64 z)
 (r : Nat) (hr : r < 16) (hz : z = (r : Int)) (h : wpList Tryz.prog ops Q rest (a.put o.dst (bv (zda r))) w) : wpList Tryz.prog ops Q (o :: rest) a w := by
 refine wpList_plain hg fun K hK => ?_
 subst hz
 have e := zky ⟨r, hr⟩
 simp only at e
 have e2 : Value.int .u8 ((zda r).toNat : Int) = bv (zda r) := rfl
 unfold Oper.wp
 simp [execOp, hop, hx, hy, Instr.index, run_underlying z3e, asIntOf, e, e2, Result.andThen]
 exact hK _ _ h
theorem zk0 (w : World) : Calls Tryz.prog 167 #[.int .i64 16] w fun e w' => e = .returned (.bool true) /\ w = w' := by
 have h1 : bits .and .i64 16 15 = 0 := by decide +kernel
 go_enter Tryz.func167, Tryz.ntmps167
 go_wp2
 go_ret
 exact ⟨rfl, rfl⟩
theorem zk1 (w : World) (hp : zwg w) : Calls Tryz.prog 199 #[.int .u64 16] w fun e w' => e = .returned (.int .i64 4) /\ w = w' := by
 have key : IntKind.u64.wrap (bits .and .u64 16 (IntKind.u64.wrap (-16)) * 285870213051353865) / 288230376151711744 = 15 := by decide +kernel
 have h2 := hp.2
 go_enter Tryz.func199, Tryz.ntmps199
 go_wp2_with (simp only [key])
 go_ret
 exact ⟨rfl, rfl⟩
theorem zk2 (w : World) (hp : zwg w) : Calls Tryz.prog 168 #[.int .u64 16] w fun e w' => e = .returned (.int .i64 4) /\ w = w' := by
 have c1 := zk1 w hp
 go_enter Tryz.func168, Tryz.ntmps168
 go_wp2_with fail
 refine c1.mono ?_
 rintro e w' ⟨rfl, rfl⟩
 go_wp2
 go_ret
 exact ⟨rfl, rfl⟩
set_option maxRecDepth 20000 in
theorem zk3 (B n u : Nat) (hu : u < 65536) (sv : Value) (l : List UInt8) (w : World) (hp : zwg w) (hown : w.ownsRow B 5 1 sv n (l.map bv)) (hB : B <= w.heap.size) (hn : n <= 1000000000) :
 Calls Tryz.prog 131 #[sv, .int .u64 u, .int .i64 16, .bool false, .bool true] w fun e w' => ∃ v', e = .returned (.tuple #[v', .string ⟨#[]⟩]) /\ w'.ownsRow B 5 1 v' (n + (zna u).length) ((l ++ zna u).map bv) /\ Below B w w' := by
 obtain ⟨i5, hi5, hz0, hz1, hz2⟩ := info_parts z3f
 obtain ⟨hl1, hl4⟩ := zn0 u hu
 obtain ⟨T, hT⟩ : ∃ T, T = zna u := ⟨_, rfl⟩
 rw [<- hT] at hl1 hl4 ⊢
 have HT : Hid (zde 16 u ++ [] = T) := by show _ = _; rw [List.append_nil, hT]; rfl
 clear hT
 go_enter Tryz.func131, Tryz.ntmps131
 go_wp2_with (refine zay _ rfl 12 rfl _ rfl _ zkr ?_; intro W1 g hg hl hR hG)
 have hb1 : Below B w W1 := zav (Below.refl B w) hG hB
 have hb1' : Below w.heap.size w W1 := zav (Below.refl w.heap.size w) hG jH
 have hp1 := zwi hp hb1'
 have hown1 := zaq hown hb1'
 have hBg : B <= g := by omega
 have hR1 : Row W1 g 142 (zks []) := by rw [zkt]; exact hR
 have HBW := jL hb1.size
 have hb1w : Below w.heap.size w W1 := hb1'
 clear hR hG hb1' hown1 hb1
 refine (zk0 _).mono ?_
 rintro e w' ⟨rfl, rfl⟩
 go_wp2_with fail
 refine (zk2 _ hp1).mono ?_
 rintro e w' ⟨rfl, rfl⟩
 go_wp2
 go_loopw [1, 13] (fun m i wr => ∃ (M k : Nat) (L : List UInt8), m = .int .u64 M /\ i = .int .i64 ((k : Int) + 1) /\ Hid (k + 1 + L.length = 65) /\ Hid (M < 65536) /\ Hid (zde 16 M ++ L = T) /\ Row wr g 142 (zks L) /\ Below w.heap.size w wr) (fun m _ _ => (intOf m).toNat)
 case atStart => exact ⟨u, 64, [], rfl, rfl, jL rfl, jL hu, HT, hR1, hb1w⟩
 case round =>
  obtain ⟨M, k, L, rfl, rfl, HK, HM, HD, hrow, hb⟩ := hrel
  have hks : k < (zks L).size := by have := HK.out; rw [zku L (by omega)]; omega
  have hk65 : k < 65 := by have := HK.out; omega
  have hL4 : L.length <= 4 := by
   have := congrArg List.length HD.out
   rw [List.length_append] at this
   omega
  by_cases hM : M < 16
  ·have hd : decide ((M : Int) >= 16) = false := jF (by omega)
   have HT2 : Hid (zda M :: L = T) := by show _ = _; rw [<- HD.out, zdg hM]; rfl
   have hsl := fun W => z13 (P := Tryz.prog) 142 5 65 g k 65 zko zkq (some (.int .i64 (k : Int))) none (.inl rfl) (.inr ⟨rfl, rfl⟩) (by omega) jH W
   rw [if_neg (by omega), show 65 - k = T.length by rw [<- HT2.out]; have := HK.out; simp only [List.length_cons]; omega] at hsl
   go_wp2_with (first
    | (refine zkz _ rfl _ _ rfl (by exact rfl) _ (by exact rfl) M hM rfl ?_)
    | (refine za1 _ rfl rfl _ _ _ rfl g k (by exact rfl) (bv (zda M)) (by exact rfl) (by exact rfl) _ (zks L) hrow hks zkq ?_; intro w4 hr4 hg4; rw [zkv L k HK.out] at hr4; have hb4 := zau hb hg4 jH hg; have hown4 := zaq hown hb4; have hh := zkx hr4 k (by have := HK.out; simp only [List.length_cons]; omega); rw [HT2.out] at hh)
    | (at_builtin; refine zao (w0 := w) _ rfl _ _ 72 rfl B 5 i5 (.int .u8 0) 1 z3c hi5 hz0 hz1 hz2 rfl sv n _ (by exact rfl) hown4 _ _ _ _ _ (by exact rfl) (fun e => by cases e) hh (zas T) (by unfold maxLen; omega) (by omega) (hb4.mono hB) hB ?_; intro v5 w5 hown5 hb5 hg5))
   rw [<- List.map_append] at hown5
   go_ret2
   exact ⟨v5, rfl, hown5, hb5⟩
  ·have hd : decide ((M : Int) >= 16) = true := jT (by omega)
   obtain ⟨r, hr⟩ : ∃ r, r = M % 16 := ⟨_, rfl⟩
   obtain ⟨q, hq⟩ : ∃ q, q = M / 16 := ⟨_, rfl⟩
   have hr16 : r < 16 := by omega
   have hand : bits .and .u64 (M : Int) 15 = (r : Int) := by
    have := u64_and_nat M 15 (by have := HM.out; omega) (by omega)
    rw [show ((15 : Nat) : Int) = 15 from rfl] at this
    rw [this, hr, show 15 = 2 ^ 4 - 1 from rfl, Nat.and_two_pow_sub_one_eq_mod]
   have hsh : (M : Int) / 16 = (q : Int) := by omega
   have HD2 : Hid (zde 16 q ++ (zda r :: L) = T) := by
    show _ = _
    rw [<- HD.out, zdh (by decide) (by have := HM.out; omega) hM, hr, hq, List.append_assoc]
    rfl
   have HQ : Hid (q < 65536) := by show _ < _; have := HM.out; omega
   have HQM : Hid (q < M) := by show _ < _; omega
   clear hr hq
   go_wp2_with (first
    | (refine zkz _ rfl _ _ rfl (by exact rfl) _ (by exact rfl) r hr16 (by first | exact rfl | exact hand) ?_)
    | (refine za1 _ rfl rfl _ _ _ rfl g k (by exact rfl) (bv (zda r)) (by exact rfl) (by exact rfl) _ (zks L) hrow hks zkq ?_; intro w4 hr4 hg4))
   rw [zkv L k HK.out] at hr4
   obtain ⟨k', rfl⟩ : ∃ k', k = k' + 1 := ⟨k - 1, by have := HK.out; omega⟩
   go_roundw
   case rel => exact ⟨q, k', zda r :: L, by first | rfl | go_num, by first | rfl | go_num, jL (by have := HK.out; simp only [List.length_cons]; omega), HQ, HD2, hr4, zau hb hg4 jH hg⟩
   case measure => simp [intOf]; exact HQM.out
end

section
open Go.RowKit
set_option maxHeartbeats 16000000
theorem zk4 (B n u : Nat) (hu : u < 65536) (sv : Value) (l : List UInt8) (w : World) (hp : zwg w) (hown : w.ownsRow B 5 1 sv n (l.map bv)) (hB : B <= w.heap.size) (hn : n <= 1000000000) :
 Calls Tryz.prog 127 #[sv, .int .u64 u, .int .i64 16] w fun e w' => ∃ v', e = .returned v' /\ w'.ownsRow B 5 1 v' (n + (zna u).length) ((l ++ zna u).map bv) /\ Below B w w' := by
 have c1 := zk3 B n u hu sv l w hp hown hB hn
 clear hown hp
 go_enter Tryz.func127, Tryz.ntmps127
 go_wp2_with fail
 refine c1.mono ?_
 rintro e w' ⟨v', rfl, h1, h2⟩
 go_wp2
 go_ret
 exact ⟨_, rfl, h1, h2⟩
theorem zk5 (B n u : Nat) (hu : u < 65536) (sv : Value) (l : List UInt8) (w : World) (hp : zwg w) (hown : w.ownsRow B 5 1 sv n (l.map bv)) (hB : B <= w.heap.size) (hn : n <= 1000000000) :
 Calls Tryz.prog 98 #[sv, .int .u64 u, .int .i64 16] w fun e w' => ∃ v', e = .returned v' /\ w'.ownsRow B 5 1 v' (n + (zna u).length) ((l ++ zna u).map bv) /\ Below B w w' := by
 have c1 := zk4 B n u hu sv l w hp hown hB hn
 clear hown hp
 go_enter Tryz.func98, Tryz.ntmps98
 go_wp2_with fail
 refine c1.mono ?_
 rintro e w' ⟨v', rfl, h1, h2⟩
 go_wp2
 go_ret
 exact ⟨_, rfl, h1, h2⟩
def jn (g : List Nat) (k : Nat) : List UInt8 := z2v 58 ((g.take k).map zna)
theorem zk6 (g : List Nat) (k : Nat) (h : k < g.length) : jn g (k + 1) = jn g k ++ ((if k = 0 then [] else [58]) ++ zna (g.getD k 0)) := by
 unfold jn
 rw [zn7 g k h, List.map_append, List.map_singleton, zn6]
 congr 2
 by_cases hk : k = 0
 ·subst hk; simp
 ·rw [if_neg hk, if_neg]
  simp only [List.map_eq_nil_iff]
  intro e
  have := congrArg List.length e
  rw [List.length_take] at this
  simp only [List.length_nil] at this
  omega
theorem zk7 (g : List Nat) (hg : G16 g) (k : Nat) (hk : k <= 8) : (jn g k).length <= 40 := by
 have := zn8 (g.take k) (hg.take k)
 rw [List.length_take] at this
 unfold jn
 omega
theorem zk8 (w : World) (B : Nat) : w.ownsRow B 5 1 (.slice none 0 0) 0 [] := ⟨rfl, .inl ⟨rfl, rfl⟩⟩
set_option maxRecDepth 20000 in
theorem zk9 (A : Option Addr) (n cap : Nat) (g : List Nat) (hg : G16 g) (hn8 : n <= 8) (w : World) (hp : zwg w) (hh : Has w w.heap.size A n (uv g)) :
 Calls Tryz.prog 100 #[.slice A n cap] w fun e w' => e = .returned (.string (bs (z2v 58 (g.map zna)))) /\ Below w.heap.size w w' := by
 obtain ⟨i5, hi5, hz0, hz1, hz2⟩ := info_parts z3f
 have hlen : g.length = n := by have := hh.1; rwa [zjv] at this
 have HF : Hid (jn g n = z2v 58 (g.map zna)) := by show _ = _; unfold jn; rw [<- hlen, List.take_length]
 have HG := jL hg
 have HL := jL hlen
 clear hg hlen
 go_enter Tryz.func100, Tryz.ntmps100
 go_wp2
 go_loopw [3, 8] (fun t i wr => ∃ k : Nat, k <= n /\ i = .int .i64 k /\ wr.ownsRow w.heap.size 5 1 t (jn g k).length ((jn g k).map bv) /\ Below w.heap.size w wr) (fun _ i _ => n - (intOf i).toNat)
 case atStart => exact ⟨0, Nat.zero_le _, rfl, zk8 w _, Below.refl _ _⟩
 case round =>
  obtain ⟨k, hk, rfl, hown, hb⟩ := hrel
  by_cases hlt : k < n
  ·obtain ⟨b, off, rfl, hc⟩ := zjy (hh.below hb) k hlt
   have hx : g.getD k 0 < 65536 := by
    refine HG.out _ ?_
    rw [List.getD_eq_getElem?_getD, List.getElem?_eq_getElem (by rw [HL.out]; exact hlt), Option.getD_some]
    exact List.getElem_mem _
   have hs := zk6 g k (by rw [HL.out]; exact hlt)
   have hjl := zk7 g HG.out k (by omega)
   generalize g.getD k 0 = x at *
   have hwr : IntKind.u64.wrap (x : Int) = (x : Int) := by rw [IntKind.wrap_u64]; omega
   by_cases h0 : k = 0
   ·have HN : Hid (jn g (k + 1) = jn g k ++ zna x) := by show _ = _; rw [hs, if_pos h0]; rfl
    have hd : decide ((0 : Int) < (k : Int)) = false := jF (by omega)
    have hdN : decide (0 < k) = false := jF (by omega)
    clear hs h0
    go_wp2_with fail
    refine (zk5 w.heap.size _ x hx _ _ _ (zwi hp hb) hown hb.size (by omega)).mono ?_
    rintro e w1 ⟨v1, rfl, hown1, hb1⟩
    replace hb1 := hb.trans hb1
    have hl : (jn g (k + 1)).length = (jn g k).length + (zna x).length := by rw [HN.out, List.length_append]
    rw [<- HN.out, <- hl] at hown1
    go_wp2
    go_roundw
    case rel => exact ⟨k + 1, by omega, by go_num, hown1, hb1⟩
    case measure => simp [intOf]; omega
   ·have HN : Hid (jn g (k + 1) = (jn g k ++ [58]) ++ zna x) := by show _ = _; rw [hs, if_neg h0, List.append_assoc]
    have hd : decide ((0 : Int) < (k : Int)) = true := jT (by omega)
    have hdN : decide (0 < k) = true := jT (by omega)
    clear hs h0
    go_wp2_with (at_builtin; refine zcq wr rfl _ _ 72 rfl w.heap.size 5 i5 (.int .u8 0) 1 z3c hi5 hz0 hz1 hz2 rfl _ (by exact rfl) _ _ _ (by exact rfl) hown (by exact rfl) (by unfold maxLen; omega) (by omega) hb jH ?_; intro v2 w2 hown2 hb2 hgr)
    rw [show (jn g k).map bv ++ [Value.int .u8 58] = (jn g k ++ [58]).map bv by rw [List.map_append]; rfl] at hown2
    go_wp2_with fail
    refine (zk5 w.heap.size _ x hx _ _ _ (zwi hp hb2) hown2 hb2.size (by omega)).mono ?_
    rintro e w1 ⟨v1, rfl, hown1, hb1⟩
    replace hb1 := hb2.trans hb1
    have hl : (jn g (k + 1)).length = (jn g k).length + 1 + (zna x).length := by rw [HN.out, List.length_append, List.length_append]; rfl
    rw [<- HN.out, <- hl] at hown1
    go_wp2
    go_roundw
    case rel => exact ⟨k + 1, by omega, by go_num, hown1, hb1⟩
    case measure => simp [intOf]; omega
  ·obtain rfl : k = n := by omega
   have hconv := z3h wr _ _ _ _ hown
   rw [HF.out] at hconv
   go_wp2
   go_ret
   exact ⟨rfl, hb⟩
end

section
open Go.RowKit
set_option maxHeartbeats 16000000
def clr (a : List Nat) (f n : Nat) : List Nat := a.take f ++ (zm8 n ++ a.drop (f + n))
theorem zla (a : List Nat) (f n : Nat) (h : f + n <= a.length) : (clr a f n).length = a.length := by
 unfold clr zm8
 simp
 omega
theorem zlb (a : List Nat) (f n : Nat) (h : f + n <= a.length) : clr a f n = a ↔ n <= znb (a.drop f) := by
 have hsp : a = a.take f ++ ((a.drop f).take n ++ (a.drop f).drop n) := by rw [List.take_append_drop, List.take_append_drop]
 have hlen : ((a.drop f).take n).length = n := by simp; omega
 have h1 : clr a f n = a ↔ (a.drop f).take n = zm8 n := by
  unfold clr
  rw [<- List.drop_drop]
  constructor
  ·intro e
   conv at e => rhs; rw [hsp]
   have := List.append_cancel_left e
   exact (List.append_inj this (by simp [zm8]; omega)).1.symm
  ·intro e
   conv => rhs; rw [hsp, e]
 rw [h1]
 generalize a.drop f = b at hlen ⊢
 clear h1 hsp
 constructor
 ·intro e
  have : ∀ (b : List Nat) (n : Nat), b.take n = zm8 n -> n <= znb b := by
   intro b
   induction b with
   | nil => intro n e; cases n with
     | zero => exact Nat.zero_le _
     | succ n => simp [zm8, List.replicate_succ] at e
   | cons x r ih =>
     intro n e
     cases n with
     | zero => exact Nat.zero_le _
     | succ n =>
       simp only [zm8, List.replicate_succ, List.take_succ_cons, List.cons.injEq] at e
       have h2 := ih n e.2
       unfold znb at h2 ⊢
       rw [List.takeWhile_cons, if_pos (by simp [e.1])]
       simp only [List.length_cons]
       omega
  exact this b n e
 ·intro hle
  have h2 := zni b
  have h3 : b.take n = (b.take (znb b)).take n := by rw [List.take_take, Nat.min_eq_left hle]
  rw [h3, h2]
  unfold zm8
  rw [List.take_replicate, Nat.min_eq_left hle]
theorem zlc (a : List Nat) (h : ∀ f, znb (a.drop f) <= 1) : ∀ k, znd a k = (-1, 1)
 | 0 => rfl
 | k + 1 => by
   rw [zng, zlc a h k]
   unfold znc
   have := h k
   rw [if_neg (by omega)]
theorem zld (a : List Nat) (i L : Nat) (h2 : 2 <= L) (hi : znb (a.drop i) = L) (hb : ∀ f, f < i -> znb (a.drop f) < L) (ha : ∀ f, znb (a.drop f) <= L) :
 ∀ k, (k <= i -> (znd a k).2 < L) /\ (i < k -> znd a k = ((i : Int), L))
 | 0 => ⟨fun _ => by show 1 < L; omega, fun h => by omega⟩
 | k + 1 => by
   have ih := zld a i L h2 hi hb ha k
   rw [zng]
   unfold znc
   refine ⟨fun hk => ?_, fun hk => ?_⟩
   ·split
    ·exact hb k (by omega)
    ·exact ih.1 (by omega)
   ·by_cases hki : k = i
    ·subst hki
     rw [hi, if_pos (ih.1 jH)]
    ·rw [ih.2 (by omega), if_neg (by have := ha k; simp only; omega)]
def zle (a : List Nat) (L : Nat) : Prop := ∀ n f, L < n -> f + n <= 8 -> clr a f n ≠ a
theorem zlf (a : List Nat) : zle a 8 := fun n f h h2 => by omega
theorem zlg {a : List Nat} {L : Nat} (h : zle a L) (hn : ∀ f, f + L <= 8 -> clr a f L ≠ a) (h0 : 0 < L) : zle a (L - 1) := by
 intro n f h1 h2
 by_cases e : n = L
 ·subst e; exact hn f h2
 ·exact h n f (by omega) h2
theorem zlh {a : List Nat} (ha : a.length = 8) {L : Nat} (h : zle a L) (f : Nat) : znb (a.drop f) <= L := by
 by_cases hc : L < znb (a.drop f)
 ·have h1 := znh (a.drop f)
  rw [List.length_drop] at h1
  exact absurd ((zlb a f _ (by omega)).2 jH) (h _ f hc (by omega))
 ·omega
theorem zli {a : List Nat} (ha : a.length = 8) (h : zle a 1) : znd a 8 = (-1, 1) := zlc a (zlh ha h) 8
theorem zlj {a : List Nat} (ha : a.length = 8) {L i : Nat} (h2 : 2 <= L) (h : zle a L) (hb : ∀ f, f < i -> clr a f L ≠ a) (hi : i + L <= 8) (hc : clr a i L = a) : znd a 8 = ((i : Int), L) := by
 have h3 := (zlb a i L (by omega)).1 hc
 refine (zld a i L h2 (by have := zlh ha h i; omega) (fun f hf => ?_) (zlh ha h) 8).2 (by omega)
 by_cases hq : L <= znb (a.drop f)
 ·exact absurd ((zlb a f L (by omega)).2 hq) (hb f hf)
 ·omega
theorem zlk (n : Nat) : (Builtin.zeroCells (Value.int .u16 0).cells n).toList = uv (zm8 n) := by
 have h : (Value.int .u16 0).cells = #[.int .u16 0] := rfl
 rw [h]
 apply List.ext_getElem
 ·simp [Builtin.zeroCells, uv, zm8]
 ·intro i h1 h2
  simp [Builtin.zeroCells, uv, zm8, Nat.mod_one]
theorem zll (w : World) {ops : Array Oper} {rest : List Oper} {o : Oper} {a : Act} {Q : Exit -> Act -> World -> Prop} (hg : o.guard = none) (hd : o.dst = none) (x : Operand)
 (hop : o.op = .call { callee := .builtin .clear, args := #[x], argTypes := #[95] }) (g f n cap : Nat) (hx : a.eval x = .slice (some ⟨g, f, none⟩) n cap) (C : List Nat) (hrow : zaj w g C) (hC : C.length = 8) (h8 : f + n <= 8) (h0 : 0 < n)
 (h : ∀ w', zaj w' g (clr C f n) -> w.grownBy w' (some g) -> wpList Tryz.prog ops Q rest a w') : wpList Tryz.prog ops Q (o :: rest) a w := by
 refine wpList_plain hg fun K hK => ?_
 obtain ⟨m, rfl⟩ : ∃ m, n = m + 1 := ⟨n - 1, by omega⟩
 have hsz : (av C).size = 8 := by rw [zaa, hC]
 have hst := run_storeCells_at Tryz.prog g f 24 (uv (zm8 (m + 1))) 0 (av C) w hrow (by rw [zjv, hsz]; simp [zm8]; omega) (zjx _)
 have hval : ((av C).toList.take (f + 0) ++ uv (zm8 (m + 1)) ++ (av C).toList.drop (f + 0 + (uv (zm8 (m + 1))).length)).toArray = av (clr C f (m + 1)) := by
  have hl : (uv (zm8 (m + 1))).length = m + 1 := by rw [zjv]; simp [zm8]
  rw [hl]
  simp [av, uv, clr, List.map_take, List.map_drop]
 rw [hval] at hst
 have hrun : (Builtin.clear_ #[95] o.type #[.slice (some ⟨g, f, none⟩) (m + 1) cap]).run Tryz.prog w = .ok (.tuple #[]) (w.setRow g (av (clr C f (m + 1)))) := by
  simp [Builtin.clear_, run_underlying zjr, zlk, hst, Result.andThen]
 have : wpList Tryz.prog ops Q rest (a.put o.dst (.tuple #[])) (w.setRow g (av (clr C f (m + 1)))) := by
  rw [hd]
  exact h _ (setRow_heap w g (av C) _ _ _ hrow) (zaw w g _)
 unfold Oper.wp
 simp [execOp, hop, resolve, invoke, builtin, hx, hrun, Result.andThen]
 exact hK _ _ this
def lzS (a : List Nat) : Nat := if (znd a 8).1 < 0 then 0 else (znd a 8).1.toNat
def lzE (a : List Nat) : Nat := if (znd a 8).1 < 0 then 0 else (znd a 8).1.toNat + (znd a 8).2
set_option maxRecDepth 20000 in
theorem zlm (a : List Nat) (ha : a.length = 8) (w : World) :
 Calls Tryz.prog 99 #[.agg (av a)] w fun e w' => e = .returned (.tuple #[.int .i64 (lzS a : Nat), .int .i64 (lzE a : Nat)]) /\ Below w.heap.size w w' := by
 have HAL := jL ha
 go_enter Tryz.func99, Tryz.ntmps99
 go_wp2_with (refine zax _ rfl 1 rfl _ _ rfl _ (av a) (by exact rfl) (by exact rfl) ?_; intro W1 ga hga hla hA hG)
 have hb1 : Below w.heap.size w W1 := zav (Below.refl w.heap.size w) hG jH
 clear hG
 go_loopw [4] (fun i wr => ∃ (L : Nat) (z : Int), i = .int .i64 z /\ Hid (z = (L : Int)) /\ 1 <= z /\ z <= 8 /\ Hid (zle a L) /\ zaj wr ga a /\ Below w.heap.size w wr) (fun i _ => (intOf i).toNat)
 case atStart => exact ⟨8, 8, rfl, jL rfl, by omega, by omega, jL (zlf a), hA, hb1⟩
 case round =>
  obtain ⟨L, z, rfl, HZ, hz1, hz8, HTR, hrow, hb⟩ := hrel
  by_cases h2 : 2 <= z
  ·have hd : decide (z >= 2) = true := jT h2
   have hL2 : 2 <= L := by have := HZ.out; omega
   have HL2 := jL hL2
   clear hL2
   go_wp2
   go_loopw [14] (fun i wq => ∃ k : Nat, i = .int .i64 k /\ (k : Int) <= 8 - z + 1 /\ Hid (∀ f, f < k -> clr a f L ≠ a) /\ zaj wq ga a /\ Below w.heap.size w wq) (fun i _ => 9 - (intOf i).toNat)
   case atStart => exact ⟨0, rfl, by omega, jL (fun f hf => by omega), hrow, hb⟩
   case round =>
    obtain ⟨k, rfl, hk, HN, hrow2, hb2⟩ := hrel
    by_cases hlt : (k : Int) < 8 - z + 1
    ·have hd2 : decide ((k : Int) < 8 - z + 1) = true := jT hlt
     have hkL : k + L <= 8 := by have := HZ.out; omega
     have hL0 : 0 < L := by have := HL2.out; omega
     have hsl := fun g W => z13 (P := Tryz.prog) 24 23 8 g k (k + L) zae zju (some (.int .i64 (k : Int))) (some (.int .i64 ((k : Int) + z))) (.inl rfl) (.inl (by rw [HZ.out, Int.natCast_add])) (by omega) hkL W
     simp only [if_neg (show ¬ 8 = k by have := HL2.out; omega), show k + L - k = L by omega] at hsl
     obtain ⟨E, hE⟩ : ∃ E, E = clr a k L := ⟨_, rfl⟩
     have hEl : E.length = 8 := by rw [hE, zla a k L (by rw [HAL.out]; exact hkL), HAL.out]
     have heq := zki E a hEl HAL.out
     have HE := jL hE
     have HK8 := jL hkL
     have HL0 := jL hL0
     clear hE hkL hL0
     by_cases hc : E = a
     ·have hdc : decide (E = a) = true := jT hc
      rw [hdc] at heq
      have HS : Hid (lzS a = k /\ lzE a = k + L) := by
       have := zlj HAL.out HL2.out HTR.out HN.out HK8.out (HE.out ▸ hc)
       show _ /\ _
       unfold lzS lzE
       rw [this, if_neg (by simp only; omega), if_neg (by simp only; omega)]
       exact ⟨by simp, by simp⟩
      clear hdc hc
      go_wp2_with (first
       | (refine zaz _ rfl _ _ rfl ga (by exact rfl) _ (av a) hrow2 8 _ zae (zah a HAL.out) ?_)
       | (refine zay _ rfl 6 rfl _ rfl _ zai ?_; intro W4 gc hgc hlc hC hGc; have hrow4 := hrow2.grown0 hGc; have hb4 := zav hb2 hGc jH; have hne : ga ≠ gc := (by have := hrow2.lt; omega); have hgw : w.heap.size <= gc := (by have := hb2.size; omega))
       | (refine za0 _ rfl rfl _ _ _ rfl gc (by exact rfl) (av a) (by exact rfl) _ _ hC (zah a HAL.out) (by rw [zaa, zaa, HAL.out]; rfl) (zac a) ?_; intro W5 hC5 hG5; have hrow5 := hrow4.grown hG5 hne; have hb5 := zau hb4 hG5 jH hgw)
       | (refine zll _ rfl rfl _ rfl gc k L (8 - k) (by exact rfl) a hC5 HAL.out HK8.out HL0.out ?_; intro W6 hC6 hG6; have hrow6 := hrow5.grown hG6 hne; have hb6 := zau hb5 hG6 jH hgw; rw [<- HE.out] at hC6)
       | (refine zaz _ rfl _ _ rfl gc (by exact rfl) _ (av E) hC6 8 _ zae (zah E hEl) ?_)
       | (refine zaz _ rfl _ _ rfl ga (by exact rfl) _ (av a) hrow6 8 _ zae (zah a HAL.out) ?_))
      go_ret2
      refine ⟨?_, hb6⟩
      rw [HS.out.1, HS.out.2]
      rw [show ((k + L : Nat) : Int) = (k : Int) + z by rw [HZ.out, Int.natCast_add]]
      rfl
     ·have hdc : decide (E = a) = false := jF hc
      rw [hdc] at heq
      have HN2 : Hid (∀ f, f < k + 1 -> clr a f L ≠ a) := by
       show ∀ f, _
       intro f hf
       by_cases e : f = k
       ·subst e; rw [<- HE.out]; exact hc
       ·exact HN.out f (by omega)
      clear hdc hc
      go_wp2_with (first
       | (refine zaz _ rfl _ _ rfl ga (by exact rfl) _ (av a) hrow2 8 _ zae (zah a HAL.out) ?_)
       | (refine zay _ rfl 6 rfl _ rfl _ zai ?_; intro W4 gc hgc hlc hC hGc; have hrow4 := hrow2.grown0 hGc; have hb4 := zav hb2 hGc jH; have hne : ga ≠ gc := (by have := hrow2.lt; omega); have hgw : w.heap.size <= gc := (by have := hb2.size; omega))
       | (refine za0 _ rfl rfl _ _ _ rfl gc (by exact rfl) (av a) (by exact rfl) _ _ hC (zah a HAL.out) (by rw [zaa, zaa, HAL.out]; rfl) (zac a) ?_; intro W5 hC5 hG5; have hrow5 := hrow4.grown hG5 hne; have hb5 := zau hb4 hG5 jH hgw)
       | (refine zll _ rfl rfl _ rfl gc k L (8 - k) (by exact rfl) a hC5 HAL.out HK8.out HL0.out ?_; intro W6 hC6 hG6; have hrow6 := hrow5.grown hG6 hne; have hb6 := zau hb5 hG6 jH hgw; rw [<- HE.out] at hC6)
       | (refine zaz _ rfl _ _ rfl gc (by exact rfl) _ (av E) hC6 8 _ zae (zah E hEl) ?_)
       | (refine zaz _ rfl _ _ rfl ga (by exact rfl) _ (av a) hrow6 8 _ zae (zah a HAL.out) ?_))
      go_roundw
      case rel => exact ⟨k + 1, by go_num, by omega, HN2, hrow6, hb6⟩
      case measure => simp [intOf]; omega
    ·have hd2 : decide ((k : Int) < 8 - z + 1) = false := jF hlt
     have HTR2 : Hid (zle a (L - 1)) := by
      refine jL (zlg HTR.out (fun f hf => HN.out f ?_) (by have := HL2.out; omega))
      have := HZ.out
      omega
     go_wp2
     go_roundw
     case rel => exact ⟨L - 1, z - 1, by first | rfl | go_num, jL (by have := HZ.out; have := HL2.out; omega), by omega, by omega, HTR2, hrow2, hb2⟩
     case measure => simp [intOf]; omega
  ·have hd : decide (z >= 2) = false := jF h2
   have HS : Hid (lzS a = 0 /\ lzE a = 0) := by
    have hL : L = 1 := by have := HZ.out; omega
    have := zli HAL.out (hL ▸ HTR.out)
    show _ /\ _
    unfold lzS lzE
    rw [this, if_pos (by decide), if_pos (by decide)]
    exact ⟨rfl, rfl⟩
   go_wp2
   go_ret2
   refine ⟨?_, hb⟩
   rw [HS.out.1, HS.out.2]
   rfl
end

section
open Go.RowKit
set_option maxHeartbeats 16000000
theorem zln (l m : List UInt8) : bs l ++ bs m = bs (l ++ m) := zb2 (by rw [zb6, zb0, zb0, zb0])
theorem zlo {w : World} {g : Nat} {C : List Nat} (h : zaj w g C) (hC : C.length = 8) (l m : Nat) (hm : l + m <= 8) {B : Nat} (hB : g < B) (A : Option Addr) (hA : 0 < m -> A = some ⟨g, l, none⟩) : Has w B A m (uv ((C.drop l).take m)) := by
 refine ⟨by rw [zjv, List.length_take, List.length_drop, hC]; omega, fun h0 => ⟨g, l, hA h0, hB, fun j hj => ?_⟩⟩
 have hj' : j < m := by
  rw [zjv, List.length_take] at hj
  omega
 rw [h.cell (k := l + j) (by omega)]
 simp [uv, List.getD_eq_getElem?_getD, List.getElem?_eq_getElem (show l + j < C.length by omega)]
theorem zlp (a : List Nat) (ha : a.length = 8) : (lzS a = lzE a /\ lzS a = 0 /\ znf a = z2v 58 (a.map zna)) \/ (lzS a < lzE a /\ lzE a <= 8 /\ znf a = z2v 58 ((a.take (lzS a)).map zna) ++ ([58, 58] ++ z2v 58 ((a.drop (lzE a)).map zna))) := by
 rcases znj a 8 with e | ⟨i, m, hi, e, h2, hm⟩
 ·left
  unfold lzS lzE znf zne
  rw [e]
  refine ⟨rfl, rfl, ?_⟩
  rw [if_pos (.inl (by decide)), List.take_of_length_le (by omega)]
 ·right
  have hz := znh (a.drop i)
  rw [List.length_drop] at hz
  unfold lzS lzE znf zne
  rw [e]
  simp only
  rw [if_neg (by omega), if_neg (by omega), if_neg (by omega), List.take_of_length_le (show a.length <= 8 by omega)]
  exact ⟨by omega, by omega, rfl⟩
set_option maxRecDepth 20000 in
theorem zlq : zkf 73 := by
 intro a ha hg w hp
 have HAL := jL ha
 have HGG := jL hg
 have c0 := fun W => zlm a ha W
 have hfa := zlp a ha
 generalize hS : lzS a = S at *
 generalize hE : lzE a = E at *
 generalize znf a = F at *
 clear hS hE
 rcases hfa with ⟨h1, h2, hF⟩ | ⟨h1, h2, hF⟩
 ·subst h1
  subst h2
  have HF := jL hF
  clear hF
  go_enter Tryz.func73, Tryz.ntmps73
  go_wp2_with (first
   | (refine zax _ rfl 1 rfl _ _ rfl _ (av a) (by exact rfl) (by exact rfl) ?_; intro W1 ga hga hla hA hG; have hb1 := zav (Below.refl w.heap.size w) hG jH)
   | (refine zaz _ rfl _ _ rfl ga (by exact rfl) _ (av a) hA 8 _ zae (zah a HAL.out) ?_))
  refine (c0 _).mono ?_
  rintro e w2 ⟨rfl, hb2⟩
  have hA2 : zaj w2 ga a := Row.below hA hb2 hla
  replace hb2 := hb1.trans (hb2.mono hb1.size)
  have hsl := fun W => z13 (P := Tryz.prog) 24 23 8 ga 0 8 zae zju none none (.inr ⟨rfl, rfl⟩) (.inr ⟨rfl, rfl⟩) (by omega) (by omega) W
  simp only [if_neg (show ¬ 8 = 0 by omega), Nat.sub_zero] at hsl
  have hh := zlo hA2 HAL.out 0 8 (by omega) hA2.lt (some ⟨ga, 0, none⟩) (fun _ => rfl)
  rw [List.drop_zero, List.take_of_length_le (by rw [HAL.out]; exact jH)] at hh
  have hp2 := zwi hp hb2
  clear hG hA hA2
  go_wp2_with fail
  refine (zk9 _ 8 8 a HGG.out (by omega) w2 hp2 hh).mono ?_
  rintro e w3 ⟨rfl, hb3⟩
  replace hb3 := hb2.trans (hb3.mono hb2.size)
  go_wp2
  go_ret
  exact ⟨by rw [HF.out]; rfl, hb3⟩
 ·obtain ⟨J1, hJ1⟩ : ∃ J, J = bs (z2v 58 ((a.take S).map zna)) := ⟨_, rfl⟩
  obtain ⟨J2, hJ2⟩ : ∃ J, J = bs (z2v 58 ((a.drop E).map zna)) := ⟨_, rfl⟩
  have hz1 : J1.size <= 40 := by
   rw [hJ1, zb5]
   have := zn8 (a.take S) (hg.take S)
   rw [List.length_take] at this
   omega
  have hz2 : J2.size <= 40 := by
   rw [hJ2, zb5]
   have := zn8 (a.drop E) (hg.drop E)
   rw [List.length_drop] at this
   omega
  have HF : Hid (bs F = (J1 ++ (⟨#[58, 58]⟩ : ByteArray)) ++ J2) := by
   show _ = _
   rw [hF, hJ1, hJ2, show (⟨#[58, 58]⟩ : ByteArray) = bs [58, 58] from rfl, zln, zln, List.append_assoc]
  have k1 : ¬ 9223372036854775807 < J1.size + 2 := by omega
  have k2 : ¬ 9223372036854775807 < J1.size + (⟨#[58, 58]⟩ : ByteArray).size := by rw [show (⟨#[58, 58]⟩ : ByteArray).size = 2 from rfl]; omega
  have k3 : ¬ 9223372036854775807 < J1.size + 2 + J2.size := by omega
  have k4 : ¬ 9223372036854775807 < (J1 ++ (⟨#[58, 58]⟩ : ByteArray)).size + J2.size := by
   rw [ByteArray.size_append, show (⟨#[58, 58]⟩ : ByteArray).size = 2 from rfl]; omega
  have hne : ((S : Int) == (E : Int)) = false := by rw [beq_eq_false_iff_ne]; omega
  have hJa := fun (A : Option Addr) (W : World) (h1 : zwg W) (h2 : Has W W.heap.size A S (uv (a.take S))) => zk9 A S 8 (a.take S) (HGG.out.take S) (by omega) W h1 h2
  have hJb := fun (A : Option Addr) (W : World) (h1 : zwg W) (h2 : Has W W.heap.size A (8 - E) (uv (a.drop E))) => zk9 A (8 - E) (8 - E) (a.drop E) (HGG.out.drop E) (by omega) W h1 h2
  rw [<- hJ1] at hJa
  rw [<- hJ2] at hJb
  have HSE := jL h1
  have HE8 := jL h2
  clear hF hJ1 hJ2 hg hz1 hz2
  go_enter Tryz.func73, Tryz.ntmps73
  go_wp2_with (first
   | (refine zax _ rfl 1 rfl _ _ rfl _ (av a) (by exact rfl) (by exact rfl) ?_; intro W1 ga hga hla hA hG; have hb1 := zav (Below.refl w.heap.size w) hG jH)
   | (refine zaz _ rfl _ _ rfl ga (by exact rfl) _ (av a) hA 8 _ zae (zah a HAL.out) ?_))
  refine (c0 _).mono ?_
  rintro e w2 ⟨rfl, hb2⟩
  have hA2 : zaj w2 ga a := Row.below hA hb2 hla
  replace hb2 := hb1.trans (hb2.mono hb1.size)
  have hs1 := fun W => z13 (P := Tryz.prog) 24 23 8 ga 0 S zae zju none (some (.int .i64 (S : Int))) (.inr ⟨rfl, rfl⟩) (.inl rfl) (by omega) (by omega) W
  have hs2 := fun W => z13 (P := Tryz.prog) 24 23 8 ga E 8 zae zju (some (.int .i64 (E : Int))) none (.inl rfl) (.inr ⟨rfl, rfl⟩) (by omega) (by omega) W
  simp only [if_neg (show ¬ 8 = 0 by omega), Nat.sub_zero] at hs1
  obtain ⟨A2, hA2e, hA20⟩ : ∃ A : Option Addr, A = some (if 8 = E then (⟨ga, 0, none⟩ : Addr) else ⟨ga, E, none⟩) /\ (0 < 8 - E -> A = some ⟨ga, E, none⟩) := ⟨_, rfl, fun h => by rw [if_neg (by omega)]⟩
  rw [<- hA2e] at hs2
  have cL : ∀ W, Below w2.heap.size w2 W -> Calls Tryz.prog 100 #[.slice (some ⟨ga, 0, none⟩) S 8] W fun e w' => e = .returned (.string J1) /\ Below W.heap.size W w' := by
   intro W hbW
   have hAW : zaj W ga a := Row.below hA2 hbW hA2.lt
   have hh := zlo hAW HAL.out 0 S (by have := HSE.out; have := HE8.out; omega) hAW.lt (some ⟨ga, 0, none⟩) (fun _ => rfl)
   rw [List.drop_zero] at hh
   exact hJa _ W (zwi (zwi hp hb2) hbW) hh
  have cR : ∀ W, Below w2.heap.size w2 W -> Calls Tryz.prog 100 #[.slice A2 (8 - E) (8 - E)] W fun e w' => e = .returned (.string J2) /\ Below W.heap.size W w' := by
   intro W hbW
   have hAW : zaj W ga a := Row.below hA2 hbW hA2.lt
   have hh := zlo hAW HAL.out E (8 - E) (by have := HE8.out; omega) hAW.lt A2 hA20
   rw [List.take_of_length_le (by rw [List.length_drop, HAL.out]; exact jH)] at hh
   exact hJb _ W (zwi (zwi hp hb2) hbW) hh
  have HB2 := jL hb2
  have hbX : Below w2.heap.size w2 w2.drew := (Below.refl _ _).drew
  have hcell := hA2.cell (k := 0) (by rw [HAL.out]; decide)
  clear hG hA hA2 hb2 hA2e hA20 hJa hJb h1 h2 c0 hb1
  go_wp2_with fail
  have htrue : True := trivial
  go_region_held3 (fun _ => True) (first | exact trivial | go_keep)
   (first
     | (go_at_call 100; (first | (with_reducible refine (cL _ hbX).mono ?_) | (with_reducible refine (cR _ hbX).mono ?_)); rintro r wA ⟨rfl, hbA'⟩; have hbA := hbX.trans (hbA'.mono hbX.size); clear hbX; have hbX := hbA))
  all_goals (go_wp2_with fail)
  all_goals go_ret
  all_goals exact ⟨by rw [HF.out]; rfl, HB2.out.trans (hbX.mono HB2.out.size)⟩
end

end Go.Proofs.YtekaljeicfjkjaaGreatDoor
