/-
Contracts of the functions of Go's library that package label calls, in the words of UtfP.
strings.Index, strings.Cut at a text of one byte, and strings.SplitSeq: the iterator's contract.
What decoding answers, in memory.
What is asked of package punycode's functions, in plain words.
What is asked of package label's functions, in plain words; awake of layer 13.
The program's Labels, ValidName, Covers of package host.
-/
import Derived.Test.YtekaljeicfjkjaaGreatDoorK12
import Derived.Test.YtekaljeicfjkjaaGreatDoorK02
import Derived.Test.YtekaljeicfjkjaaGreatDoorK07
import Derived.Test.YtekaljeicfjkjaaGreatDoorShelf
import Derived.Test.YtekaljeicfjkjaaGreatDoorShelfV
import Derived.Test.YtekaljeicfjkjaaGreatDoorK10
import Derived.Shelf.RegionOpen
import Derived.WalkKit
import Derived.OwnWalkIn
import Derived.TacticsInMore
import Derived.LoopNIn
import Derived.LoopIn
import Derived.Test.YtekaljeicfjkjaaGreatDoorRows
import Derived.Test.YtekaljeicfjkjaaGreatDoorK01
import Derived.Below
import Derived.Test.YtekaljeicfjkjaaGreatDoorK09
import Derived.Test.YtekaljeicfjkjaaGreatDoorK04
import Derived.Test.YtekaljeicfjkjaaGreatDoorK08
namespace Go.Proofs.YtekaljeicfjkjaaGreatDoor
section
open Go.RowKit
set_option maxHeartbeats 16000000
theorem zun (s : ByteArray) (w : World) (hs : s.size <= 1000000000) (hT : U8 w) :
 Calls Tryz.prog 179 #[.string s] w fun e w' => e = .returned (.bool (yaq (ls s)).isSome) /\ Below w.heap.size w w' := by
 have c : Calls Tryz.prog 179 #[.string s] w fun e w' => e = .returned (.bool (Lib.validD s.data.toList)) /\ Below w.heap.size w w' := Any.utf8_ValidString Tryz.laysValid s w (by omega) hT
 rw [yag] at c
 exact c
theorem zuo {s : ByteArray} {P : List Nat} (hp : yaq (ls s) = some P) (w : World) (hs : s.size <= 1000000000) :
 Calls Tryz.prog 180 #[.string s] w fun e w' => e = .returned (.int .i64 (P.length : Nat)) /\ Below w.heap.size w w' := by
 have c : Calls Tryz.prog 180 #[.string s] w fun e w' => e = .returned (.int .i64 (Lib.runeCount s)) /\ ∃ pos, w' = w.iter s pos := Any.utf8_RuneCountInString Tryz.lays195 s w (by omega)
 rw [yaj hp] at c
 refine c.mono ?_
 rintro e w' ⟨rfl, pos, rfl⟩
 exact ⟨rfl, (Below.refl _ _).alloc jH _⟩
theorem zup {s : ByteArray} {p : Nat} {P : List Nat} (h : yaq (ls s) = some (p :: P)) :
 ∃ k, 1 <= k /\ k <= s.size /\ yaq ((ls s).drop k) = some P /\ ∀ (w : World), U8 w ->
  Calls Tryz.prog 192 #[.string s] w fun e w' => e = .returned (.tuple #[.int .i32 (p : Nat), .int .i64 (k : Nat)]) /\ Below w.heap.size w w' := by
 obtain ⟨k, h1, h2, h3, h4⟩ := yak h
 refine ⟨k, h2, h3, h4, fun w hT => ?_⟩
 have c : Calls Tryz.prog 192 #[.string s] w fun e w' => e = .returned (.tuple #[.int .i32 (Lib.decodeGo s).1, .int .i64 (Lib.decodeGo s).2]) /\ Below w.heap.size w w' := Any.utf8_DecodeRuneInString Tryz.lays197 s w hT
 have e : Lib.decodeGo s = (p, k) := by
  unfold Lib.decodeGo
  rw [if_neg (by omega), h1]
 rw [e] at c
 exact c
theorem zuq {w0 w : World} {B n p : Nat} {v : Value} {l : List UInt8} (hp : ptN p = true) (hown : w.ownsRow B 5 1 v n (l.map bv)) (hn : n <= 1000000000) (hb : Below B w0 w) (hB : B <= w0.heap.size) :
 Calls Tryz.prog 217 #[v, .int .i32 (p : Int)] w fun e w' => ∃ v', e = .returned v' /\ w'.ownsRow B 5 1 v' (n + (yar p).length) ((l ++ yar p).map bv) /\ Below B w0 w' := by
 have hbw : B <= w.heap.size := Nat.le_trans hB hb.size
 have hle := zzo hp
 have c : Calls Tryz.prog 217 #[v, .int .i32 (p : Int)] w fun e w' => ∃ v', e = .returned v' /\ w'.ownsRow B 5 1 v' (n + (Lib.runeCells (p : Int)).length) (l.map bv ++ Lib.runeCells (p : Int)) /\ ∃ o, (w.alloc o).grownBy w' v.ownBlock :=
  Any.utf8_AppendRune_plain Tryz.lays242 z34 B v n (l.map bv) (p : Int) (by omega) (by omega) w hown (by omega) hbw
 rw [yal hp, List.length_map, <- List.map_append] at c
 refine c.mono ?_
 rintro e w' ⟨v', rfl, h1, o, hg⟩
 exact ⟨v', rfl, h1, zco (hown.alloc o) (hb.alloc hbw o) (by show _ <= (w.heap.push _).size; simp; omega) hg⟩
theorem zur (s : ByteArray) (w : World) (hs : s.size <= 1000000000) :
 Calls Tryz.prog 42 #[.string s] w fun e w' => e = .returned (.string s) /\ Below w.heap.size w w' := by
 have c : Calls Tryz.prog 62 #[.string s] w fun e w' => e = .returned (.string s) /\ Below w.heap.size w w' := Any.stringslite_Clone Tryz.laysM316 s w (by omega)
 clear hs
 go_enter Tryz.func42, Tryz.ntmps42
 go_wp2_with (go_at_call 62; refine c.mono ?_; rintro e w1 ⟨rfl, hb⟩)
 go_ret
 exact ⟨rfl, hb⟩
theorem zus (l : List UInt8) : Lib.hasPrefix l xnL = decide (l.take 4 = xnL) := by
 unfold Lib.hasPrefix
 rw [Bool.eq_iff_iff, List.isPrefixOf_iff_prefix, List.prefix_iff_eq_take, decide_eq_true_iff]
 exact eq_comm
theorem zut {s : ByteArray} (h : (ls s).take 4 = xnL) (w : World) :
 Calls Tryz.prog 80 #[.string s, .string ⟨#[120, 110, 45, 45]⟩] w fun e w' => e = .returned (.tuple #[.string (bs ((ls s).drop 4)), .bool true]) /\ w = w' := by
 have c : Calls Tryz.prog 80 #[.string s, .string ⟨#[120, 110, 45, 45]⟩] w fun e w' => e = .returned (.tuple #[.string ⟨(Lib.trimPrefix s.data.toList xnL).toArray⟩, .bool (Lib.hasPrefix s.data.toList xnL)]) /\ w' = w := Any.strings_CutPrefix Tryz.lays103 s ⟨#[120, 110, 45, 45]⟩ w
 have e : Lib.hasPrefix s.data.toList xnL = true := by rw [zus]; exact jT h
 unfold Lib.trimPrefix at c
 rw [e, if_pos rfl] at c
 exact c.mono fun e w' hh => ⟨hh.1, hh.2.symm⟩
theorem zuu {s : ByteArray} (h : ¬ (ls s).take 4 = xnL) (w : World) :
 Calls Tryz.prog 80 #[.string s, .string ⟨#[120, 110, 45, 45]⟩] w fun e w' => e = .returned (.tuple #[.string s, .bool false]) /\ w = w' := by
 have c : Calls Tryz.prog 80 #[.string s, .string ⟨#[120, 110, 45, 45]⟩] w fun e w' => e = .returned (.tuple #[.string ⟨(Lib.trimPrefix s.data.toList xnL).toArray⟩, .bool (Lib.hasPrefix s.data.toList xnL)]) /\ w' = w := Any.strings_CutPrefix Tryz.lays103 s ⟨#[120, 110, 45, 45]⟩ w
 have e : Lib.hasPrefix s.data.toList xnL = false := by rw [zus]; exact jF h
 unfold Lib.trimPrefix at c
 rw [e, if_neg (by simp), show (⟨s.data.toList.toArray⟩ : ByteArray) = s from zb1 s] at c
 exact c.mono fun e w' hh => ⟨hh.1, hh.2.symm⟩
end

section
open Go.RowKit Go.Shelf
set_option maxHeartbeats 16000000
attribute [local go_sem] Oper.semAt_some
theorem z21 (l : List UInt8) : (Lib.indexByte l 46 = -1 /\ noB 46 l) \/ ∃ x r, l = x ++ 46 :: r /\ noB 46 x /\ Lib.indexByte l 46 = (x.length : Int) := by
 induction l with
 | nil => exact .inl ⟨rfl, fun b hb => by cases hb⟩
 | cons b l ih =>
   by_cases hb : b = 46
   ·subst hb
    exact .inr ⟨[], l, rfl, (fun b hb => by cases hb), rfl⟩
   ·have hb2 : (b == 46) = false := by simpa using hb
    rcases ih with ⟨h1, h2⟩ | ⟨x, r, rfl, h2, h3⟩
    ·refine .inl ⟨?_, ?_⟩
     ·rw [Lib.indexByte, hb2, h1]; rfl
     ·intro c hc
      rcases List.mem_cons.1 hc with rfl | hc
      ·exact hb
      ·exact h2 c hc
    ·refine .inr ⟨b :: x, r, rfl, ?_, ?_⟩
     ·intro c hc
      rcases List.mem_cons.1 hc with rfl | hc
      ·exact hb
      ·exact h2 c hc
     ·rw [Lib.indexByte, hb2, h3]
      have h4 : ((x.length : Int) == -1) = false := by
       rw [beq_eq_false_iff_ne]
       omega
      rw [h4]
      simp
theorem z22 (s : ByteArray) (w : World) : Calls Tryz.prog 193 #[.string s, .string ⟨#[46]⟩] w fun e w' => e = .returned (.int .i64 (Lib.indexByte (ls s) 46)) /\ w' = w :=
 Any.strings_Index_one Tryz.lays143 s 46 w
theorem z23 (s : ByteArray) (w : World) : Calls Tryz.prog 124 #[.string s, .string ⟨#[46]⟩] w fun e w' =>
 e = .returned (.func (.func 191) #[] #[.pointer (some ⟨w.heap.size + 1, 0, none⟩), .pointer (some ⟨w.heap.size, 0, none⟩), .pointer (some ⟨w.heap.size + 2, 0, none⟩)]) /\
 w' = ((w.alloc (.cells #[.string s] 9)).alloc (.cells #[.string ⟨#[46]⟩] 9)).alloc (.cells #[.int .i64 0] 3) := by
 have c : ∀ W, Calls Tryz.prog 161 #[.string s, .string ⟨#[46]⟩, .int .i64 0] W fun e w' =>
  e = .returned (.func (.func 191) #[] #[.pointer (some ⟨W.heap.size + 1, 0, none⟩), .pointer (some ⟨W.heap.size, 0, none⟩), .pointer (some ⟨W.heap.size + 2, 0, none⟩)]) /\
  w' = ((W.alloc (.cells #[.string s] 9)).alloc (.cells #[.string ⟨#[46]⟩] 9)).alloc (.cells #[.int .i64 0] 3) := by
  intro W
  go_enter Tryz.func161, Tryz.ntmps161
  go_wp2
  go_ret
  exact ⟨rfl, rfl⟩
 go_enter Tryz.func124, Tryz.ntmps124
 go_wp2_with (go_at_call 161; refine (c _).mono ?_; rintro e w1 ⟨rfl, rfl⟩)
 go_ret
 exact ⟨rfl, rfl⟩
abbrev St9 := { x : ByteArray // x.size <= 1000000000 }
theorem z24 (s : ByteArray) (k : Nat) : ls (s.extract k s.size) = (ls s).drop k := by
 rw [zb9, List.take_of_length_le]
 rw [List.length_drop, zb4]
 exact jH
def z25 (B : Nat) (W : World) : Nat := match W.cell? ⟨B, 0, none⟩ with | some (.string r) => r.size + 1 | _ => 0
theorem z26 {B : Nat} {W : World} {r : ByteArray} {t : TypeId} (h : Boxed W B t (.string r)) : z25 B W = r.size + 1 := by
 unfold z25
 rw [h.cell]
theorem z27 {W W' : World} {B : Nat} {t : TypeId} {v : Value} {Kr : Nat -> Prop} (h : Boxed W B t v) (hs : z18 Kr W W') (hk : Kr B) : Boxed W' B t v := (hs B hk).trans h
theorem z28 {W : World} {B C : Nat} {t : TypeId} {v u : Value} (h : Boxed W B t v) (hne : B ≠ C) : Boxed (W.setCell ⟨C, 0, none⟩ u) B t v := h.kept (grownBy_setCell' W C u) (by simpa using hne)
set_option maxRecDepth 100000 in
theorem z29 (n : Nat) (B : Nat) (s : ByteArray) (hs : s.size <= 1000000000) (W0 : World) (h1 : Boxed W0 B 9 (.string s)) (h2 : Boxed W0 (B + 1) 9 (.string ⟨#[46]⟩)) (h3 : Boxed W0 (B + 2) 3 (.int .i64 0)) :
 z19 Fence.wide n Tryz.prog 191 #[.pointer (some ⟨B + 1, 0, none⟩), .pointer (some ⟨B, 0, none⟩), .pointer (some ⟨B + 2, 0, none⟩)] (fun x : St9 => .string x.1) (fun r => r = B) (fun r => r = B \/ r = B + 1 \/ r = B + 2)
  (fun xs => xs.map (fun x => ls x.1) = z3b 46 (ls s)) (fun pre => pre.map (fun x => ls x.1) <+: z3b 46 (ls s)) (z3b 46 (ls s)).length W0 := by
 intro l J Jx hJ hJx hY h0
 refine callsIn_of_wp Tryz.func191 rfl trivial ?_ rfl
 simp only [Tryz.ntmps191, List.size_toArray, List.length_cons, List.length_nil, Nat.reduceAdd, Nat.reduceSub, Array.replicate_succ, Array.replicate_zero, List.push_toArray, List.append_toArray, List.nil_append, List.cons_append]
 have cB := h1.cell
 have cS := h2.cell
 have len : ∀ (pre : List St9) (r : ByteArray), pre.map (fun x : St9 => ls x.1) ++ z3b 46 (ls r) = z3b 46 (ls s) -> pre.length < (z3b 46 (ls s)).length := by
  intro pre r h
  have := z3d 46 (ls r)
  have e := congrArg List.length h
  rw [List.length_append, List.length_map] at e
  omega
 gi_wp2
 gi_loopw [7, 8] (fun i f wr => ∃ (pre : List St9) (r : ByteArray), r.size <= 1000000000 /\ Hid (pre.map (fun x : St9 => ls x.1) ++ z3b 46 (ls r) = z3b 46 (ls s)) /\ J pre wr /\ Boxed wr B 9 (.string r) /\ Boxed wr (B + 1) 9 (.string ⟨#[46]⟩) /\ Boxed wr (B + 2) 3 (.int .i64 0))
  (fun _ _ wr => z25 B wr)
 case atStart => exact ⟨[], s, hs, jL rfl, h0, h1, h2, h3⟩
 case round =>
  obtain ⟨pre, r, hr, HP, hj, b1, b2, b3⟩ := hrel
  have k1 := b1.cell
  have k2 := b2.cell
  have k3 := b3.cell
  have f1 := b1.frozen
  rcases z21 (ls r) with ⟨hi, hno⟩ | ⟨x, q, hxq, hno, hi⟩
  ·have ci := fun W => z22 r W
   simp only [hi] at ci
   obtain ⟨fn, tmps, assign, body, hy, hR⟩ := hY pre ⟨r, hr⟩ wr hj (len pre r HP.out)
   dsimp only at hy
   gi_wp2_with fail
   refine ⟨trivial, (fun h => by cases h), ?_⟩
   refine (callsIn_wide.2 (ci _)).mono ?_
   rintro e w1 ⟨rfl, rfl⟩
   gi_wp2
   refine ⟨(fun h => by cases h), ?_⟩
   refine hR.mono ?_
   have hfin : (pre ++ [(⟨r, hr⟩ : St9)]).map (fun x : St9 => ls x.1) = z3b 46 (ls s) := by rw [<- HP.out, z3j 46 _ hno, List.map_append]; rfl
   rintro e W3 (⟨rfl, hJ3, hk3, _⟩ | ⟨rfl, hJx3⟩)
   ·gi_wp2
    go_end0
    exact ⟨⟨_, rfl⟩, .inl ⟨_, hfin, hJ3⟩⟩
   ·gi_wp2
    go_end0
    exact ⟨⟨_, rfl⟩, .inr ⟨_, hfin ▸ List.prefix_refl _, hJx3⟩⟩
  ·have ci := fun W => z22 r W
   simp only [hi] at ci
   have hxr : x.length < r.size := by rw [<- zb4, hxq]; simp
   have ht0 : decide ((x.length : Int) < 0) = false := jF (by omega)
   have hm : (0 : Nat) <= x.length := Nat.zero_le _
   have e1 : ls (r.extract 0 x.length) = x := by rw [zb9, hxq]; simp
   have e2 : ls (r.extract (x.length + 1) r.size) = q := by rw [z24, hxq]; simp
   have z1 : (r.extract 0 x.length).size <= 1000000000 := by rw [<- zb4, e1]; omega
   have z2 : (r.extract (x.length + 1) r.size).size <= 1000000000 := by rw [<- zb4, e2]; have := zb4 r; rw [hxq] at this; simp at this; omega
   have z3 : (r.extract (x.length + 1) r.size).size + 1 < r.size + 1 := by rw [<- zb4, e2]; have := zb4 r; rw [hxq] at this; simp at this; omega
   obtain ⟨fn, tmps, assign, body, hy, hR⟩ := hY pre ⟨r.extract 0 x.length, z1⟩ wr hj (len pre r HP.out)
   dsimp only at hy
   have hnext : (pre ++ [(⟨r.extract 0 x.length, z1⟩ : St9)]).map (fun x : St9 => ls x.1) ++ z3b 46 (ls (r.extract (x.length + 1) r.size)) = z3b 46 (ls s) := by
    rw [<- HP.out, e2, hxq, z3i 46 x q hno, List.map_append, List.append_assoc]
    show _ ++ ([ls (r.extract 0 x.length)] ++ _) = _
    rw [e1]
    rfl
   have HN := jL hnext
   have hpre : (pre ++ [(⟨r.extract 0 x.length, z1⟩ : St9)]).map (fun x : St9 => ls x.1) <+: z3b 46 (ls s) := ⟨_, hnext⟩
   have hl9 : x.length + 1 <= r.size := by omega
   clear hnext hxq e1 e2 hi hno
   gi_wp2_with fail
   refine ⟨trivial, (fun h => by cases h), ?_⟩
   refine (callsIn_wide.2 (ci _)).mono ?_
   rintro e w1 ⟨rfl, rfl⟩
   gi_wp2
   refine ⟨(fun h => by cases h), ?_⟩
   refine hR.mono ?_
   rintro e W3 (⟨rfl, hJ3, hk3, _⟩ | ⟨rfl, hJx3⟩)
   ·have HL := jL (z26 b1)
    replace b1 := z27 b1 hk3 (.inl rfl)
    replace b2 := z27 b2 hk3 (.inr (.inl rfl))
    replace b3 := z27 b3 hk3 (.inr (.inr rfl))
    replace k1 := b1.cell
    replace k2 := b2.cell
    replace f1 := b1.frozen
    clear k3
    gi_wp2
    go_roundw
    case rel => exact ⟨_, r.extract (x.length + 1) r.size, z2, HN, hJ _ _ _ (some B) hJ3 (grownBy_setCell' _ _ _) (fun r e => by cases e; rfl), b1.set _, z28 b2 (by omega), z28 b3 (by omega)⟩
    case measure => rw [z26 (b1.set _), HL.out]; exact z3
   ·gi_wp2
    refine bodyPost_ret (results_none rfl _ _ _) rfl ?_
    exact ⟨⟨_, rfl⟩, .inr ⟨_, hpre, hJx3⟩⟩
end

section
open Go.RowKit
set_option maxHeartbeats 16000000
def puE (l : List UInt8) : Nat := match zye l with
 | .ok _ => 0
 | .error c => c
def puV (l : List UInt8) : List Nat := match zye l with
 | .ok p => p
 | .error _ => []
theorem z0f {l : List UInt8} {c : Nat} (h : zye l = .error c) : puE l = c /\ puV l = [] := by unfold puE puV; rw [h]; exact ⟨rfl, rfl⟩
theorem z0g {l p : List _} (h : zye l = .ok p) : puE l = 0 /\ puV l = p := by unfold puE puV; rw [h]; exact ⟨rfl, rfl⟩
abbrev nvI (n : Nat) : Value := .int .i64 (n : Int)
def z0h (l : List UInt8) (w : World) (e : Ending) (w' : World) : Prop := (∃ v, e = .returned (.tuple #[v, .int .i64 (puE l : Nat)]) /\ w'.ownsRow w.heap.size 3 1 v (puV l).length ((puV l).map nvI)) /\ Below w.heap.size w w'
theorem z0h.err {l : List UInt8} {w w' : World} {c : Nat} (h : zye l = .error c) (hb : Below w.heap.size w w') : z0h l w (.returned (.tuple #[.slice none 0 0, .int .i64 (c : Int)])) w' := by
 obtain ⟨h1, h2⟩ := z0f h
 refine ⟨⟨_, by rw [h1], ?_⟩, hb⟩
 rw [h2]
 exact World.ownsRow_nil _ _ _ _
theorem z0h.ok {l : List UInt8} {p : List Nat} {w w' : World} {v : Value} (h : zye l = .ok p) (ho : w'.ownsRow w.heap.size 3 1 v p.length (p.map nvI)) (hb : Below w.heap.size w w') : z0h l w (.returned (.tuple #[v, .int .i64 0])) w' := by
 obtain ⟨h1, h2⟩ := z0g h
 refine ⟨⟨v, by rw [h1]; rfl, ?_⟩, hb⟩
 rw [h2]
 exact ho
theorem z0i : Tryz.prog.underlying 108 = some (.slice 3) := by kernel_rfl
theorem z0j : (Tryz.prog.info? 3).map (fun i => (i.zero, i.size, i.bytes)) = some (some (.int .i64 0), 1, 8) := by kernel_rfl
end

section
open Go.RowKit
set_option maxHeartbeats 16000000
structure InZ (w : World) (B : Nat) (A : Option Addr) (len cap : Nat) (Z : List Int) : Prop where
 has : Has w B A len (Z.map (Value.int .i64))
 le : len <= cap
 room : cap <= maxLen
 nil : A = none -> cap = 0
 wf : ∀ z ∈ Z, -9223372036854775808 <= z /\ z <= 9223372036854775807
theorem InZ.len {w : World} {B len cap : Nat} {A : Option Addr} {Z : List Int} (h : InZ w B A len cap Z) : len = Z.length := by have := h.has.1; simpa using this.symm
theorem InZ.below {w w' : World} {B B' len cap : Nat} {A : Option Addr} {Z : List Int} (h : InZ w B A len cap Z) (hb : Below B' w w') (hB : B <= B') : InZ w' B A len cap Z := ⟨h.has.below' hb hB, h.le, h.room, h.nil, h.wf⟩
theorem InZ.more {w : World} {B B' len cap : Nat} {A : Option Addr} {Z : List Int} (h : InZ w B A len cap Z) (hB : B <= B') : InZ w B' A len cap Z := ⟨h.has.more hB, h.le, h.room, h.nil, h.wf⟩
def zx1 (F : FuncId) : Prop := ∀ (Z : List Int) (A : Option Addr) (len cap B : Nat) (w : World), InZ w B A len cap Z -> B <= w.heap.size -> Z.length <= 1000000 ->
 Calls Tryz.prog F #[.slice A len cap] w fun e w' => e = .returned (.tuple #[.string (bs (zyt Z).2), .int .i64 ((zyt Z).1 : Nat)]) /\ Below w.heap.size w w'
def zx2 (F : FuncId) : Prop := ∀ (s : ByteArray) (w : World), s.size <= 1000000000 -> Calls Tryz.prog F #[.string s] w (z0h (ls s) w)
theorem zx3 {w : World} {base n : Nat} {v : Value} {Z : List Int} (h : w.ownsRow base 3 1 v n (Z.map (Value.int .i64))) (hw : ∀ z ∈ Z, -9223372036854775808 <= z /\ z <= 9223372036854775807) :
 ∃ A c, v = .slice A n c /\ InZ w w.heap.size A n c Z := by
 obtain ⟨A, c, rfl, hh, hle⟩ := Has.of_own h
 refine ⟨A, c, rfl, hh, hle, ?_, zap h, hw⟩
 rcases h.2 with ⟨e, _⟩ | ⟨g, cap, cur, e, _, _, _, hm, _⟩
 ·injection e with _ _ e3
  subst e3
  exact Nat.zero_le _
 ·injection e with _ _ e3
  subst e3
  exact hm
theorem zx4 {p : Nat} (h : p <= 1114111) : -9223372036854775808 <= (p : Int) /\ (p : Int) <= 9223372036854775807 := by omega
theorem zx5 (P : List Nat) : P.map nvI = (P.map (fun n : Nat => (n : Int))).map (Value.int .i64) := by rw [List.map_map]; rfl
end

section
open Go.RowKit
set_option maxHeartbeats 16000000
def zsy (F : FuncId) : Prop := ∀ (s : ByteArray) (w : World), s.size <= 1000000000 -> Calls Tryz.prog F #[.string s] w fun e w' => e = .returned (.bool (zs4 (ls s))) /\ Below w.heap.size w w'
def zsz (F : FuncId) : Prop := ∀ (s : ByteArray) (w : World), s.size <= 1000000000 -> U8 w -> Calls Tryz.prog F #[.string s] w fun e w' => e = .returned (.tuple #[.string (bs (toA (ls s)).2), .int .i64 ((toA (ls s)).1 : Nat)]) /\ Below w.heap.size w w'
def zs0 (F : FuncId) : Prop := ∀ (s : ByteArray) (w : World), s.size <= 1000000000 -> Calls Tryz.prog F #[.string s] w fun e w' => e = .returned (.tuple #[.string (bs (toU (ls s)).2), .int .i64 ((toU (ls s)).1 : Nat)]) /\ Below w.heap.size w w'
end

section
open Go.RowKit Go.Shelf
set_option maxHeartbeats 16000000
attribute [local go_sem] Oper.semAt_some
def zd1 (F : FuncId) : Prop := ∀ (s : ByteArray) (w : World), s.size <= 1000000000 -> Calls Tryz.prog F #[.string s] w fun e w' => e = .returned (.bool (zqk (ls s))) /\ Below w.heap.size w w'
def zd2 (F : FuncId) : Prop := ∀ (s : ByteArray) (w : World), s.size <= 1000000000 -> Calls Tryz.prog F #[.string s] w fun e w' => e = .returned (.int .i64 (ziz (ls s) : Nat)) /\ Below w.heap.size w w'
def zd3 (F : FuncId) : Prop := ∀ (s : ByteArray) (w : World), s.size <= 1000000000 -> Calls Tryz.prog F #[.string s] w fun e w' => e = .returned (.bool (vnL (ls s))) /\ Below w.heap.size w w'
def zd4 (F : FuncId) : Prop := ∀ (s t : ByteArray) (w : World), s.size <= 1000000000 -> t.size <= 1000000000 -> Calls Tryz.prog F #[.string s, .string t] w fun e w' => e = .returned (.bool (ziy (ls s) (ls t))) /\ Below w.heap.size w w'
theorem zd5 {l : List UInt8} (h : 253 < l.length) : ziz l = 0 := by
 unfold ziz
 rw [if_neg]
 intro hv
 have := ((zhk l).1 hv).len
 omega
theorem zd6 {l : List UInt8} (h : zqk l = true) : ziz l = 0 := by
 unfold ziz
 rw [if_neg]
 intro hv
 have := ((zhk l).1 hv).num
 rw [h] at this
 cases this
theorem zd7 {l x : List UInt8} (h : x ∈ z3b 46 l) (hx : zs4 x = false) : ziz l = 0 := by
 unfold ziz
 rw [if_neg]
 intro hv
 have := ((zhk l).1 hv).lab x h
 rw [hx] at this
 cases this
theorem zd8 {l : List UInt8} (h1 : l.length <= 253) (h2 : zqk l = false) (h3 : ∀ x ∈ z3b 46 l, zs4 x = true) : ziz l = (z3b 46 l).length := by
 unfold ziz
 rw [if_pos]
 refine (zhk l).2 ⟨?_, h1, h2, h3⟩
 rintro rfl
 have := h3 [] (by decide)
 cases this
theorem zd9 (l : List UInt8) : decide ((0 : Int) < (ziz l : Nat)) = vnL l := by
 unfold ziz
 cases h : vnL l with
 | true =>
   rw [if_pos rfl]
   have := z3d 46 l
   exact jT (by omega)
 | false =>
   rw [if_neg (by simp)]
   rfl
set_option maxRecDepth 100000 in
theorem zea (hN : zd1 111) (hV : zsy 125) : zd2 94 := by
 intro s w hs
 have cN := fun W => hN s W hs
 by_cases h1 : 253 < s.size
 ·have e0 : ziz (ls s) = 0 := zd5 (by rw [zb4]; exact h1)
  rw [e0]
  have hd : decide ((253 : Int) < (s.size : Int)) = true := jT (by omega)
  clear cN e0
  go_enter Tryz.func94, Tryz.ntmps94
  go_wp2
  have bx := (Boxed.new w 3 (.int .i64 0)).cell
  refine bodyPost_ret (v := .int .i64 0) ?_ rfl ⟨rfl, (Below.refl _ w).alloc jH _⟩
  simp [results, Tryz.f94, go_sem, bx]
 ·have hd : decide ((253 : Int) < (s.size : Int)) = false := jF (by omega)
  cases hq : zqk (ls s) with
  | true =>
    rw [hq] at cN
    rw [zd6 hq]
    clear hq
    go_enter Tryz.func94, Tryz.ntmps94
    go_wp2_with fail
    refine (cN _).mono ?_
    rintro e w1 ⟨rfl, hb1⟩
    have bR : Boxed w1 w.heap.size 3 (.int .i64 0) := (hb1.block _ (by simp)).trans (Boxed.new w 3 (.int .i64 0))
    have hb0 : Below w.heap.size w w1 := ((Below.refl _ w).alloc jH _).trans (hb1.mono (by rw [World.size_alloc]; omega))
    have k1 := bR.cell
    have f1 := bR.frozen
    go_wp2
    have bx := (bR.set (.int .i64 0)).cell
    refine bodyPost_ret (v := .int .i64 0) ?_ rfl ⟨rfl, hb0.setCell (p := ⟨w.heap.size, 0, none⟩) jH _⟩
    simp [results, Tryz.f94, go_sem, bx]
  | false =>
    rw [hq] at cN
    refine (callsIn_wide (n := 3)).1 ?_
    refine callsIn_of_wp_marks Tryz.func94 rfl trivial ?_ rfl
    simp only [Tryz.ntmps94, List.size_toArray, List.length_cons, List.length_nil, Nat.reduceAdd, Nat.reduceSub, Array.replicate_succ, Array.replicate_zero, List.push_toArray, List.append_toArray, List.nil_append, List.cons_append]
    gi_wp2_with fail
    refine ⟨trivial, ?_⟩
    refine (callsIn_wide.2 (cN _)).mono ?_
    rintro e w1 ⟨rfl, hb1⟩
    have bR := (Boxed.new w 3 (.int .i64 0))
    gi_wp2_with fail
    refine ⟨trivial, ?_⟩
    refine (callsIn_wide.2 (z23 s _)).mono ?_
    rintro e w2 ⟨rfl, rfl⟩
    gi_wp2_with fail
    obtain ⟨B0, hB0⟩ : ∃ b, b = w.heap.size := ⟨_, rfl⟩
    obtain ⟨Bc, hBc⟩ : ∃ b, b = w1.heap.size := ⟨_, rfl⟩
    have hlt : B0 < Bc := by have := hb1.size; rw [World.size_alloc] at this; omega
    have hb0 : Below w.heap.size w w1 := ((Below.refl _ w).alloc jH _).trans (hb1.mono (by rw [World.size_alloc]; omega))
    have r1 : Boxed w1 B0 3 (.int .i64 0) := (hb1.block B0 (by rw [World.size_alloc]; omega)).trans (by rw [hB0]; exact bR)
    have q1 := Boxed.new w1 3 (.int .i64 0)
    have q2 := Boxed.new (w1.alloc (.cells #[.int .i64 0] 3)) 9 (.string s)
    have q3 := Boxed.new ((w1.alloc (.cells #[.int .i64 0] 3)).alloc (.cells #[.string s] 9)) 9 (.string ⟨#[46]⟩)
    have q4 := Boxed.new (((w1.alloc (.cells #[.int .i64 0] 3)).alloc (.cells #[.string s] 9)).alloc (.cells #[.string ⟨#[46]⟩] 9)) 3 (.int .i64 0)
    simp only [World.size_alloc] at q1 q2 q3 q4
    obtain ⟨W3, hW3⟩ : ∃ W, W = (((w1.alloc (.cells #[.int .i64 0] 3)).alloc (.cells #[.string s] 9)).alloc (.cells #[.string ⟨#[46]⟩] 9)).alloc (.cells #[.int .i64 0] 3) := ⟨_, rfl⟩
    rw [<- hW3]
    have hb3 : Below w.heap.size w W3 := by
     rw [hW3]
     exact (((hb0.alloc hb0.size _).alloc (by simp; omega) _).alloc (by simp; omega) _).alloc (by simp; omega) _
    have hz3 : W3.heap.size = Bc + 4 := by rw [hW3, hBc]; simp
    have r3 : Boxed W3 B0 3 (.int .i64 0) := by rw [hW3]; exact (((r1.alloc _).alloc _).alloc _).alloc _
    have c3 : Boxed W3 Bc 3 (.int .i64 0) := by rw [hW3, hBc]; exact ((q1.alloc _).alloc _).alloc _
    have s3 : Boxed W3 (Bc + 1) 9 (.string s) := by rw [hW3, hBc]; exact (q2.alloc _).alloc _
    have d3 : Boxed W3 (Bc + 1 + 1) 9 (.string ⟨#[46]⟩) := by rw [hW3, hBc]; exact q3.alloc _
    have v3 : Boxed W3 (Bc + 1 + 2) 3 (.int .i64 0) := by rw [hW3, hBc]; exact q4
    rw [<- hB0, <- hBc]
    clear hW3 q1 q2 q3 q4 r1 bR hb1 hBc hb0
    have HZ := jL hz3
    have HB := jL hB0
    have H1 := jL h1
    have HQ := jL hq
    refine z2f (α := St9) rfl (by decide) (gf := 191) (lb := #[.pointer (some ⟨Bc + 1 + 1, 0, none⟩), .pointer (some ⟨Bc + 1, 0, none⟩), .pointer (some ⟨Bc + 1 + 2, 0, none⟩)]) rfl trivial (enters_of Tryz.func191 (by kernel_rfl) rfl)
     (enc := fun x : St9 => .string x.1) (Al := fun r => r = Bc + 1) (Kr := fun r => r = Bc + 1 \/ r = Bc + 1 + 1 \/ r = Bc + 1 + 2) (S := fun xs => xs.map (fun x => ls x.1) = z3b 46 (ls s)) (Sp := fun pre => pre.map (fun x => ls x.1) <+: z3b 46 (ls s)) (N := (z3b 46 (ls s)).length)
     (fun r h => by omega) (fun r h => by omega) (fun W0 hg => z29 _ (Bc + 1) s hs W0 (s3.kept hg (by simp)) (d3.kept hg (by simp)) (v3.kept hg (by simp))) rfl
     (fun pre W => Boxed W B0 3 (.int .i64 0) /\ Boxed W Bc 3 (.int .i64 (pre.length : Nat)) /\ (∀ x ∈ pre, zs4 (ls x.1) = true) /\ Below w.heap.size w W)
     (fun c pre W => c = .ret /\ (∃ x ∈ pre, zs4 (ls x.1) = false) /\ Boxed W B0 3 (.int .i64 0) /\ Below w.heap.size w W)
     ((z2e B0 3 (fun _ => .int .i64 0) (by show ¬ (_ = _); omega)).and ((z2e Bc 3 (fun pre : List St9 => .int .i64 (pre.length : Nat)) (by show ¬ (_ = _); omega)).and ((z2c _).and (z2d jH (by omega) (fun r h => by omega)))))
     (fun c => (z2c _).and ((z2c _).and ((z2e B0 3 (fun _ => .int .i64 0) (by show ¬ (_ = _); omega)).and (z2d jH (by omega) (fun r h => by omega)))))
     ⟨r3, c3, (fun x hx => by cases hx), hb3⟩
     (fun x => { tmps := #[.string s, undef, .pointer (some ⟨B0, 0, none⟩), .pointer (some ⟨Bc, 0, none⟩), .string x.1, .string s, .int .i64 s.size, .bool false, .bool false, .string s, .bool false, .bool false, .string s,
       .func (.func 191) #[] #[.pointer (some ⟨Bc + 1 + 1, 0, none⟩), .pointer (some ⟨Bc + 1, 0, none⟩), .pointer (some ⟨Bc + 1 + 2, 0, none⟩)], .string x.1, undef, undef, undef, undef, undef, undef], defers := [] }) ?assign ?body ?done ?stop
    case assign =>
     intro l x W K hK
     clear hz3 hB0 cN hd h1 hq
     gi_wp2
     exact hK
    case body =>
     rintro l pre x W hl1 hl2 ⟨b1, b2, hp, hB⟩ hN9
     have HW : Hid (wrap64 ((pre.length : Int) + 1) = (((pre ++ [x]).length : Nat) : Int)) := by
      show _ = _
      have := z3f 46 (ls s)
      rw [zb4] at this
      rw [List.length_append, List.length_singleton]
      unfold wrap64
      omega
     clear hN9
     have c := hV x.1 W x.2
     clear hz3 hB0 cN hd h1 hq hb3 r3 c3 s3 d3 v3
     obtain ⟨q, hq2⟩ : ∃ q, q = zs4 (ls x.1) := ⟨_, rfl⟩
     rw [<- hq2] at c
     gi_wp2_with fail
     refine ⟨trivial, ?_⟩
     refine (CallsIn.inRound l (callsIn_wide.2 c)).mono ?_
     rintro e w4 ⟨rfl, hb4⟩
     replace b1 : Boxed w4 B0 3 (.int .i64 0) := (hb4.block _ b1.lt).trans b1
     replace b2 : Boxed w4 Bc 3 (.int .i64 (pre.length : Nat)) := (hb4.block _ b2.lt).trans b2
     have hB4 := hB.trans (hb4.mono hB.size)
     have hk4 : KeepsFrom W3.heap.size W w4 := ⟨hb4.size, fun k o _ hk _ => (hb4.block k (Array.getElem?_eq_some_iff.1 hk).1).trans hk⟩
     have hs4 : z18 (fun r => r = Bc + 1 \/ r = Bc + 1 + 1 \/ r = Bc + 1 + 2) W w4 := fun r h => hb4.block r (by have := HZ.out; omega)
     have k1 := b1.cell
     have k2 := b2.cell
     have f1 := b1.frozen
     have f2 := b2.frozen
     have HX := jL hq2
     clear hq2
     cases q with
     | false =>
       gi_wp2
       exact ⟨hk4.trans ((KeepsOthers.setCell _ _ _).from _), rfl, ⟨x, by simp, HX.out.symm⟩, b1.set _, hB4.setCell (p := ⟨B0, 0, none⟩) (by show w.heap.size <= B0; have := HB.out; omega) _⟩
     | true =>
       gi_wp2
       refine ⟨hk4.trans ((KeepsOthers.setCell _ _ _).from _), fun r h => (Below.heap_setCell _ _ _ r (by show r ≠ Bc; omega)).trans (hs4 r h), z28 b1 (by omega), ?_, ?_, hB4.setCell (p := ⟨Bc, 0, none⟩) (by show w.heap.size <= Bc; have := HB.out; omega) _⟩
       ·rw [HW.out]
        exact b2.set _
       ·intro y hy
        rcases List.mem_append.1 hy with hy | hy
        ·exact hp y hy
        ·simp at hy
         rw [hy]
         exact HX.out.symm
    case done =>
     rintro D xs W hD hS ⟨b1, b2, hp, hB⟩ hK
     have k1 := b1.cell
     have k2 := b2.cell
     have f1 := b1.frozen
     clear hz3 hB0 cN hd h1 hq hb3 r3 c3 s3 d3 v3
     gi_wp2
     have b3 := b1.set (.int .i64 (xs.length : Nat))
     have hK2 := (KeepsOthers.setCell W ⟨B0, 0, none⟩ (.int .i64 (xs.length : Nat))).same D _ hK rfl
     refine ⟨by simp, .inl ⟨_, _, rfl, run_takeDeferred hK2, ?_⟩⟩
     have hc5 := cell_kept b3.cell (grownBy_putObj' _ D (.deferred none)) (fun r e => by cases e; exact ⟨_, hK2, rfl⟩)
     have hlen : ziz (ls s) = xs.length := by
      rw [zd8 (by rw [zb4]; have := H1.out; omega) HQ.out, <- hS, List.length_map]
      intro y hy
      rw [<- hS] at hy
      obtain ⟨z, hz, rfl⟩ := List.mem_map.1 hy
      exact hp z hz
     refine ⟨.int .i64 (xs.length : Nat), ?_, by rw [hlen], (hB.setCell (p := ⟨B0, 0, none⟩) (by show w.heap.size <= B0; have := HB.out; omega) _).trans (belowK_b (w := w) jH _ D _ _ (by have := HZ.out; have := HB.out; omega) hK2 rfl rfl)⟩
     simp [results, Tryz.f94, go_sem, hc5]
    case stop =>
     rintro D c pre W hD hpre ⟨rfl, ⟨x, hx, hbad⟩, b1, hB⟩ hK
     clear hz3 hB0 cN hd h1 hq hb3 r3 c3 s3 d3 v3
     gi_wp2
     refine ⟨by simp, .inl ⟨_, _, rfl, run_takeDeferred hK, ?_⟩⟩
     have hc5 := cell_kept b1.cell (grownBy_putObj' _ D (.deferred none)) (fun r e => by cases e; exact ⟨_, hK, rfl⟩)
     have hlen : ziz (ls s) = 0 := zd7 (hpre.subset (List.mem_map.2 ⟨x, hx, rfl⟩)) hbad
     refine ⟨.int .i64 0, ?_, by rw [hlen]; rfl, hB.trans (belowK_b (w := w) jH W D _ _ (by have := HZ.out; have := HB.out; omega) hK rfl rfl)⟩
     simp [results, Tryz.f94, go_sem, hc5]
theorem zeb (hL : zd2 94) : zd3 64 := by
 intro s w hs
 have c := hL s w hs
 have e := zd9 (ls s)
 obtain ⟨q, hq⟩ : ∃ q, q = vnL (ls s) := ⟨_, rfl⟩
 obtain ⟨n, hn⟩ : ∃ n, n = ziz (ls s) := ⟨_, rfl⟩
 rw [<- hq] at e ⊢
 rw [<- hn] at c e
 clear hq hn
 go_enter Tryz.func64, Tryz.ntmps64
 go_wp2_with fail
 refine c.mono ?_
 rintro r w1 ⟨rfl, hb⟩
 go_wp2
 go_ret
 exact ⟨zbx (by rw [<- e]; exact decide_eq_decide.2 (by omega)), hb⟩
theorem zec (s : ByteArray) (p : List UInt8) : Lib.hasSuffix s.data.toList p = p.isSuffixOf (ls s) := rfl
theorem zed (hV : zd3 64) : zd4 44 := by
 intro s t w hs ht
 have c1 := hV s w hs
 have c2 := fun W => hV t W ht
 have c3 : ∀ W, Calls Tryz.prog 67 #[.string t, .string ((⟨#[46]⟩ : ByteArray) ++ s)] W fun e w' => e = .returned (.bool ((46 :: ls s).isSuffixOf (ls t))) /\ w' = W := by
  intro W
  have c := Any.strings_HasSuffix Tryz.lays100 t ((⟨#[46]⟩ : ByteArray) ++ s) W (by omega)
  have e : ((⟨#[46]⟩ : ByteArray) ++ s).data.toList = 46 :: ls s := by
   have := zb6 ⟨#[46]⟩ s
   exact this
  rw [zec, e] at c
  exact c
 unfold ziy
 have e1 : (s.toList == t.toList) = decide (ls s = ls t) := by rw [zb3, zb3]; exact Bool.eq_iff_iff.2 (by simp)
 obtain ⟨q1, h1⟩ : ∃ q, q = vnL (ls s) := ⟨_, rfl⟩
 obtain ⟨q2, h2⟩ : ∃ q, q = vnL (ls t) := ⟨_, rfl⟩
 obtain ⟨q3, h3⟩ : ∃ q, q = decide (ls s = ls t) := ⟨_, rfl⟩
 obtain ⟨q4, h4⟩ : ∃ q, q = (46 :: ls s).isSuffixOf (ls t) := ⟨_, rfl⟩
 rw [<- h1] at c1 ⊢
 simp only [<- h2] at c2 ⊢
 rw [<- h3] at e1 ⊢
 simp only [<- h4] at c3 ⊢
 clear h1 h2 h3 h4
 go_enter Tryz.func44, Tryz.ntmps44
 go_wp2_with fail
 refine c1.mono ?_
 rintro r w1 ⟨rfl, hb⟩
 cases q1 with
 | false =>
   go_wp2
   go_ret
   exact ⟨rfl, hb⟩
 | true =>
   go_wp2_with fail
   refine (c2 _).mono ?_
   rintro r w2 ⟨rfl, hb2⟩
   replace hb2 := hb.trans (hb2.mono hb.size)
   cases q2 with
   | false =>
     go_wp2
     go_ret
     exact ⟨rfl, hb2⟩
   | true =>
     cases q3 with
     | true =>
       go_wp2
       go_ret
       exact ⟨rfl, hb2⟩
     | false =>
       go_wp2_with fail
       refine (c3 _).mono ?_
       rintro r w3 ⟨rfl, rfl⟩
       go_wp2
       go_ret
       exact ⟨by simp, hb2⟩
end

end Go.Proofs.YtekaljeicfjkjaaGreatDoor
