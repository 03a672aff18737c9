/-
Labels in plain words: canonical labels, ToASCII, ToUnicode, and their laws. No program.
Contract of strings.Clone.
The library's functions that label.Valid reaches.
strings.Index, strings.Cut at a text of one byte, and strings.SplitSeq: the iterator's contract.
Plain mathematics of package seconds (layer 4): no program.
IPv4 addresses in plain words: no program.
-/
import Derived.Test.YthoolifdmemceaaGreatDoorB06
import Derived.Test.YthoolifdmemceaaGreatDoorB02
import Derived.Test.YthoolifdmemceaaGreatDoorShelf
import Derived.Test.YthoolifdmemceaaGreatDoorB00
import Derived.Shelf.RegionOpen
import Derived.WalkKit
import Derived.OwnWalkIn
import Derived.TacticsInMore
import Derived.LoopNIn
import Derived.LoopIn
import Derived.Lib.ItoaNum
namespace Go.Proofs.YthoolifdmemceaaGreatDoor
section
open Go.RowKit

/-- The four bytes of 'xn--'. -/
def xnL : List UInt8 := [120, 110, 45, 45]
def okN (n : Nat) : Bool := (decide (97 ≤ n) && decide (n ≤ 122)) || (decide (48 ≤ n) && decide (n ≤ 57)) || n == 45 || n == 95
def bigP (p : Nat) : Bool := decide (65 ≤ p) && decide (p ≤ 90)
/-- Whether the rest behind 'xn--' is proper. -/
def propL (r : List UInt8) : Bool := match decL r with
  | .error _ => false
  | .ok p => p.any (fun x => decide (128 ≤ x)) && p.all (fun x => !bigP x) && decide (encB p = r)
def endsL (l : List UInt8) : Bool := decide (l ≠ []) && decide (l.length ≤ 63) && decide (l.head? ≠ some 45) && decide (l.getLast? ≠ some 45)
def labL (l : List UInt8) : Bool := endsL l && l.all (fun b => okN b.toNat) && (decide (l.take 4 ≠ xnL) || propL (l.drop 4))
def toAOut (l : List UInt8) (P : List Nat) : List UInt8 := if P.length < l.length then xnL ++ encB (P.map lowP) else lowL l
def toA (l : List UInt8) : Nat × List UInt8 := match ptsL l with
  | none => (4, [])
  | some P => if 256 < P.length then (3, []) else if labL (toAOut l P) = true then (0, toAOut l P) else (14, [])
def toUOut (l : List UInt8) : List UInt8 := if l.take 4 = xnL then txtL (puV' (l.drop 4)) else l
where puV' (r : List UInt8) : List Nat := match decL r with
  | .ok p => p
  | .error _ => []
def toU (l : List UInt8) : Nat × List UInt8 := if labL l = true then (0, toUOut l) else (14, [])

theorem okN_ascii {n : Nat} (h : okN n = true) : n < 128 ∧ ¬ (65 ≤ n ∧ n ≤ 90) := by
  unfold okN at h
  simp only [Bool.or_eq_true, Bool.and_eq_true, decide_eq_true_eq, beq_iff_eq] at h
  omega
theorem lab_all {l : List UInt8} (h : labL l = true) : (∀ b ∈ l, b.toNat < 128) ∧ lowL l = l ∧ l.length ≤ 63 := by
  unfold labL at h
  simp only [Bool.and_eq_true] at h
  have ha : ∀ b ∈ l, okN b.toNat = true := fun b hb => List.all_eq_true.1 h.1.2 b hb
  refine ⟨fun b hb => (okN_ascii (ha b hb)).1, ?_, ?_⟩
  · unfold lowL
    have : l.map lowU = l.map id := List.map_congr_left fun b hb => lowU_small (by have := (okN_ascii (ha b hb)).2; omega)
    rw [this, List.map_id]
  · have := h.1.1
    unfold endsL at this
    simp only [Bool.and_eq_true, decide_eq_true_eq] at this
    omega
theorem lab_prop {l : List UInt8} (h : labL l = true) (hx : l.take 4 = xnL) : propL (l.drop 4) = true := by
  unfold labL at h
  simp only [Bool.and_eq_true, Bool.or_eq_true, decide_eq_true_eq] at h
  rcases h.2 with h | h
  · exact absurd hx h
  · exact h
theorem prop_of {r : List UInt8} (h : propL r = true) : ∃ p, decL r = .ok p ∧ (∀ x ∈ p, ptN x = true) ∧ p.length ≤ 256 ∧ (∃ x ∈ p, 128 ≤ x) ∧ p.map lowP = p ∧ encB p = r := by
  unfold propL at h
  cases hd : decL r with
  | error e => rw [hd] at h; cases h
  | ok p =>
    rw [hd] at h
    simp only [Bool.and_eq_true, decide_eq_true_eq] at h
    obtain ⟨⟨h1, h2⟩, h3⟩ := h
    obtain ⟨e1, e2, _, _⟩ := enc_dec hd
    refine ⟨p, rfl, e1, e2, ?_, ?_, h3⟩
    · obtain ⟨x, hx, hy⟩ := List.any_eq_true.1 h1
      exact ⟨x, hx, of_decide_eq_true hy⟩
    · have : p.map lowP = p.map id := List.map_congr_left fun x hx => by
        have := List.all_eq_true.1 h2 x hx
        unfold bigP at this
        unfold lowP
        rw [if_neg]
        · rfl
        · rintro ⟨a, b⟩
          rw [decide_eq_true a, decide_eq_true b] at this
          cases this
      rw [this, List.map_id]
theorem toA_lab {a : List UInt8} (h : labL a = true) : toA a = (0, a) := by
  obtain ⟨h1, h2, h3⟩ := lab_all h
  unfold toA
  rw [pts_ascii h1]
  have e : toAOut a (a.map UInt8.toNat) = a := by unfold toAOut; rw [if_neg (by rw [List.length_map]; omega), h2]
  simp only [e]
  rw [if_neg (by rw [List.length_map]; omega), if_pos h]
/-- ToASCII restores a canonical label from its Unicode form. -/
theorem toA_toU {l : List UInt8} (h : labL l = true) : toA (toU l).2 = (0, l) := by
  have e : (toU l).2 = toUOut l := by unfold toU; rw [if_pos h]
  rw [e]
  by_cases hx : l.take 4 = xnL
  · obtain ⟨p, hd, hp, hl, hn, hlow, henc⟩ := prop_of (lab_prop h hx)
    have e2 : toUOut l = txtL p := by unfold toUOut toUOut.puV'; rw [if_pos hx, hd]
    have e3 : toAOut (txtL p) p = l := by
      unfold toAOut
      rw [if_pos ((txtL_len p).2.1 hn), hlow, henc, ← hx, List.take_append_drop]
    rw [e2]
    unfold toA
    rw [pts_txt p hp]
    simp only [e3]
    rw [if_neg (by omega), if_pos h]
  · have e2 : toUOut l = l := by unfold toUOut; rw [if_neg hx]
    rw [e2]
    exact toA_lab h
theorem toA_low (l : List UInt8) : toA (lowL l) = toA l := by
  unfold toA
  rw [pts_low]
  cases ptsL l with
  | none => rfl
  | some P =>
    have e : toAOut (lowL l) (P.map lowP) = toAOut l P := by
      unfold toAOut
      rw [List.length_map, lowL_length, lowP_map, lowL_lowL]
    simp only [Option.map_some, e, List.length_map]
theorem toA_cases (l : List UInt8) : (toA l).1 = 0 ∧ labL (toA l).2 = true ∨ (toA l).1 ≠ 0 ∧ (toA l).2 = [] := by
  unfold toA
  cases ptsL l with
  | none => exact .inr ⟨(fun e => by cases e), rfl⟩
  | some P =>
    simp only []
    split
    · exact .inr ⟨by decide, rfl⟩
    · split
      · rename_i h; exact .inl ⟨rfl, h⟩
      · exact .inr ⟨by decide, rfl⟩
theorem toU_inj {a b : List UInt8} (ha : labL a = true) (hb : labL b = true) (h : (toU a).2 = (toU b).2) : a = b := by
  have h1 := toA_toU ha
  rw [h, toA_toU hb] at h1
  exact (Prod.mk.inj h1).2.symm
theorem toU_cases (l : List UInt8) : labL l = true ∧ (toU l).1 = 0 ∨ labL l = false ∧ toU l = (14, []) := by
  unfold toU
  by_cases h : labL l = true
  · rw [if_pos h]; exact .inl ⟨h, rfl⟩
  · rw [if_neg h]; exact .inr ⟨by simpa using h, rfl⟩
theorem toU_len {l : List UInt8} : (toU l).2.length ≤ 1024 := by
  unfold toU
  split
  · rename_i h
    obtain ⟨_, _, h3⟩ := lab_all h
    unfold toUOut
    split
    · rename_i hx
      obtain ⟨p, hd, hp, hl, _⟩ := prop_of (lab_prop h hx)
      unfold toUOut.puV'
      rw [hd]
      have : ∀ (P : List Nat), (txtL P).length ≤ 4 * P.length := by
        intro P
        induction P with
        | nil => exact Nat.le_refl _
        | cons q P ih =>
          have e : (txtL (q :: P)).length = (txt8 q).length + (txtL P).length := by
            show (txt8 q ++ txtL P).length = _
            rw [List.length_append]
          have := (txt8_len q).2.2.2
          rw [e, List.length_cons]
          omega
      have := this p
      show (txtL p).length ≤ 1024
      omega
    · show l.length ≤ 1024
      omega
  · exact Nat.zero_le _
end

section
open Go.RowKit Go.Shelf

theorem cl_any (s : ByteArray) (w : World) (hs : s.size ≤ 1000000000) :
    Calls Tryz.prog 59 #[.string s] w fun e w' => e = .returned (.string s) ∧ Below w.heap.size w w' := by
  have c : Calls Tryz.prog 73 #[.string s] w fun e w' => e = .returned (.string s) ∧ Below w.heap.size w w' := Any.stringslite_Clone Tryz.laysM316 s w (by omega)
  clear hs
  go_enter Tryz.func59, Tryz.ntmps59
  go_wp2_with (go_at_call 73; refine c.mono ?_; rintro e w1 ⟨rfl, hb⟩)
  go_ret
  exact ⟨rfl, hb⟩
end

section
open Go.RowKit

theorem ar_any {w0 w : World} {B n p : Nat} {v : Value} {l : List UInt8} (hp : ptN p = true) (hown : w.ownsRow B 5 1 v n (l.map bv)) (hn : n ≤ 1000000000) (hb : Below B w0 w) (hB : B ≤ w0.heap.size) :
    Calls Tryz.prog 79 #[v, .int .i32 (p : Int)] w fun e w' => ∃ v', e = .returned v' ∧ w'.ownsRow B 5 1 v' (n + (txt8 p).length) ((l ++ txt8 p).map bv) ∧ Below B w0 w' := by
  have hbw : B ≤ w.heap.size := Nat.le_trans hB hb.size
  have hle := ptN_le hp
  have c : Calls Tryz.prog 79 #[v, .int .i32 (p : Int)] w fun e w' => ∃ v', e = .returned v' ∧ w'.ownsRow B 5 1 v' (n + (Lib.runeCells (p : Int)).length) (l.map bv ++ Lib.runeCells (p : Int)) ∧ ∃ o, (w.alloc o).grownBy w' v.ownBlock :=
    Any.utf8_AppendRune_plain Tryz.lays242 infoU8 B v n (l.map bv) (p : Int) (by omega) (by omega) w hown (by omega) hbw
  rw [cells_txt hp, List.length_map, ← List.map_append] at c
  refine c.mono ?_
  rintro e w' ⟨v', rfl, h1, o, hg⟩
  exact ⟨v', rfl, h1, owns_below (hown.alloc o) (hb.alloc hbw o) (by show _ ≤ (w.heap.push _).size; simp; omega) hg⟩
theorem xn_prefix (l : List UInt8) : Lib.hasPrefix l xnL = decide (l.take 4 = xnL) := by
  unfold Lib.hasPrefix
  rw [Bool.eq_iff_iff, List.isPrefixOf_iff_prefix, List.prefix_iff_eq_take, decide_eq_true_iff]
  exact eq_comm
theorem cut_yes {s : ByteArray} (h : (ls s).take 4 = xnL) (w : World) :
    Calls Tryz.prog 58 #[.string s, .string ⟨#[120, 110, 45, 45]⟩] w fun e w' => e = .returned (.tuple #[.string (bs ((ls s).drop 4)), .bool true]) ∧ w = w' := by
  have c : Calls Tryz.prog 58 #[.string s, .string ⟨#[120, 110, 45, 45]⟩] w fun e w' => e = .returned (.tuple #[.string ⟨(Lib.trimPrefix s.data.toList xnL).toArray⟩, .bool (Lib.hasPrefix s.data.toList xnL)]) ∧ w' = w := Any.strings_CutPrefix Tryz.lays103 s ⟨#[120, 110, 45, 45]⟩ w
  have e : Lib.hasPrefix s.data.toList xnL = true := by rw [xn_prefix]; exact decide_eq_true h
  unfold Lib.trimPrefix at c
  rw [e, if_pos rfl] at c
  exact c.mono fun e w' hh => ⟨hh.1, hh.2.symm⟩
theorem cut_no {s : ByteArray} (h : ¬ (ls s).take 4 = xnL) (w : World) :
    Calls Tryz.prog 58 #[.string s, .string ⟨#[120, 110, 45, 45]⟩] w fun e w' => e = .returned (.tuple #[.string s, .bool false]) ∧ w = w' := by
  have c : Calls Tryz.prog 58 #[.string s, .string ⟨#[120, 110, 45, 45]⟩] w fun e w' => e = .returned (.tuple #[.string ⟨(Lib.trimPrefix s.data.toList xnL).toArray⟩, .bool (Lib.hasPrefix s.data.toList xnL)]) ∧ w' = w := Any.strings_CutPrefix Tryz.lays103 s ⟨#[120, 110, 45, 45]⟩ w
  have e : Lib.hasPrefix s.data.toList xnL = false := by rw [xn_prefix]; exact decide_eq_false h
  unfold Lib.trimPrefix at c
  rw [e, if_neg (by simp), show (⟨s.data.toList.toArray⟩ : ByteArray) = s from bs_ls s] at c
  exact c.mono fun e w' hh => ⟨hh.1, hh.2.symm⟩
end

section
open Go.RowKit Go.Shelf
attribute [local go_sem] Oper.semAt_some

/-- Where the first dot stands. -/
theorem ix_cases (l : List UInt8) : (Lib.indexByte l 46 = -1 ∧ noB 46 l) ∨ ∃ x r, l = x ++ 46 :: r ∧ noB 46 x ∧ Lib.indexByte l 46 = (x.length : Int) := by
  induction l with
  | nil => exact .inl ⟨rfl, fun b hb => by cases hb⟩
  | cons b l ih =>
    by_cases hb : b = 46
    · subst hb
      exact .inr ⟨[], l, rfl, (fun b hb => by cases hb), rfl⟩
    · have hb2 : (b == 46) = false := by simpa using hb
      rcases ih with ⟨h1, h2⟩ | ⟨x, r, rfl, h2, h3⟩
      · refine .inl ⟨?_, ?_⟩
        · rw [Lib.indexByte, hb2, h1]; rfl
        · intro c hc
          rcases List.mem_cons.1 hc with rfl | hc
          · exact hb
          · exact h2 c hc
      · refine .inr ⟨b :: x, r, rfl, ?_, ?_⟩
        · intro c hc
          rcases List.mem_cons.1 hc with rfl | hc
          · exact hb
          · exact h2 c hc
        · rw [Lib.indexByte, hb2, h3]
          have h4 : ((x.length : Int) == -1) = false := by
            rw [beq_eq_false_iff_ne]
            omega
          rw [h4]
          simp

theorem ix_any (s : ByteArray) (w : World) : Calls Tryz.prog 56 #[.string s, .string ⟨#[46]⟩] w fun e w' => e = .returned (.int .i64 (Lib.indexByte (ls s) 46)) ∧ w' = w :=
  Any.strings_Index_one Tryz.lays143 s 46 w
theorem slx_any (s : ByteArray) (w : World) : Calls Tryz.prog 70 #[.string s, .string ⟨#[46]⟩] w fun e w' => e = .returned (.int .i64 (Lib.indexByte (ls s) 46)) ∧ w' = w :=
  Any.stringslite_Index_one { Tryz.lays143 with } s 46 w

/-- strings.SplitSeq at a dot: three boxes and the closure over them. -/
theorem seq_any (s : ByteArray) (w : World) : Calls Tryz.prog 36 #[.string s, .string ⟨#[46]⟩] w fun e w' =>
    e = .returned (.func (.func 54) #[] #[.pointer (some ⟨w.heap.size + 1, 0, none⟩), .pointer (some ⟨w.heap.size, 0, none⟩), .pointer (some ⟨w.heap.size + 2, 0, none⟩)]) ∧
    w' = ((w.alloc (.cells #[.string s] 9)).alloc (.cells #[.string ⟨#[46]⟩] 9)).alloc (.cells #[.int .i64 0] 3) := by
  have c : ∀ W, Calls Tryz.prog 46 #[.string s, .string ⟨#[46]⟩, .int .i64 0] W fun e w' =>
    e = .returned (.func (.func 54) #[] #[.pointer (some ⟨W.heap.size + 1, 0, none⟩), .pointer (some ⟨W.heap.size, 0, none⟩), .pointer (some ⟨W.heap.size + 2, 0, none⟩)]) ∧
    w' = ((W.alloc (.cells #[.string s] 9)).alloc (.cells #[.string ⟨#[46]⟩] 9)).alloc (.cells #[.int .i64 0] 3) := by
    intro W
    go_enter Tryz.func46, Tryz.ntmps46
    go_wp2
    go_ret
    exact ⟨rfl, rfl⟩
  go_enter Tryz.func36, Tryz.ntmps36
  go_wp2_with (go_at_call 46; refine (c _).mono ?_; rintro e w1 ⟨rfl, rfl⟩)
  go_ret
  exact ⟨rfl, rfl⟩

/-- A part of a string: not longer than strings may be. -/
abbrev St9 := { x : ByteArray // x.size ≤ 1000000000 }
theorem ls_tail (s : ByteArray) (k : Nat) : ls (s.extract k s.size) = (ls s).drop k := by
  rw [ls_extract, List.take_of_length_le]
  rw [List.length_drop, ls_length]
  exact Nat.le_refl _
def leftS (B : Nat) (W : World) : Nat := match W.cell? ⟨B, 0, none⟩ with | some (.string r) => r.size + 1 | _ => 0
theorem leftS_eq {B : Nat} {W : World} {r : ByteArray} {t : TypeId} (h : Boxed W B t (.string r)) : leftS B W = r.size + 1 := by
  unfold leftS
  rw [h.cell]
theorem boxed_same {W W' : World} {B : Nat} {t : TypeId} {v : Value} {Kr : Nat → Prop} (h : Boxed W B t v) (hs : SameAt Kr W W') (hk : Kr B) : Boxed W' B t v := (hs B hk).trans h
theorem boxed_other {W : World} {B C : Nat} {t : TypeId} {v u : Value} (h : Boxed W B t v) (hne : B ≠ C) : Boxed (W.setCell ⟨C, 0, none⟩ u) B t v := h.kept (grownBy_setCell' W C u) (by simpa using hne)

set_option maxRecDepth 100000 in
set_option maxHeartbeats 4000000 in
/-- What strings.SplitSeq hands back yields the parts. -/
theorem split_it (n : Nat) (B : Nat) (s : ByteArray) (hs : s.size ≤ 1000000000) (W0 : World) (h1 : Boxed W0 B 9 (.string s)) (h2 : Boxed W0 (B + 1) 9 (.string ⟨#[46]⟩)) (h3 : Boxed W0 (B + 2) 3 (.int .i64 0)) :
    SeqT Fence.wide n Tryz.prog 54 #[.pointer (some ⟨B + 1, 0, none⟩), .pointer (some ⟨B, 0, none⟩), .pointer (some ⟨B + 2, 0, none⟩)] (fun x : St9 => .string x.1) (fun r => r = B) (fun r => r = B ∨ r = B + 1 ∨ r = B + 2)
      (fun xs => xs.map (fun x => ls x.1) = splitL 46 (ls s)) (fun pre => pre.map (fun x => ls x.1) <+: splitL 46 (ls s)) (splitL 46 (ls s)).length W0 := by
  intro l J Jx hJ hJx hY h0
  refine callsIn_of_wp Tryz.func54 rfl trivial ?_ rfl
  simp only [Tryz.ntmps54, List.size_toArray, List.length_cons, List.length_nil, Nat.reduceAdd, Nat.reduceSub, Array.replicate_succ, Array.replicate_zero, List.push_toArray, List.append_toArray, List.nil_append, List.cons_append]
  have cB := h1.cell
  have cS := h2.cell
  have len : ∀ (pre : List St9) (r : ByteArray), pre.map (fun x : St9 => ls x.1) ++ splitL 46 (ls r) = splitL 46 (ls s) → pre.length < (splitL 46 (ls s)).length := by
    intro pre r h
    have := splitL_pos 46 (ls r)
    have e := congrArg List.length h
    rw [List.length_append, List.length_map] at e
    omega
  gi_wp2
  gi_loopw [7, 8] (fun i f wr => ∃ (pre : List St9) (r : ByteArray), r.size ≤ 1000000000 ∧ Hid (pre.map (fun x : St9 => ls x.1) ++ splitL 46 (ls r) = splitL 46 (ls s)) ∧ J pre wr ∧ Boxed wr B 9 (.string r) ∧ Boxed wr (B + 1) 9 (.string ⟨#[46]⟩) ∧ Boxed wr (B + 2) 3 (.int .i64 0))
    (fun _ _ wr => leftS B wr)
  case atStart => exact ⟨[], s, hs, Lib.hid rfl, h0, h1, h2, h3⟩
  case round =>
    obtain ⟨pre, r, hr, HP, hj, b1, b2, b3⟩ := hrel
    have k1 := b1.cell
    have k2 := b2.cell
    have k3 := b3.cell
    have f1 := b1.frozen
    rcases ix_cases (ls r) with ⟨hi, hno⟩ | ⟨x, q, hxq, hno, hi⟩
    · have ci := fun W => ix_any r W
      simp only [hi] at ci
      obtain ⟨fn, tmps, assign, body, hy, hR⟩ := hY pre ⟨r, hr⟩ wr hj (len pre r HP.out)
      dsimp only at hy
      gi_wp2_with fail
      refine ⟨trivial, (fun h => by cases h), ?_⟩
      refine (callsIn_wide.2 (ci _)).mono ?_
      rintro e w1 ⟨rfl, rfl⟩
      gi_wp2
      refine ⟨(fun h => by cases h), ?_⟩
      refine hR.mono ?_
      have hfin : (pre ++ [(⟨r, hr⟩ : St9)]).map (fun x : St9 => ls x.1) = splitL 46 (ls s) := by rw [← HP.out, splitL_one 46 _ hno, List.map_append]; rfl
      rintro e W3 (⟨rfl, hJ3, hk3, _⟩ | ⟨rfl, hJx3⟩)
      · gi_wp2
        go_end0
        exact ⟨⟨_, rfl⟩, .inl ⟨_, hfin, hJ3⟩⟩
      · gi_wp2
        go_end0
        exact ⟨⟨_, rfl⟩, .inr ⟨_, hfin ▸ List.prefix_refl _, hJx3⟩⟩
    · have ci := fun W => ix_any r W
      simp only [hi] at ci
      have hxr : x.length < r.size := by rw [← ls_length, hxq]; simp
      have ht0 : decide ((x.length : Int) < 0) = false := decide_eq_false (by omega)
      have hm : (0 : Nat) ≤ x.length := Nat.zero_le _
      have e1 : ls (r.extract 0 x.length) = x := by rw [ls_extract, hxq]; simp
      have e2 : ls (r.extract (x.length + 1) r.size) = q := by rw [ls_tail, hxq]; simp
      have z1 : (r.extract 0 x.length).size ≤ 1000000000 := by rw [← ls_length, e1]; omega
      have z2 : (r.extract (x.length + 1) r.size).size ≤ 1000000000 := by rw [← ls_length, e2]; have := ls_length r; rw [hxq] at this; simp at this; omega
      have z3 : (r.extract (x.length + 1) r.size).size + 1 < r.size + 1 := by rw [← ls_length, e2]; have := ls_length r; rw [hxq] at this; simp at this; omega
      obtain ⟨fn, tmps, assign, body, hy, hR⟩ := hY pre ⟨r.extract 0 x.length, z1⟩ wr hj (len pre r HP.out)
      dsimp only at hy
      have hnext : (pre ++ [(⟨r.extract 0 x.length, z1⟩ : St9)]).map (fun x : St9 => ls x.1) ++ splitL 46 (ls (r.extract (x.length + 1) r.size)) = splitL 46 (ls s) := by
        rw [← HP.out, e2, hxq, splitL_cons 46 x q hno, List.map_append, List.append_assoc]
        show _ ++ ([ls (r.extract 0 x.length)] ++ _) = _
        rw [e1]
        rfl
      have HN := Lib.hid hnext
      have hpre : (pre ++ [(⟨r.extract 0 x.length, z1⟩ : St9)]).map (fun x : St9 => ls x.1) <+: splitL 46 (ls s) := ⟨_, hnext⟩
      have hl9 : x.length + 1 ≤ r.size := by omega
      clear hnext hxq e1 e2 hi hno
      gi_wp2_with fail
      refine ⟨trivial, (fun h => by cases h), ?_⟩
      refine (callsIn_wide.2 (ci _)).mono ?_
      rintro e w1 ⟨rfl, rfl⟩
      gi_wp2
      refine ⟨(fun h => by cases h), ?_⟩
      refine hR.mono ?_
      rintro e W3 (⟨rfl, hJ3, hk3, _⟩ | ⟨rfl, hJx3⟩)
      · have HL := Lib.hid (leftS_eq b1)
        replace b1 := boxed_same b1 hk3 (.inl rfl)
        replace b2 := boxed_same b2 hk3 (.inr (.inl rfl))
        replace b3 := boxed_same b3 hk3 (.inr (.inr rfl))
        replace k1 := b1.cell
        replace k2 := b2.cell
        replace f1 := b1.frozen
        clear k3
        gi_wp2
        go_roundw
        case rel => exact ⟨_, r.extract (x.length + 1) r.size, z2, HN, hJ _ _ _ (some B) hJ3 (grownBy_setCell' _ _ _) (fun r e => by cases e; rfl), b1.set _, boxed_other b2 (by omega), boxed_other b3 (by omega)⟩
        case measure => rw [leftS_eq (b1.set _), HL.out]; exact z3
      · gi_wp2
        refine bodyPost_ret (results_none rfl _ _ _) rfl ?_
        exact ⟨⟨_, rfl⟩, .inr ⟨_, hpre, hJx3⟩⟩
end

section
open Go.RowKit

/-- The number of the range 0 to g that is nearest to n. -/
def lim (n g : Int) : Int := max 0 (min n g)
theorem lim_range (n g : Int) (h : 0 ≤ g) : 0 ≤ lim n g ∧ lim n g ≤ g := by unfold lim; omega
theorem lim_code (n g : Int) (h : 0 ≤ g) : min (max n 0) g = lim n g := by unfold lim; omega
def expV (now age : Int) : Int := min (lim now 1099511627776 + lim age 2147483647) 1099511627776

/-- What one more digit does to a number that is limited. -/
def perStep (a : Int) (c : UInt8) : Int := min (10 * a + ((c.toNat : Int) - 48)) 2147483647
def perL (a : Int) (l : List UInt8) : Int := l.foldl perStep a
def perV (s : ByteArray) : Int := if digitsB s then perL 0 (ls s) else 0
theorem perL_append (a : Int) (l m : List UInt8) : perL a (l ++ m) = perL (perL a l) m := by simp [perL]
theorem perL_one (a : Int) (c : UInt8) : perL a [c] = perStep a c := rfl
theorem perL_take_succ (s : ByteArray) (k : Nat) (h : k < s.size) : perL 0 ((ls s).take (k + 1)) = perStep (perL 0 ((ls s).take k)) s[k] := by
  rw [take_ls_succ s k h, perL_append, perL_one]
theorem digitU_iff (c : UInt8) : digitU c = true ↔ 48 ≤ (c.toNat : Int) ∧ (c.toNat : Int) ≤ 57 := by simp [digitU, digitB]
theorem perStep_range (a : Int) (c : UInt8) (h : 0 ≤ a) (hc : digitU c = true) : 0 ≤ perStep a c ∧ perStep a c ≤ 2147483647 := by
  have := (digitU_iff c).1 hc
  unfold perStep
  omega
theorem perStep_ge (a : Int) (c : UInt8) (h0 : 0 ≤ a) (h1 : a ≤ 2147483647) (hc : digitU c = true) : a ≤ perStep a c := by
  have := (digitU_iff c).1 hc
  unfold perStep
  omega
theorem perL_range (l : List UInt8) : ∀ a : Int, 0 ≤ a → a ≤ 2147483647 → l.all digitU = true → 0 ≤ perL a l ∧ perL a l ≤ 2147483647 ∧ a ≤ perL a l := by
  induction l with
  | nil => intro a h0 h1 _; exact ⟨h0, h1, Int.le_refl _⟩
  | cons c l ih =>
    intro a h0 h1 h
    simp only [List.all_cons, Bool.and_eq_true] at h
    have hr := perStep_range a c h0 h.1
    have hg := perStep_ge a c h0 h1 h.1
    have := ih (perStep a c) hr.1 hr.2 h.2
    exact ⟨this.1, this.2.1, Int.le_trans hg this.2.2⟩

theorem digitsB_all {s : ByteArray} (h : digitsB s = true) : (ls s).all digitU = true := by
  unfold digitsB at h
  simp only [Bool.and_eq_true] at h
  exact h.1
theorem perV_range (s : ByteArray) : 0 ≤ perV s ∧ perV s ≤ 2147483647 := by
  unfold perV
  split
  · rename_i h
    have := perL_range (ls s) 0 (by omega) (by omega) (digitsB_all h)
    exact ⟨this.1, this.2.1⟩
  · omega
theorem perV_no (s : ByteArray) (h : digitsB s = false) : perV s = 0 := by unfold perV; rw [h]; rfl
theorem perV_yes (s : ByteArray) (h : ((ls s).take s.size).all digitU = true) : perV s = perL 0 ((ls s).take s.size) := by
  unfold perV
  rw [digits_yes s h]
  rw [take_ls_all]
  cases hl : ls s with
  | nil => rfl
  | cons c l => rfl
theorem isEmpty_ls (s : ByteArray) : (ls s).isEmpty = decide (s.size = 0) := by
  rw [← ls_length]
  cases ls s <;> simp

/-- The decimal digits. -/
theorem dec_step (u : Nat) (h : ¬ u < 10) : Lib.decDigits u = Lib.decDigits (u / 10) ++ [UInt8.ofNat (48 + u % 10)] := by
  rw [Lib.decDigits, dif_neg h]
theorem digit_of (d : Nat) (h : d < 10) : ((UInt8.ofNat (48 + d)).toNat : Int) = 48 + d := by
  rw [UInt8.toNat_ofNat']; omega
theorem digit_is (d : Nat) (h : d < 10) : digitU (UInt8.ofNat (48 + d)) = true := by
  rw [digitU_iff, digit_of d h]; omega
theorem dec_digits (u : Nat) : (Lib.decDigits u).all digitU = true := by
  induction u using Nat.strongRecOn with
  | ind u ih =>
    by_cases h : u < 10
    · rw [Lib.decDigits_one h]
      rw [List.all_cons, digit_is u h]; rfl
    · rw [dec_step u h, List.all_append, ih (u / 10) (by omega)]
      rw [List.all_cons, digit_is (u % 10) (by omega)]; rfl
theorem dec_ne (u : Nat) : Lib.decDigits u ≠ [] := by
  intro h
  have := Lib.decDigits_length u
  have h2 := Lib.nDigits_pos u
  rw [h] at this
  simp at this
  omega
theorem dec_value (u : Nat) (h : u ≤ 2147483647) : perL 0 (Lib.decDigits u) = (u : Int) := by
  induction u using Nat.strongRecOn with
  | ind u ih =>
    by_cases hu : u < 10
    · rw [Lib.decDigits_one hu, perL_one]
      unfold perStep
      rw [digit_of u hu]
      omega
    · rw [dec_step u hu, perL_append, ih (u / 10) (by omega) (by omega), perL_one]
      unfold perStep
      rw [digit_of _ (by omega)]
      omega
/-- What Format writes for a period. -/
def fmtS (n : Int) : ByteArray := bs (Lib.decDigits (lim n 2147483647).toNat)
theorem fmtS_digits (n : Int) : digitsB (fmtS n) = true := by
  unfold digitsB fmtS
  rw [ls_bs, dec_digits]
  cases h : Lib.decDigits (lim n 2147483647).toNat with
  | nil => exact absurd h (dec_ne _)
  | cons c l => rfl
theorem fmtS_value (n : Int) : perV (fmtS n) = lim n 2147483647 := by
  have hl := lim_range n 2147483647 (by omega)
  unfold perV
  rw [fmtS_digits]
  unfold fmtS
  rw [ls_bs, dec_value _ (by omega), if_pos rfl]
  omega
theorem dec_size (u : Nat) (h : u ≤ 2147483647) : (bs (Lib.decDigits u)).size ≤ 10 := by
  rw [bs_size, Lib.decDigits_length]
  rcases Nat.lt_or_ge (Lib.nDigits u) 11 with h' | h'
  · omega
  · exfalso
    have key : ∀ (k v : Nat), k + 1 ≤ Lib.nDigits v → 10 ^ k ≤ v ∨ k = 0 := by
      intro k
      induction k with
      | zero => intro v _; exact .inr rfl
      | succ k ih =>
        intro v hv
        left
        by_cases hs : v < 10
        · rw [Lib.nDigits_small hs] at hv; omega
        · rw [Lib.nDigits_big hs] at hv
          rcases ih (v / 10) (by omega) with h1 | h1
          · rw [Nat.pow_succ]; omega
          · subst h1; simp; omega
    rcases key 10 u (by omega) with h1 | h1
    · simp at h1; omega
    · omega
theorem fmtS_size (n : Int) : (fmtS n).size ≤ 10 := by
  have hl := lim_range n 2147483647 (by omega)
  exact dec_size _ (by omega)
/-- Digits behind zeros, digits in front of digits. -/
theorem perL_zeros (l : List UInt8) : perL 0 (48 :: 48 :: 48 :: l) = perL 0 l := rfl
theorem digitsB_front (p s : ByteArray) (hp : (ls p).all digitU = true) (hs : digitsB s = true) : digitsB (p ++ s) = true := by
  unfold digitsB at hs ⊢
  rw [ls_append, List.all_append, hp]
  simp only [Bool.and_eq_true, Bool.not_eq_true', Bool.true_and] at hs ⊢
  refine ⟨hs.1, ?_⟩
  cases h : ls p with
  | nil => simpa using hs.2
  | cons c l => rfl
theorem fmt_zeros (n : Int) : digitsB (⟨#[48, 48, 48]⟩ ++ fmtS n) = true ∧ perV (⟨#[48, 48, 48]⟩ ++ fmtS n) = lim n 2147483647 := by
  have h := digitsB_front ⟨#[48, 48, 48]⟩ (fmtS n) (by decide) (fmtS_digits n)
  refine ⟨h, ?_⟩
  have hv := fmtS_value n
  unfold perV at hv ⊢
  rw [fmtS_digits] at hv
  rw [h, if_pos rfl, ls_append]
  rw [if_pos rfl] at hv
  rw [← hv]
  rfl
/-- Longer digit strings do not mean less. -/
theorem per_more (a b : ByteArray) (ha : digitsB a = true) (hab : digitsB (a ++ b) = true) : perV a ≤ perV (a ++ b) := by
  unfold perV
  rw [ha, hab, if_pos rfl, if_pos rfl, ls_append, perL_append]
  have h1 := perL_range (ls a) 0 (by omega) (by omega) (digitsB_all ha)
  have h2 := digitsB_all hab
  rw [ls_append, List.all_append, Bool.and_eq_true] at h2
  exact (perL_range (ls b) _ h1.1 h1.2.1 h2.2).2.2
/-- Who means digits in front of more means digits himself. -/
theorem digits_front (a b : ByteArray) (h0 : 0 < a.size) (h : digitsB (a ++ b) = true) : digitsB a = true := by
  have h2 := digitsB_all h
  rw [ls_append, List.all_append, Bool.and_eq_true] at h2
  unfold digitsB
  rw [h2.1, isEmpty_ls, decide_eq_false (by omega)]
  rfl

theorem expV_lower (now age : Int) : lim now 1099511627776 ≤ expV now age := by unfold expV lim; omega
theorem expV_upper (now age : Int) : expV now age ≤ 1099511627776 := by unfold expV lim; omega
theorem expV_zero (now : Int) : expV now 0 = lim now 1099511627776 := by unfold expV lim; omega
theorem expV_minus (now : Int) : expV now (-1) = lim now 1099511627776 := by unfold expV lim; omega
theorem expV_mono (now age later : Int) (h : now ≤ later) : expV now age ≤ expV later age := by unfold expV lim; omega
theorem expV_mono2 (now age later : Int) (h : age ≤ later) : expV now age ≤ expV now later := by unfold expV lim; omega
end

section
open Go.RowKit

/-- The parts of a string, the last one left out if it is empty and not alone. -/
def partsL (l : List UInt8) : List (List UInt8) := if 1 < (splitL 46 l).length ∧ (splitL 46 l).getLast? = some [] then (splitL 46 l).dropLast else splitL 46 l

/-- The value of a digit, or 99. -/
def digV (b : UInt8) : Nat := if 48 ≤ b.toNat ∧ b.toNat ≤ 57 then b.toNat - 48 else if 97 ≤ b.toNat ∧ b.toNat ≤ 102 then b.toNat - 87 else if 65 ≤ b.toNat ∧ b.toNat ≤ 70 then b.toNat - 55 else 99
/-- The value of digits in a base. -/
def valB (base : Nat) (a : Nat) : List UInt8 → Nat
  | [] => a
  | c :: r => valB base (a * base + digV c) r
theorem valB_append (base : Nat) : ∀ (l m : List UInt8) (a : Nat), valB base a (l ++ m) = valB base (valB base a l) m
  | [], _, _ => rfl
  | c :: l, m, a => by rw [List.cons_append, valB, valB, valB_append base l m]
/-- The base and the digits of a part. -/
def baseL : List UInt8 → Nat × List UInt8
  | 48 :: b :: r => if b = 120 ∨ b = 88 then (16, r) else (8, b :: r)
  | l => (10, l)
/-- The number that a part denotes. -/
def numL (l : List UInt8) : Option Nat := if l = [] then none else if (baseL l).2.all (fun c => decide (digV c < (baseL l).1)) = true then some (valB (baseL l).1 0 (baseL l).2) else none
/-- Whether a string ends in a number. -/
def lastNum (l : List UInt8) : Bool := (l.all digitU && !l.isEmpty) || ((numL l).isSome && decide (2 ≤ l.length) && (l.getD 1 0 == 120 || l.getD 1 0 == 88))
def numericL (l : List UInt8) : Bool := lastNum ((partsL l).getLastD [])
/-- The address of numbers, i of them read already. -/
def pnGo : List (List UInt8) → Nat → Nat → Option Nat
  | [], _, acc => some acc
  | [x], i, acc => match numL x with
    | none => none
    | some n => if n < 256 ^ (4 - i) then some (acc + n) else none
  | x :: y :: r, i, acc => match numL x with
    | none => none
    | some n => if n ≤ 255 then pnGo (y :: r) (i + 1) (acc + n * 256 ^ (3 - i)) else none
def pnL (l : List UInt8) : Option Nat := if 4 < (partsL l).length then none else pnGo (partsL l) 0 0
/-- A number from 0 to 255 in the strict form. -/
def decV (l : List UInt8) : Option Nat := (List.range 256).find? fun n => decide (Lib.decDigits n = l)
def four (p : List (List UInt8)) : Option (Nat × Nat × Nat × Nat) := match p with
  | [a, b, c, d] => match decV a, decV b, decV c, decV d with
    | some a, some b, some c, some d => some (a, b, c, d)
    | _, _, _, _ => none
  | _ => none
def parseL (l : List UInt8) : Option Nat := (four (splitL 46 l)).map fun q => ((q.1 * 256 + q.2.1) * 256 + q.2.2.1) * 256 + q.2.2.2
def fmtI (v : Nat) : List UInt8 := joinL 46 [Lib.decDigits (v / 16777216), Lib.decDigits (v / 65536 % 256), Lib.decDigits (v / 256 % 256), Lib.decDigits (v % 256)]

/-- Digits. -/
theorem digV_dig (d : Nat) (h : d < 10) : digV (UInt8.ofNat (48 + d)) = d := by
  have := digit_of d h
  have e : (UInt8.ofNat (48 + d)).toNat = 48 + d := by omega
  unfold digV
  rw [e, if_pos (by omega)]
  omega
theorem digV_digitU (c : UInt8) (h : digitU c = true) : digV c = c.toNat - 48 ∧ digV c < 10 := by
  have := (digitU_iff c).1 h
  unfold digV
  rw [if_pos (by omega)]
  omega
theorem dec_valB : ∀ u : Nat, valB 10 0 (Lib.decDigits u) = u := by
  intro u
  induction u using Nat.strongRecOn with
  | ind u ih =>
    by_cases hu : u < 10
    · rw [Lib.decDigits_one hu, valB, valB, digV_dig u hu]; omega
    · rw [dec_step u hu, valB_append, ih (u / 10) (by omega), valB, valB, digV_dig _ (by omega)]
      omega
theorem dec_head (u : Nat) (h : 0 < u) : (Lib.decDigits u).head? ≠ some 48 := by
  induction u using Nat.strongRecOn with
  | ind u ih =>
    by_cases hu : u < 10
    · rw [Lib.decDigits_one hu]
      simp only [List.head?_cons, ne_eq, Option.some.injEq]
      intro he
      have := digit_of u hu
      rw [he] at this
      simp at this
      omega
    · rw [dec_step u hu]
      have h1 := ih (u / 10) (by omega) (by omega)
      have h2 := dec_ne (u / 10)
      cases hx : Lib.decDigits (u / 10) with
      | nil => exact absurd hx h2
      | cons c r => rw [hx] at h1; simpa using h1
theorem baseL_ten (l : List UInt8) (h : l.head? ≠ some 48 ∨ l.length ≤ 1) : baseL l = (10, l) := by
  unfold baseL
  split
  · rename_i b r
    rcases h with h | h
    · simp at h
    · simp at h
  · rfl
theorem baseL_16 (b : UInt8) (r : List UInt8) (h : b = 120 ∨ b = 88) : baseL (48 :: b :: r) = (16, r) := by
  show (if b = 120 ∨ b = 88 then (16, r) else (8, b :: r)) = _
  rw [if_pos h]
theorem baseL_8 (b : UInt8) (r : List UInt8) (h : ¬ (b = 120 ∨ b = 88)) : baseL (48 :: b :: r) = (8, b :: r) := by
  show (if b = 120 ∨ b = 88 then (16, r) else (8, b :: r)) = _
  rw [if_neg h]
theorem dec_base (u : Nat) : baseL (Lib.decDigits u) = (10, Lib.decDigits u) := by
  by_cases h : u = 0
  · subst h; rw [Lib.decDigits_one (by omega)]; exact baseL_ten _ (.inr (by simp))
  · exact baseL_ten _ (.inl (dec_head u (by omega)))
theorem dec_all (u : Nat) : (Lib.decDigits u).all (fun c => decide (digV c < 10)) = true := by
  have := dec_digits u
  rw [List.all_eq_true] at this ⊢
  intro c hc
  exact decide_eq_true (digV_digitU c (this c hc)).2
theorem numL_dec (u : Nat) : numL (Lib.decDigits u) = some u := by
  unfold numL
  rw [if_neg (dec_ne u), dec_base, if_pos (dec_all u), dec_valB]
theorem dec_inj {u v : Nat} (h : Lib.decDigits u = Lib.decDigits v) : u = v := by
  have := dec_valB u
  rw [h, dec_valB] at this
  exact this.symm
theorem dec_noB (u : Nat) : noB 46 (Lib.decDigits u) := by
  have := dec_digits u
  rw [List.all_eq_true] at this
  intro c hc he
  have := this c hc
  rw [he] at this
  simp [digitU, digitB] at this
theorem decV_dec (n : Nat) (h : n < 256) : decV (Lib.decDigits n) = some n := by
  unfold decV
  cases hx : (List.range 256).find? fun m => decide (Lib.decDigits m = Lib.decDigits n) with
  | none =>
    rw [List.find?_eq_none] at hx
    have := hx n (by simp [h])
    simp at this
  | some m =>
    have := List.find?_some hx
    simp only [decide_eq_true_eq] at this
    rw [dec_inj this]
theorem decV_some {l : List UInt8} {n : Nat} (h : decV l = some n) : n < 256 ∧ l = Lib.decDigits n := by
  unfold decV at h
  have h1 := List.find?_some h
  have h2 := List.mem_of_find?_eq_some h
  simp only [decide_eq_true_eq] at h1
  exact ⟨by simpa using h2, h1.symm⟩
theorem split_fmtI (v : Nat) : splitL 46 (fmtI v) = [Lib.decDigits (v / 16777216), Lib.decDigits (v / 65536 % 256), Lib.decDigits (v / 256 % 256), Lib.decDigits (v % 256)] := by
  unfold fmtI
  refine split_joinL 46 _ (by simp) ?_
  intro a ha
  simp at ha
  rcases ha with rfl | rfl | rfl | rfl <;> exact dec_noB _
theorem parse_fmtI (v : Nat) (h : v < 4294967296) : parseL (fmtI v) = some v := by
  unfold parseL
  rw [split_fmtI]
  unfold four
  simp only [decV_dec _ (show v / 16777216 < 256 by omega), decV_dec _ (show v / 65536 % 256 < 256 by omega), decV_dec _ (show v / 256 % 256 < 256 by omega), decV_dec _ (show v % 256 < 256 by omega), Option.map_some, Option.some.injEq]
  omega
theorem partsL_of {l : List UInt8} {p : List (List UInt8)} (h : splitL 46 l = p) (hl : p.getLast? ≠ some []) : partsL l = p := by
  unfold partsL
  rw [h, if_neg (fun h => hl h.2)]
theorem parts_fmtI (v : Nat) : partsL (fmtI v) = [Lib.decDigits (v / 16777216), Lib.decDigits (v / 65536 % 256), Lib.decDigits (v / 256 % 256), Lib.decDigits (v % 256)] := by
  refine partsL_of (split_fmtI v) ?_
  simp only [List.getLast?_cons_cons, List.getLast?_singleton, ne_eq, Option.some.injEq]
  exact dec_ne _
theorem pn_fmtI (v : Nat) (h : v < 4294967296) : pnL (fmtI v) = some v := by
  unfold pnL
  rw [parts_fmtI, if_neg (by simp)]
  simp only [pnGo, numL_dec]
  rw [if_pos (by omega), if_pos (by omega), if_pos (by omega), if_pos (by omega)]
  simp only [Option.some.injEq]
  omega
theorem lastNum_dec (u : Nat) : lastNum (Lib.decDigits u) = true := by
  unfold lastNum
  rw [dec_digits]
  cases h : Lib.decDigits u with
  | nil => exact absurd h (dec_ne u)
  | cons c r => rfl
theorem numeric_fmtI (v : Nat) : numericL (fmtI v) = true := by
  unfold numericL
  rw [parts_fmtI]
  exact lastNum_dec _
theorem partsL_dot (l : List UInt8) : partsL (l ++ [46]) = splitL 46 l := by
  have h : splitL 46 (l ++ [46]) = splitL 46 l ++ [[]] := splitG_dot 46 l []
  unfold partsL
  rw [h, if_pos ⟨by have := splitL_pos 46 l; simp; omega, by simp⟩]
  simp
theorem numeric_fmtI_dot (v : Nat) : numericL (fmtI v ++ [46]) = true := by
  unfold numericL
  rw [partsL_dot, split_fmtI]
  exact lastNum_dec _
theorem four_some {p : List (List UInt8)} {q : Nat × Nat × Nat × Nat} (h : four p = some q) : q.1 < 256 ∧ q.2.1 < 256 ∧ q.2.2.1 < 256 ∧ q.2.2.2 < 256 ∧ p = [Lib.decDigits q.1, Lib.decDigits q.2.1, Lib.decDigits q.2.2.1, Lib.decDigits q.2.2.2] := by
  unfold four at h
  split at h
  · rename_i a b c d
    cases ha : decV a <;> cases hb : decV b <;> cases hc : decV c <;> cases hd : decV d <;> simp only [ha, hb, hc, hd] at h <;> try (cases h; done)
    have h1 := decV_some ha
    have h2 := decV_some hb
    have h3 := decV_some hc
    have h4 := decV_some hd
    simp only [Option.some.injEq] at h
    subst h
    exact ⟨h1.1, h2.1, h3.1, h4.1, by rw [← h1.2, ← h2.2, ← h3.2, ← h4.2]⟩
  · cases h
theorem parseL_some {l : List UInt8} {v : Nat} (h : parseL l = some v) : v < 4294967296 ∧ l = fmtI v := by
  unfold parseL at h
  cases hq : four (splitL 46 l) with
  | none => rw [hq] at h; cases h
  | some q =>
    rw [hq] at h
    simp only [Option.map_some, Option.some.injEq] at h
    obtain ⟨h1, h2, h3, h4, hp⟩ := four_some hq
    refine ⟨by omega, ?_⟩
    rw [← join_splitL 46 l, hp]
    unfold fmtI
    rw [show v / 16777216 = q.1 by omega, show v / 65536 % 256 = q.2.1 by omega, show v / 256 % 256 = q.2.2.1 by omega, show v % 256 = q.2.2.2 by omega]
end

end Go.Proofs.YthoolifdmemceaaGreatDoor
