/-
  Contracts of the functions of Go's library that package label calls, in the words of UtfP.
-/
import Derived.Test.YtoieapdfpbcfpaaDoorU8T
import Derived.Test.YtoieapdfpbcfpaaDoorUtfD
import Derived.Test.YtoieapdfpbcfpaaDoorLabP
import Derived.Test.YtoieapdfpbcfpaaDoorTyB
import Derived.Test.YtoieapdfpbcfpaaDoorShelf
import Derived.Test.YtoieapdfpbcfpaaDoorShelfV
namespace Go.Proofs.YtoieapdfpbcfpaaDoor
open Go.RowKit

theorem vs_any (s : ByteArray) (w : World) (hs : s.size ≤ 1000000000) (hT : U8 w) :
    Calls Tryd.prog 16 #[.string s] w fun e w' => e = .returned (.bool (ptsL (ls s)).isSome) ∧ Below w.heap.size w w' := by
  have c : Calls Tryd.prog 16 #[.string s] w fun e w' => e = .returned (.bool (Lib.validD s.data.toList)) ∧ Below w.heap.size w w' := Any.utf8_ValidString Tryd.laysValid s w (by omega) hT
  rw [valid_pts] at c
  exact c
theorem rc_any {s : ByteArray} {P : List Nat} (hp : ptsL (ls s) = some P) (w : World) (hs : s.size ≤ 1000000000) :
    Calls Tryd.prog 17 #[.string s] w fun e w' => e = .returned (.int .i64 (P.length : Nat)) ∧ Below w.heap.size w w' := by
  have c : Calls Tryd.prog 17 #[.string s] w fun e w' => e = .returned (.int .i64 (Lib.runeCount s)) ∧ ∃ pos, w' = w.iter s pos := Any.utf8_RuneCountInString Tryd.lays195 s w (by omega)
  rw [runeCount_pts hp] at c
  refine c.mono ?_
  rintro e w' ⟨rfl, pos, rfl⟩
  exact ⟨rfl, (Below.refl _ _).alloc (Nat.le_refl _) _⟩
theorem dr_any {s : ByteArray} {p : Nat} {P : List Nat} (h : ptsL (ls s) = some (p :: P)) :
    ∃ k, 1 ≤ k ∧ k ≤ s.size ∧ ptsL ((ls s).drop k) = some P ∧ ∀ (w : World), U8 w →
      Calls Tryd.prog 38 #[.string s] w fun e w' => e = .returned (.tuple #[.int .i32 (p : Nat), .int .i64 (k : Nat)]) ∧ Below w.heap.size w w' := by
  obtain ⟨k, h1, h2, h3, h4⟩ := decode_pts h
  refine ⟨k, h2, h3, h4, fun w hT => ?_⟩
  have c : Calls Tryd.prog 38 #[.string s] w fun e w' => e = .returned (.tuple #[.int .i32 (Lib.decodeGo s).1, .int .i64 (Lib.decodeGo s).2]) ∧ Below w.heap.size w w' := Any.utf8_DecodeRuneInString Tryd.lays197 s w hT
  have e : Lib.decodeGo s = (p, k) := by
    unfold Lib.decodeGo
    rw [if_neg (by omega), h1]
  rw [e] at c
  exact c
theorem ar_any {w0 w : World} {B n p : Nat} {v : Value} {l : List UInt8} (hp : ptN p = true) (hown : w.ownsRow B 5 1 v n (l.map bv)) (hn : n ≤ 1000000000) (hb : Below B w0 w) (hB : B ≤ w0.heap.size) :
    Calls Tryd.prog 50 #[v, .int .i32 (p : Int)] w fun e w' => ∃ v', e = .returned v' ∧ w'.ownsRow B 5 1 v' (n + (txt8 p).length) ((l ++ txt8 p).map bv) ∧ Below B w0 w' := by
  have hbw : B ≤ w.heap.size := Nat.le_trans hB hb.size
  have hle := ptN_le hp
  have c : Calls Tryd.prog 50 #[v, .int .i32 (p : Int)] w fun e w' => ∃ v', e = .returned v' ∧ w'.ownsRow B 5 1 v' (n + (Lib.runeCells (p : Int)).length) (l.map bv ++ Lib.runeCells (p : Int)) ∧ ∃ o, (w.alloc o).grownBy w' v.ownBlock :=
    Any.utf8_AppendRune_plain Tryd.lays242 infoU8 B v n (l.map bv) (p : Int) (by omega) (by omega) w hown (by omega) hbw
  rw [cells_txt hp, List.length_map, ← List.map_append] at c
  refine c.mono ?_
  rintro e w' ⟨v', rfl, h1, o, hg⟩
  exact ⟨v', rfl, h1, owns_below (hown.alloc o) (hb.alloc hbw o) (by show _ ≤ (w.heap.push _).size; simp; omega) hg⟩
theorem cl_any (s : ByteArray) (w : World) (hs : s.size ≤ 1000000000) :
    Calls Tryd.prog 25 #[.string s] w fun e w' => e = .returned (.string s) ∧ Below w.heap.size w w' := by
  have c : Calls Tryd.prog 45 #[.string s] w fun e w' => e = .returned (.string s) ∧ Below w.heap.size w w' := Any.stringslite_Clone Tryd.laysM316 s w (by omega)
  clear hs
  go_enter Tryd.func25, Tryd.ntmps25
  go_wp2_with (go_at_call 45; refine c.mono ?_; rintro e w1 ⟨rfl, hb⟩)
  go_ret
  exact ⟨rfl, hb⟩
theorem xn_prefix (l : List UInt8) : Lib.hasPrefix l xnL = decide (l.take 4 = xnL) := by
  unfold Lib.hasPrefix
  rw [Bool.eq_iff_iff, List.isPrefixOf_iff_prefix, List.prefix_iff_eq_take, decide_eq_true_iff]
  exact eq_comm
theorem cut_yes {s : ByteArray} (h : (ls s).take 4 = xnL) (w : World) :
    Calls Tryd.prog 24 #[.string s, .string ⟨#[120, 110, 45, 45]⟩] w fun e w' => e = .returned (.tuple #[.string (bs ((ls s).drop 4)), .bool true]) ∧ w = w' := by
  have c : Calls Tryd.prog 24 #[.string s, .string ⟨#[120, 110, 45, 45]⟩] w fun e w' => e = .returned (.tuple #[.string ⟨(Lib.trimPrefix s.data.toList xnL).toArray⟩, .bool (Lib.hasPrefix s.data.toList xnL)]) ∧ w' = w := Any.strings_CutPrefix Tryd.lays103 s ⟨#[120, 110, 45, 45]⟩ w
  have e : Lib.hasPrefix s.data.toList xnL = true := by rw [xn_prefix]; exact decide_eq_true h
  unfold Lib.trimPrefix at c
  rw [e, if_pos rfl] at c
  exact c.mono fun e w' hh => ⟨hh.1, hh.2.symm⟩
theorem cut_no {s : ByteArray} (h : ¬ (ls s).take 4 = xnL) (w : World) :
    Calls Tryd.prog 24 #[.string s, .string ⟨#[120, 110, 45, 45]⟩] w fun e w' => e = .returned (.tuple #[.string s, .bool false]) ∧ w = w' := by
  have c : Calls Tryd.prog 24 #[.string s, .string ⟨#[120, 110, 45, 45]⟩] w fun e w' => e = .returned (.tuple #[.string ⟨(Lib.trimPrefix s.data.toList xnL).toArray⟩, .bool (Lib.hasPrefix s.data.toList xnL)]) ∧ w' = w := Any.strings_CutPrefix Tryd.lays103 s ⟨#[120, 110, 45, 45]⟩ w
  have e : Lib.hasPrefix s.data.toList xnL = false := by rw [xn_prefix]; exact decide_eq_false h
  unfold Lib.trimPrefix at c
  rw [e, if_neg (by simp), show (⟨s.data.toList.toArray⟩ : ByteArray) = s from bs_ls s] at c
  exact c.mono fun e w' hh => ⟨hh.1, hh.2.symm⟩

end Go.Proofs.YtoieapdfpbcfpaaDoor
