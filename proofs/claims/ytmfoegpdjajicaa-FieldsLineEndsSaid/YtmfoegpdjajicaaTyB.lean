/-
  Types of bytes and strings, and string(b) of a slice of bytes; no function of the program.
-/
import Derived.Test.YtmfoegpdjajicaaRows
import Derived.Test.YtmfoegpdjajicaaApp
namespace Go.Proofs.Ytmfoegpdjajicaa
open Go.RowKit

theorem tyBs : Try.prog.underlying 22 = some (.slice 5) := by kernel_rfl
theorem tyU8 : Try.prog.underlying 5 = some (.int .u8) := by kernel_rfl
theorem tyStr : Try.prog.underlying 9 = some .string := by kernel_rfl
theorem infoU8 : (Try.prog.info? 5).map (fun i => (i.zero, i.size, i.bytes)) = some (some (.int .u8 0), 1, 1) := by kernel_rfl

set_option maxRecDepth 20000 in
/-- string(b). -/
theorem str_has (w : World) (A : Option Addr) (n c B : Nat) (l : List UInt8) (h : Has w B A n (l.map bv)) :
    (convert 22 9 (.slice A n c)).run Try.prog w = .ok (.string (bs l)) w := by
  have hl : l.length = n := by simpa using h.1
  match A, h with
  | none, h =>
    have hn : n = 0 := by
      by_cases h0 : 0 < n
      · obtain ⟨b, off, e, _⟩ := h.2 h0
        cases e
      · omega
    subst hn
    have : l = [] := List.eq_nil_of_length_eq_zero hl
    subst this
    exact run_convert_bytes_nil w 22 5 tyBs tyU8 0 c 9 tyStr
  | some ad, h =>
    rcases Nat.eq_zero_or_pos n with h0 | h0
    · subst h0
      have : l = [] := List.eq_nil_of_length_eq_zero hl
      subst this
      have hl0 : (loadCells ad 0).run Try.prog w = .ok (([] : List Int).map (Value.int .u8)).toArray w := run_loadCells_list (P := Try.prog) w ad [] (fun j v hj => by simp at hj)
      rw [run_convert_bytes_string w 22 9 5 _ 0 c tyBs tyU8 tyStr, run_bytesToString w ad 0 c [] hl0]
      rfl
    · obtain ⟨b, off, e, _, hc⟩ := h.2 h0
      injection e with e
      subst e
      rw [run_convert_bytes_arg w 22 5 tyBs tyU8 b off n c (l.map fun c => (c.toNat : Int)) (by simpa using hl) (fun j hj => by
        rw [hc j (by simp; omega)]
        have hjl : j < l.length := by omega
        simp [List.getD, List.getElem?_eq_getElem hjl, bv]) 9 tyStr, strOfNums_bytes]

/-- string(out) of a slice of bytes that the call itself has made. -/
theorem str_owned (w : World) (base n : Nat) (v : Value) (l : List UInt8) (h : w.ownsRow base 5 1 v n (l.map bv)) :
    (convert 22 9 v).run Try.prog w = .ok (.string (bs l)) w := by
  obtain ⟨A, c, rfl, hh, _⟩ := Has.of_own h
  exact str_has w A n c _ l hh

end Go.Proofs.Ytmfoegpdjajicaa
