/-
  Contract of hstsstorekeep.Bytes, and string(b) of a slice of bytes.
-/
import Derived.Test.YtdahnkampjkelaaRows
import Derived.Test.YtdahnkampjkelaaApp
namespace Go.Proofs.Ytdahnkampjkelaa
open Go.RowKit

theorem tyBs : Try.prog.underlying 26 = some (.slice 5) := by kernel_rfl
theorem tyU8 : Try.prog.underlying 5 = some (.int .u8) := by kernel_rfl
theorem tyStr : Try.prog.underlying 9 = some .string := by kernel_rfl
theorem infoU8 : (Try.prog.info? 5).map (fun i => (i.zero, i.size, i.bytes)) = some (some (.int .u8 0), 1, 1) := by kernel_rfl

set_option maxRecDepth 20000 in
/-- string(b). -/
theorem str_has (w : World) (A : Option Addr) (n c B : Nat) (l : List UInt8) (h : Has w B A n (l.map bv)) :
    (convert 26 9 (.slice A n c)).run Try.prog w = .ok (.string (bs l)) w := by
  have hl : l.length = n := by simpa using h.1
  match A, h with
  | none, h =>
    have hn : n = 0 := by
      by_cases h0 : 0 < n
      · obtain ⟨b, off, e, _⟩ := h.2 h0
        cases e
      · omega
    subst hn
    have : l = [] := List.eq_nil_of_length_eq_zero hl
    subst this
    exact run_convert_bytes_nil w 26 5 tyBs tyU8 0 c 9 tyStr
  | some ad, h =>
    rcases Nat.eq_zero_or_pos n with h0 | h0
    · subst h0
      have : l = [] := List.eq_nil_of_length_eq_zero hl
      subst this
      have hl0 : (loadCells ad 0).run Try.prog w = .ok (([] : List Int).map (Value.int .u8)).toArray w := run_loadCells_list (P := Try.prog) w ad [] (fun j v hj => by simp at hj)
      rw [run_convert_bytes_string w 26 9 5 _ 0 c tyBs tyU8 tyStr, run_bytesToString w ad 0 c [] hl0]
      rfl
    · obtain ⟨b, off, e, _, hc⟩ := h.2 h0
      injection e with e
      subst e
      rw [run_convert_bytes_arg w 26 5 tyBs tyU8 b off n c (l.map fun c => (c.toNat : Int)) (by simpa using hl) (fun j hj => by
        rw [hc j (by simp; omega)]
        have hjl : j < l.length := by omega
        simp [List.getD, List.getElem?_eq_getElem hjl, bv]) 9 tyStr, strOfNums_bytes]

/-- Equal as lists of bytes. -/
def eqL (l m : List UInt8) : Bool := decide (l = m)
set_option maxHeartbeats 400000 in
theorem bytes_any (A1 A2 : Option Addr) (n1 c1 n2 c2 B : Nat) (l m : List UInt8) (w : World) (h1 : Has w B A1 n1 (l.map bv)) (h2 : Has w B A2 n2 (m.map bv)) :
    Calls Try.prog 15 #[.slice A1 n1 c1, .slice A2 n2 c2] w fun e w' => e = .returned (.bool (eqL l m)) ∧ w = w' := by
  have e1 := str_has w A1 n1 c1 B l h1
  have e2 := str_has w A2 n2 c2 B m h2
  have HE : Hid (((bs l).toList == (bs m).toList) = eqL l m) := by
    show _ = _
    rw [toList_ls, toList_ls, ls_bs, ls_bs]
    unfold eqL
    by_cases h : l = m
    · subst h; simp
    · rw [decide_eq_false h, beq_eq_false_iff_ne]; exact h
  clear h1 h2
  go_enter Try.func15, Try.ntmps15
  go_wp2
  go_ret
  exact ⟨ret_bool (by rw [← HE.out]), rfl⟩

end Go.Proofs.Ytdahnkampjkelaa
