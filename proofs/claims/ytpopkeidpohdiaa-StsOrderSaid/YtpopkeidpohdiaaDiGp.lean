/-
  Plain: the text of directives, and what Format of package directive returns.
-/
import Derived.Test.YtpopkeidpohdiaaDiFp
namespace Go.Proofs.Ytpopkeidpohdiaa
open Go.RowKit

theorem dirT_snoc : ∀ (l : List Dv) (d : Dv), l ≠ [] → dirT (l ++ [d]) = dirT l ++ [59, 32] ++ d.text
  | [], _, h => absurd rfl h
  | [a], d, _ => by
    show a.text ++ 59 :: 32 :: d.text = a.text ++ [59, 32] ++ d.text
    simp
  | a :: b :: r, d, _ => by
    have ih := dirT_snoc (b :: r) d (by simp)
    show a.text ++ 59 :: 32 :: dirT (b :: r ++ [d]) = a.text ++ 59 :: 32 :: dirT (b :: r) ++ [59, 32] ++ d.text
    rw [ih]
    simp
def preT (l : List Dv) : List UInt8 := if l.length = 0 then [] else dirT l ++ [59, 32]
theorem dirT_take {l : List Dv} {k : Nat} (h : k < l.length) : dirT (l.take (k + 1)) = preT (l.take k) ++ l[k].text := by
  rw [List.take_succ_eq_append_getElem h]
  unfold preT
  by_cases h0 : l.take k = []
  · rw [h0]
    rfl
  · rw [dirT_snoc _ _ h0, if_neg (fun e => h0 (List.length_eq_zero_iff.1 e))]
theorem valT_len (v : List UInt8) : (valT v).length ≤ 2 * v.length + 2 := by
  unfold valT
  split
  · omega
  · have := escL_len v
    rw [quoL]
    simp
    omega
theorem text_len (d : Dv) (h : d.name.length ≤ 1000000 ∧ d.value.length ≤ 1000000) : d.text.length ≤ 3000010 := by
  have := valT_len d.value
  unfold Dv.text
  split <;> simp <;> omega
theorem dirT_len {l : List Dv} (hS : SmDv l) : ∀ k, k ≤ l.length → (dirT (l.take k)).length ≤ k * 3000020
  | 0, _ => by simp [dirT]
  | k + 1, h => by
    have ih := dirT_len hS k (by omega)
    have ht := text_len l[k] (hS _ (List.getElem_mem (by omega)))
    rw [dirT_take (by omega : k < l.length), List.length_append]
    unfold preT
    split
    · simp; omega
    · simp; omega
theorem preT_len {l : List Dv} (hS : SmDv l) (k : Nat) (h : k ≤ l.length) : (preT (l.take k)).length ≤ k * 3000020 + 2 := by
  have := dirT_len hS k h
  unfold preT
  split <;> simp <;> omega
/-- What Format returns. -/
def fmtR (l : List Dv) : List UInt8 × Int := if dirOk l = false then ([], 1) else if 4096 < (dirT l).length then ([], 3) else (dirT l, 0)
theorem fmt_bad {l : List Dv} (h : dirOk l = false) : fmtR l = ([], 1) := by unfold fmtR; rw [if_pos h]
theorem fmt_long {l : List Dv} (h : dirOk l = true) (h2 : 4096 < (dirT l).length) : fmtR l = ([], 3) := by unfold fmtR; rw [if_neg (by rw [h]; decide), if_pos h2]
theorem fmt_good {l : List Dv} (h : dirOk l = true) (h2 : ¬ 4096 < (dirT l).length) : fmtR l = (dirT l, 0) := by unfold fmtR; rw [if_neg (by rw [h]; decide), if_neg h2]
def FmtPost (l : List Dv) (w : World) (e : Ending) (w' : World) : Prop := e = .returned (.tuple #[.string (bs (fmtR l).1), .int .i64 (fmtR l).2]) ∧ Below w.heap.size w w'
theorem fmt_ret {l : List Dv} {w w' : World} {e : Ending} {t : List UInt8} {r : Int} (h : fmtR l = (t, r)) (hb : Below w.heap.size w w') (he : e = .returned (.tuple #[.string (bs t), .int .i64 r])) : FmtPost l w e w' := by
  unfold FmtPost
  rw [h]
  exact ⟨he, hb⟩
theorem ok_each {l : List Dv} (h : dirOk l = true) {k : Nat} (hk : k < l.length) : vlOk l[k].has l[k].value = true := by
  unfold dirOk at h
  rw [Bool.and_eq_true, List.all_eq_true] at h
  have := h.1 _ (List.getElem_mem hk)
  rw [dv_ok, Bool.and_eq_true] at this
  exact this.2
theorem ok_len {l : List Dv} (h : dirOk l = true) : l.length ≤ 32 := by
  unfold dirOk at h
  rw [Bool.and_eq_true, decide_eq_true_eq] at h
  exact h.2
theorem vl_in {b : Bool} {v : List UInt8} (h : vlOk b v = true) : v.all inU = true := by
  unfold vlOk at h
  rw [Bool.and_eq_true] at h
  exact h.2

end Go.Proofs.Ytpopkeidpohdiaa
