/-
  Contracts of hstsstorekeep.Bytes and hstsstorekeep.OwnBytes (over TyB).
-/
import Derived.Test.YtmfoegpdjajicaaTyB
namespace Go.Proofs.Ytmfoegpdjajicaa
open Go.RowKit

/-- Equal as lists of bytes. -/
def eqL (l m : List UInt8) : Bool := decide (l = m)
set_option maxHeartbeats 400000 in
theorem bytes_any (A1 A2 : Option Addr) (n1 c1 n2 c2 B : Nat) (l m : List UInt8) (w : World) (h1 : Has w B A1 n1 (l.map bv)) (h2 : Has w B A2 n2 (m.map bv)) :
    Calls Try.prog 13 #[.slice A1 n1 c1, .slice A2 n2 c2] w fun e w' => e = .returned (.bool (eqL l m)) ∧ w = w' := by
  have e1 := str_has w A1 n1 c1 B l h1
  have e2 := str_has w A2 n2 c2 B m h2
  have HE : Hid (((bs l).toList == (bs m).toList) = eqL l m) := by
    show _ = _
    rw [toList_ls, toList_ls, ls_bs, ls_bs]
    unfold eqL
    by_cases h : l = m
    · subst h; simp
    · rw [decide_eq_false h, beq_eq_false_iff_ne]; exact h
  clear h1 h2
  go_enter Try.func13, Try.ntmps13
  go_wp2
  go_ret
  exact ⟨ret_bool (by rw [← HE.out]), rfl⟩

set_option maxHeartbeats 400000 in
theorem ownBytes_any (A : Option Addr) (len cap B : Nat) (l : List UInt8) (w : World) (hA : Has w B A len (l.map bv)) (hcap : A = none → cap = 0) (hlen : len ≤ 1000000000) (hB : B ≤ w.heap.size) :
    Calls Try.prog 9 #[.slice A len cap] w fun e w' => (∃ v, e = .returned v ∧ w'.ownsRow w.heap.size 5 1 v len (l.map bv)) ∧ Below w.heap.size w w' := by
  obtain ⟨i5, hi5, hz0, hz1, hz2⟩ := info_parts infoU8
  have hown := own_empty w 5
  have hb := (Below.refl w.heap.size w).alloc (Nat.le_refl _) (.cells #[] 5)
  have hA' := hA.alloc hB (.cells #[] 5)
  clear hA
  go_enter Try.func9, Try.ntmps9
  go_wp2_with (at_builtin; refine wpList_app_has _ rfl _ _ 22 rfl w.heap.size 5 i5 (.int .u8 0) 1 tyBs hi5 hz0 hz1 hz2 rfl _ _ _ (by exact rfl) hown A len cap _ (l.map bv) (by exact rfl) hcap hA' (one_bytes l) (by unfold maxLen; omega) (by omega) hb (Nat.le_refl _) ?_; intro v' w' hown' hb' _)
  go_ret
  exact ⟨⟨v', rfl, by simpa using hown'⟩, hb'⟩

end Go.Proofs.Ytmfoegpdjajicaa
