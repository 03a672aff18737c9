/-
  What a walk of a statement is told of a slice of bytes that came in ('In8').
-/
import Derived.Test.YtfnoahbhccgbgaaKeepB
import Derived.Test.YtfnoahbhccgbgaaYes
namespace Go.Proofs.Ytfnoahbhccgbgaa
open Go.RowKit


/-- What a walk is told of a slice of bytes that came in. -/
def In8 (w : World) (a : Option Addr) (len cap : Nat) (zs : List Int) : Prop :=
  (a = none ∧ len = 0 ∧ cap = 0 ∧ zs = []) ∨
  ∃ x, a = some x ∧ len ≤ cap ∧ cap ≤ maxLen ∧ zs.length = cap ∧ (∀ i, i < zs.length → w.cell? (x.add i) = some (.int .u8 (zs.getD i 0))) ∧ ∀ n ∈ zs, (Lit.int .u8 n).wf = true
theorem eqL_refl (l : List UInt8) : eqL l l = true := by simp [eqL]
theorem map_append_bv (l m : List UInt8) : l.map bv ++ m.map bv = (l ++ m).map bv := by rw [List.map_append]

/-- The room of a row that a value owns is no more than the machine's. -/
theorem own_cap {w : World} {base e n : Nat} {v : Value} {xs : List Value} (h : w.ownsRow base e 1 v n xs) : ∀ A m c, v = .slice A m c → c ≤ maxLen := by
  rintro A m c rfl
  rcases h.2 with ⟨he, _⟩ | ⟨g, cap, cur, he, _, _, _, hc, _⟩
  · injection he with _ _ he; subst he; exact Nat.zero_le _
  · injection he with _ _ he; subst he; exact hc

/-- A row that a value owns and that is not empty, read as a list. -/
theorem has_own {w : World} {base e n : Nat} {v : Value} {xs : List Value} (h : w.ownsRow base e 1 v n xs) (hn : 0 < n) : ∃ g c, v = .slice (some ⟨g, 0, none⟩) n c ∧ Has w w.heap.size (some ⟨g, 0, none⟩) n xs ∧ n ≤ c := by
  obtain ⟨A, c, rfl, hh, hc⟩ := Has.of_own h
  obtain ⟨g, cap, he, _⟩ := owns_cell h hn
  injection he with h1 h2 h3
  subst h1
  exact ⟨g, c, rfl, hh, hc⟩

end Go.Proofs.Ytfnoahbhccgbgaa
