/-
  The reference's First of layer 21.
-/
import Derived.Test.YtmfoegpdjajicaaFdA
namespace Go.Proofs.Ytmfoegpdjajicaa
open Go.RowKit

set_option maxHeartbeats 1000000 in
theorem refFirst_any (A : Option Addr) (c : Nat) (l : List Fv) (s : ByteArray) (w : World) (hH : HasFd w w.heap.size A l.length l) (hl : l.length ≤ 1000000) (hs : s.size ≤ 1000000000) (hz : ∀ x ∈ l, x.name.length ≤ 1000000000) :
    Calls Try.prog 18 #[.slice A l.length c, .string s] w fun e w' => e = .returned (.tuple #[.string (bs ((fall l (ls s)).headD [])), .bool (!(fall l (ls s)).isEmpty)]) ∧ Below w.heap.size w w' := by
  have ca := refAll_any A c l s w hH hl hs hz
  have hfl := fall_len l (ls s)
  generalize fall l (ls s) = F at *
  go_enter Try.func18, Try.ntmps18
  go_wp2_with fail
  refine ca.mono ?_
  rintro e w1 ⟨v, n, rfl, hown, hb⟩
  obtain ⟨A1, c1, rfl, hh, hc⟩ := Has.of_own hown
  have hn : n = F.length := by have := hh.1; rw [wv_length] at this; omega
  subst hn
  clear hown ca
  cases F with
  | nil =>
    go_wp2
    go_ret2
    exact ⟨rfl, hb⟩
  | cons x r =>
    obtain ⟨b, off, rfl, hc1⟩ := str_cell hh 0 (by simp)
    rw [List.getD_cons_zero, Nat.add_zero] at hc1
    simp only [List.length_cons] at hfl hc ⊢
    generalize r.length = m at *
    clear hh
    go_wp2
    go_ret2
    exact ⟨rfl, hb⟩

end Go.Proofs.Ytmfoegpdjajicaa
