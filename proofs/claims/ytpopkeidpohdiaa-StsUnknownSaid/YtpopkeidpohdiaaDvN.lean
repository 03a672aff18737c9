/-
  append(v, l...) of directives; slices of directives that came in.
-/
import Derived.Test.YtpopkeidpohdiaaDvM
import Derived.Laws.AppendOwnNone
import Derived.Deep.Slices
import Derived.Deep.Fields
import Derived.ChangeSame
namespace Go.Proofs.Ytpopkeidpohdiaa
open Go.RowKit Go.ChangeShapes Go.WideShapes Go.Deep

theorem dvv_one (l : List Dv) : ∀ u ∈ dvv l, u.oneCell' = true := by
  intro u hu
  unfold dvv at hu
  rw [List.mem_flatMap] at hu
  obtain ⟨d, _, hu⟩ := hu
  simp at hu
  rcases hu with rfl | rfl | rfl <;> rfl
theorem dvv_app (l m : List Dv) : dvv l ++ dvv m = dvv (l ++ m) := by simp [dvv]
theorem addr_flat (b off j : Nat) : (⟨b, off, none⟩ : Addr).add j = ⟨b, off + j, none⟩ := by unfold Addr.add; split <;> simp_all
theorem HasDv.cells {w : World} {B n b off : Nat} {l : List Dv} (h : HasDv w B (some ⟨b, off, none⟩) n l) : ∀ (j : Nat) (u : Value), (dvv l)[j]? = some u → w.cell? ((⟨b, off, none⟩ : Addr).add j) = some u := by
  intro j u hu
  have hj : j < (dvv l).length := (List.getElem?_eq_some_iff.1 hu).1
  rw [dvv_length] at hj
  have hk : j / 3 < l.length := by omega
  have hn : 0 < n := by have := h.1; omega
  obtain ⟨b', off', e, _, hc⟩ := h.2 hn
  injection e with e
  injection e with e1 e2 _
  subst e1 e2
  obtain ⟨g0, g1, g2⟩ := dvv_get l (j / 3) hk
  obtain ⟨c0, c1, c2⟩ := hc (j / 3) hk
  rw [addr_flat]
  rcases (by omega : j = j / 3 * 3 ∨ j = j / 3 * 3 + 1 ∨ j = j / 3 * 3 + 2) with e | e | e
  · rw [e] at hu ⊢
    rw [g0] at hu
    rw [c0]
    exact hu
  · rw [e] at hu ⊢
    rw [g1] at hu
    rw [show off + (j / 3 * 3 + 1) = off + j / 3 * 3 + 1 by omega, c1]
    exact hu
  · rw [e] at hu ⊢
    rw [g2] at hu
    rw [show off + (j / 3 * 3 + 2) = off + j / 3 * 3 + 2 by omega, c2]
    exact hu

/-- append(v, x...): v owns its row, x is a slice of directives. -/
theorem wpList_app_dvs {w0 : World} (w : World) {ops : Array Oper} {rest : List Oper} {o : Oper} {a : Act} {Q : Exit → Act → World → Prop} (hgd : o.guard = none) (s x : Operand)
    (ho : o.op = .call { callee := .builtin .append, args := #[s, x], argTypes := #[29, 29] })
    (base : Nat) (v : Value) (n : Nat) (l : List Dv) (hs : a.eval s = v) (hown : w.ownsRow base 32 3 v n (dvv l))
    (A : Option Addr) (m c B : Nat) (k : List Dv) (hx : a.eval x = .slice A m c) (hA : A = none → c = 0) (hk : HasDv w B A m k)
    (h63 : n + m ≤ 1000000) (hb : Below base w0 w) (hbase : base ≤ w0.heap.size)
    (h : ∀ v' w', w'.ownsRow base 32 3 v' (n + m) (dvv (l ++ k)) → Below base w0 w' → w.grownBy w' v.ownBlock → wpList Try.prog ops Q rest (a.put o.dst v') w') : wpList Try.prog ops Q (o :: rest) a w := by
  obtain ⟨i, hi, hz0, hz1, hz2⟩ := info_parts infoDv
  have hbw : base ≤ w.heap.size := by have := hb.size; omega
  match A, hx, hA, hk with
  | none, hx, hA, hk =>
    have hm : m = 0 := by
      by_cases h0 : 0 < m
      · obtain ⟨b, off, e, _⟩ := hk.2 h0
        cases e
      · omega
    subst hm
    obtain rfl := hA rfl
    have hn : k = [] := List.eq_nil_of_length_eq_zero hk.1
    subst hn
    refine wpList_append_own_none hgd s x 29 ho base 32 i 3 tyDvs hi v n (dvv l) hs hown hx ?_
    exact h v w (by simpa using hown) hb ⟨rfl, rfl, rfl, Nat.le_refl _, fun _ _ _ => rfl⟩
  | some ad, hx, hA, hk =>
    by_cases h0 : 0 < m
    · obtain ⟨b, off, e, _⟩ := hk.2 h0
      injection e with e
      subst e
      refine wpList_append_own (w := w) hgd s x 29 ho base 32 i (.agg dz) 3 40 tyDvs hi hz0 hz1 hz2 rfl (by decide) v n (dvv l) hs hown ⟨b, off, none⟩ m c (dvv k) hx (by rw [dvv_length, hk.1]) hk.cells (dvv_one k) (by unfold maxLen; omega) (by omega) hbw ?_
      intro v' w' hown' hgrow _
      rw [dvv_app] at hown'
      exact h v' w' hown' (owns_below hown hb hbw hgrow) hgrow
    · obtain rfl : m = 0 := by omega
      have hn : k = [] := List.eq_nil_of_length_eq_zero hk.1
      subst hn
      refine wpList_append_own (w := w) hgd s x 29 ho base 32 i (.agg dz) 3 40 tyDvs hi hz0 hz1 hz2 rfl (by decide) v n (dvv l) hs hown ad 0 c [] hx rfl (fun j u hj => by simp at hj) (fun u hu => by simp at hu) (by unfold maxLen; omega) (by omega) hbw ?_
      intro v' w' hown' hgrow _
      rw [show dvv l ++ [] = dvv (l ++ []) by simp] at hown'
      exact h v' w' hown' (owns_below hown hb hbw hgrow) hgrow

/-- A row without directives. -/
theorem own_dv0 (w : World) : (w.alloc (.cells #[] 32)).ownsRow w.heap.size 32 3 (.slice (some ⟨w.heap.size, 0, none⟩) 0 0) 0 (dvv []) :=
  ⟨rfl, .inr ⟨w.heap.size, 0, #[], rfl, Nat.le_refl _, by show (w.heap.push _)[w.heap.size]? = _; simp, Nat.le_refl _, Nat.zero_le _, rfl, rfl⟩⟩

end Go.Proofs.Ytpopkeidpohdiaa
