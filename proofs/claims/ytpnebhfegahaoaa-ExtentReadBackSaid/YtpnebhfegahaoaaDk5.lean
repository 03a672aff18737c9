/-
  Contracts of armedKind and begin.
-/
import Derived.Test.YtpnebhfegahaoaaDk4
namespace Go.Proofs.Ytpnebhfegahaoaa
open Go.RowKit

set_option maxHeartbeats 400000 in
theorem armedKind_any {w : World} {F : Nat → Prop} {a n : Nat} {S : Dsk} (h : PD w F a n S) (z : Int) :
    Calls Try.prog 70 #[.pointer (some ⟨a, 0, none⟩), .int .i64 z] w fun e w' => e = .returned (.int .i64 (fk S.fs z)) ∧ Below w.heap.size w w' := by
  obtain ⟨sb, mb, A, m, c, D, h⟩ := h
  have c2 := h.c2
  have HF := Lib.hid h.flt
  have HM := h.m64
  generalize S.fs = fs at HF ⊢
  clear h
  go_enter Try.func70, Try.ntmps70
  go_wp2
  go_loopw [12] (fun i wr => ∃ k : Nat, k ≤ m ∧ i = .int .i64 k ∧ Hid (Below w.heap.size w wr ∧ fk fs z = fk (fs.drop k) z)) (fun i _ => m - (intOf i).toNat)
  case atStart => exact ⟨0, Nat.zero_le _, rfl, Below.refl _ _, by simp⟩
  case round =>
    obtain ⟨k, hk, rfl, HR⟩ := hrel
    by_cases hlt : k < m
    · obtain ⟨b, cur, rfl, hFb, hrow, hc⟩ := HF.out.2 (by omega)
      have hkf : k < fs.length := by rw [HF.out.1]; exact hlt
      obtain ⟨h1, h2⟩ := hc k hkf
      have d1 := (HR.out.1.cell (p := ⟨b, k * 2, none⟩) (lt_of_some hrow)).trans ((cell_of_row w b (k * 2) _ _ _ hrow).trans h1)
      have d2 := (HR.out.1.cell (p := ⟨b, k * 2 + 1, none⟩) (lt_of_some hrow)).trans ((cell_of_row w b (k * 2 + 1) _ _ _ hrow).trans h2)
      have hstep : Hid (fk fs z = if fs[k].1 = z then fs[k].2 else fk (fs.drop (k + 1)) z) := by
        show _ = _
        rw [HR.out.2, List.drop_eq_getElem_cons hkf, fk_cons]
      generalize fs[k].1 = p1 at d1 hstep
      generalize fs[k].2 = p2 at d2 hstep
      clear hc h1 h2 hkf
      have hrow' := Lib.hid hrow
      clear hrow
      by_cases he : p1 = z
      · go_wp2
        go_ret
        exact ⟨ret_int (by rw [hstep.out, if_pos he]), HR.out.1.alloc HR.out.1.size _⟩
      · have he' : (p1 == z) = false := by simpa using he
        have HE := Lib.hid he
        clear he
        go_wp2
        go_roundw
        case rel => exact ⟨k + 1, by omega, by go_num, ⟨HR.out.1.alloc HR.out.1.size _, by rw [hstep.out, if_neg HE.out]⟩⟩
        case measure => simp [intOf]; omega
    · have hkm : k = m := by omega
      have hz : fk fs z = 0 := by rw [HR.out.2, List.drop_of_length_le (by rw [HF.out.1]; omega)]; rfl
      have hz' := Lib.hid hz
      clear hz
      go_wp2
      go_ret
      exact ⟨ret_int hz'.out.symm, HR.out.1⟩

set_option maxHeartbeats 800000 in
theorem begin_any {w : World} {F : Nat → Prop} {a n : Nat} {S : Dsk} (h : PD w F a n S) (ok : Bool) :
    Calls Try.prog 54 #[.pointer (some ⟨a, 0, none⟩), .bool ok] w fun e w' => e = .returned (.tuple #[.bool (S.pow ok && decide (S.err ok = 0)), .int .i64 (S.err ok)]) ∧ PD w' F a n (S.begun ok) ∧ Frm F w w' := by
  cases ho : S.off with
  | true =>
    have h1 : S.pow ok = false := by simp [Dsk.pow, ho]
    have h2 : S.err ok = 10 := by simp [Dsk.err, ho]
    have h3 : S.begun ok = S := by simp [Dsk.begun, ho]
    rw [h1, h2, h3]
    go_enter Try.func54, Try.ntmps54
    go_wp2_with (go_at_call 27; refine (off_any h).mono ?_; rintro e w' ⟨rfl, rfl⟩)
    go_ret2
    exact ⟨rfl, h, Frm.refl _ _⟩
  | false =>
    cases ok with
    | false =>
      have h1 : S.pow false = false := by simp [Dsk.pow]
      have h2 : S.err false = 2 := by simp [Dsk.err, ho]
      have h3 : S.begun false = S := by simp [Dsk.begun]
      rw [h1, h2, h3]
      go_enter Try.func54, Try.ntmps54
      go_wp2_with (go_at_call 27; refine (off_any h).mono ?_; rintro e w' ⟨rfl, rfl⟩)
      go_ret2
      exact ⟨rfl, h, Frm.refl _ _⟩
    | true =>
      have h3 : S.begun true = S.tick := by simp [Dsk.begun, ho]
      have h2 : S.err true = if S.kind = 1 then 9 else 0 := by simp [Dsk.err, ho]
      have h1 : S.pow true = decide (S.kind = 2) := by simp [Dsk.pow, ho]
      rw [h1, h2, h3]
      have hx := h
      obtain ⟨sb, mb, A, m, c, D, hx⟩ := hx
      have c3 := hx.c3
      have f3 := hx.fr 3
      have lt := hx.lt a hx.fa
      have hk : Hid (fk S.fs S.cnt = S.kind) := rfl
      have hcell : Hid (∀ w1, Below w.heap.size w w1 → PD (w1.setCell ⟨a, 3, none⟩ (.int .i64 (wrap64 (S.cnt + 1)))) F a n S.tick ∧ Frm F w (w1.setCell ⟨a, 3, none⟩ (.int .i64 (wrap64 (S.cnt + 1))))) := by
        intro w1 hb
        have hf : Frm (fun b => b = a) w (w1.setCell ⟨a, 3, none⟩ (.int .i64 (wrap64 (S.cnt + 1)))) := (Frm.of_below (F := fun b => b = a) hb).setCell (p := ⟨a, 3, none⟩) (.inl rfl) _
        refine ⟨⟨sb, mb, A, m, c, D, hx.fields hf hx.ok.tick rfl rfl rfl ?_⟩, hf.more fun b e _ => by subst e; exact hx.fa⟩
        have := set_field (j := 3) (v := .int .i64 (wrap64 (S.cnt + 1))) ((hb.block a (lt_of_some hx.cells)).trans hx.cells)
        simpa [Dsk.tick] using this
      clear h1 h2 h3 hx
      generalize S.kind = q at hk ⊢
      have hoff := Lib.hid ho
      clear ho
      by_cases hq1 : q = 1
      · subst hq1
        go_enter Try.func54, Try.ntmps54
        go_wp2_with (first
          | (go_at_call 27; refine (off_any h).mono ?_; rintro e w' ⟨rfl, rfl⟩; rw [hoff.out])
          | (go_at_call 70; refine (armedKind_any h _).mono ?_; rintro e w1 ⟨rfl, hb1⟩; rw [hk.out]; have d3 := (hb1.cell (p := ⟨a, 3, none⟩) lt).trans c3; have g3 := (hb1.frozen (p := ⟨a, 3, none⟩) lt).trans f3))
        go_ret2
        exact ⟨by simp, hcell.out _ hb1⟩
      · have hq1' : (q == 1) = false := by simpa using hq1
        have HQ := Lib.hid hq1
        clear hq1
        have hres : Hid ((if q = 1 then (9 : Int) else 0) = 0) := by show _ = _; rw [if_neg HQ.out]
        generalize (if q = 1 then (9 : Int) else 0) = er at hres
        go_enter Try.func54, Try.ntmps54
        go_wp2_with (first
          | (go_at_call 27; refine (off_any h).mono ?_; rintro e w' ⟨rfl, rfl⟩; rw [hoff.out])
          | (go_at_call 70; refine (armedKind_any h _).mono ?_; rintro e w1 ⟨rfl, hb1⟩; rw [hk.out]; have d3 := (hb1.cell (p := ⟨a, 3, none⟩) lt).trans c3; have g3 := (hb1.frozen (p := ⟨a, 3, none⟩) lt).trans f3))
        go_ret2
        exact ⟨by rw [hres.out]; simp [Act.eval, Array.getD]; by_cases hq2 : q = 2 <;> simp [hq2], hcell.out _ hb1⟩

end Go.Proofs.Ytpnebhfegahaoaa
