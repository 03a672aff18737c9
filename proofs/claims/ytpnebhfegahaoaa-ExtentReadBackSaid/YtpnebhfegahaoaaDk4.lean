/-
  Contracts of Off, Cut, contains, arm, storedSector.
-/
import Derived.Test.YtpnebhfegahaoaaDk3
namespace Go.Proofs.Ytpnebhfegahaoaa
open Go.RowKit

set_option maxHeartbeats 400000 in
theorem off_nil (w : World) : Calls Try.prog 27 #[.pointer none] w fun e w' => e = .returned (.bool true) ∧ w = w' := by
  go_enter Try.func27, Try.ntmps27
  go_wp2
  go_ret
  exact ⟨rfl, rfl⟩
set_option maxHeartbeats 400000 in
theorem off_any {w : World} {F : Nat → Prop} {a n : Nat} {S : Dsk} (h : PD w F a n S) : Calls Try.prog 27 #[.pointer (some ⟨a, 0, none⟩)] w fun e w' => e = .returned (.bool S.off) ∧ w = w' := by
  obtain ⟨sb, mb, A, m, c, D, h⟩ := h
  have c4 := h.c4
  clear h
  go_enter Try.func27, Try.ntmps27
  go_wp2
  go_ret
  exact ⟨ret_bool (by simp), rfl⟩
set_option maxHeartbeats 400000 in
theorem cut_nil (w : World) : Calls Try.prog 42 #[.pointer none] w fun e w' => e = .returned (.tuple #[]) ∧ w = w' := by
  go_enter Try.func42, Try.ntmps42
  go_wp2
  go_end0
  exact ⟨rfl, rfl⟩
set_option maxHeartbeats 400000 in
theorem cut_any {w : World} {F : Nat → Prop} {a n : Nat} {S : Dsk} (h : PD w F a n S) : Calls Try.prog 42 #[.pointer (some ⟨a, 0, none⟩)] w fun e w' => e = .returned (.tuple #[]) ∧ PD w' F a n S.cut ∧ Frm F w w' := by
  obtain ⟨sb, mb, A, m, c, D, h⟩ := h
  have c4 := h.c4
  have f4 := h.fr 4
  have HH := Lib.hid h
  clear h
  go_enter Try.func42, Try.ntmps42
  go_wp2
  go_end0
  have h := HH.out
  have hf : Frm (fun b => b = a) w (w.setCell ⟨a, 4, none⟩ (.bool true)) := (Frm.refl (fun b => b = a) w).setCell (p := ⟨a, 4, none⟩) (.inl rfl) _
  refine ⟨rfl, ⟨sb, mb, A, m, c, D, h.fields hf h.ok.cut rfl rfl rfl ?_⟩, hf.more fun b e _ => by subst e; exact h.fa⟩
  have := set_field (j := 4) (v := .bool true) h.cells
  simpa [Dsk.cut] using this
set_option maxHeartbeats 400000 in
theorem contains_any {w : World} {F : Nat → Prop} {a n : Nat} {S : Dsk} (h : PD w F a n S) (i : Int) : Calls Try.prog 68 #[.pointer (some ⟨a, 0, none⟩), .int .i64 i] w fun e w' => e = .returned (.bool (inR n i)) ∧ w = w' := by
  by_cases h0 : 0 ≤ i
  · have hp : inR n i = decide (i < n) := by simp [inR, h0]
    have hp' := Lib.hid hp
    clear hp
    go_enter Try.func68, Try.ntmps68
    go_wp2_with (go_at_call 62; refine (sectors_any h).mono ?_; rintro e w' ⟨rfl, rfl⟩)
    go_ret
    exact ⟨ret_bool (by rw [hp'.out]), rfl⟩
  · have hp : inR n i = false := by simp [inR, h0]
    have hp' := Lib.hid hp
    clear hp
    go_enter Try.func68, Try.ntmps68
    go_wp2_with (go_at_call 62; refine (sectors_any h).mono ?_; rintro e w' ⟨rfl, rfl⟩)
    go_ret
    exact ⟨ret_bool (by rw [hp'.out]), rfl⟩

/-- Other faults, and the count from 0 again. -/
theorem PDx.arm {w w' : World} {F : Nat → Prop} {a n : Nat} {S : Dsk} {sb mb m c m' c' : Nat} {A A' : Option Addr} {D : DataW Value} (h : PDx w F a n S sb mb A m c D)
    (hf : Frm (fun b => b = a) w w') (fs : List (Int × Int)) (hfl : FltAt w F A' m' fs) (hm : m' ≤ 64)
    (hc : w'.heap[a]? = some (.cells #[.slice (some ⟨sb, 0, none⟩) (64 * n) (64 * n), .map (some mb), .slice A' m' c', .int .i64 0, .bool S.off] 86 (0, 0))) : PD w' F a n (S.armed fs) := by
  have hne : ∀ (b : Nat) (o : Obj), w.heap[b]? = some o → o ≠ Obj.cells #[.slice (some ⟨sb, 0, none⟩) (64 * n) (64 * n), .map (some mb), .slice A m c, .int .i64 S.cnt, .bool S.off] 86 (0, 0) → w'.heap[b]? = some o := by
    intro b o ho hn
    refine hf.obj ho fun e => hn ?_
    subst e
    rw [h.cells] at ho
    exact (Option.some.inj ho).symm
  have hmb : mb ≠ a := by
    rintro rfl
    obtain ⟨es, clock, hb, _⟩ := h.map
    rw [h.cells] at hb
    cases hb
  refine ⟨sb, mb, A', m', c', D, h.ok.armed fs, hc, hne _ _ h.row (by intro e; injection e with _ e _; cases e), maps_frm h.map hf hmb, h.has, fun i xs hi => ?_, ⟨hfl.1, fun h0 => ?_⟩, hm, h.fa, h.fs, h.fm, fun k hk => by have := h.lt k hk; have := hf.size; omega⟩
  · obtain ⟨g, h1, h2, h3, h4⟩ := h.val i xs hi
    exact ⟨g, h1, h2, h3, hne _ _ h4 (by intro e; injection e with _ e _; cases e)⟩
  · obtain ⟨b, cur, e, hb, hc', r⟩ := hfl.2 h0
    exact ⟨b, cur, e, hb, hne _ _ hc' (by intro e; injection e with _ e _; cases e), r⟩
set_option maxHeartbeats 400000 in
theorem arm_in {w : World} {F : Nat → Prop} {a n : Nat} {S : Dsk} (h : PD w F a n S) (A : Option Addr) (m c : Nat) (fs : List (Int × Int)) (hfl : FltAt w F A m fs) (hm : m ≤ 64) :
    Calls Try.prog 59 #[.pointer (some ⟨a, 0, none⟩), .slice A m c] w fun e w' => e = .returned (.tuple #[]) ∧ PD w' F a n (S.armed fs) ∧ Frm F w w' := by
  obtain ⟨sb, mb, A', m', c', D, h⟩ := h
  have c2 := h.c2
  have c3 := h.c3
  have f2 := h.fr 2
  have f3 := h.fr 3
  have HH := Lib.hid h
  have HF := Lib.hid hfl
  have HM := Lib.hid hm
  clear h hfl hm
  go_enter Try.func59, Try.ntmps59
  go_wp2
  go_end0
  have h := HH.out
  have hf : Frm (fun b => b = a) w ((w.setCell ⟨a, 2, none⟩ (.slice A m c)).setCell ⟨a, 3, none⟩ (.int .i64 0)) := ((Frm.refl (fun b => b = a) w).setCell (p := ⟨a, 2, none⟩) (.inl rfl) _).setCell (p := ⟨a, 3, none⟩) (.inl rfl) _
  refine ⟨rfl, h.arm hf fs HF.out HM.out (A' := A) (c' := c) ?_, hf.more fun b e _ => by subst e; exact h.fa⟩
  have := set_field (j := 3) (v := .int .i64 0) (set_field (j := 2) (v := .slice A m c) h.cells)
  simpa using this

set_option maxHeartbeats 400000 in
theorem stored_any {w : World} {F : Nat → Prop} {a n : Nat} {S : Dsk} {sb mb m c : Nat} {A : Option Addr} {D : DataW Value} (h : PDx w F a n S sb mb A m c D) (i : Nat) (hi : i < n) :
    Calls Try.prog 55 #[.pointer (some ⟨a, 0, none⟩), .int .i64 i] w fun e w' => e = .returned (.slice (some ⟨sb, 64 * i, none⟩) 64 (64 * n - 64 * i)) ∧ w = w' := by
  have c0 := h.c0
  have hn := h.ok.n4
  clear h
  obtain ⟨L, hL⟩ : ∃ L, L = 64 * n := ⟨_, rfl⟩
  obtain ⟨x, hx⟩ : ∃ x, x = 64 * i := ⟨_, rfl⟩
  obtain ⟨y, hy⟩ : ∃ y, y = x + 64 := ⟨_, rfl⟩
  have w1 : wrap64 ((i : Int) * 64) = (x : Int) := by unfold wrap64; omega
  have w2 : wrap64 ((i : Int) + 1) = (i : Int) + 1 := by unfold wrap64; omega
  have w3 : wrap64 (((i : Int) + 1) * 64) = (y : Int) := by unfold wrap64; omega
  have hxy : x ≤ y := by omega
  have hyL : y ≤ L := by omega
  rw [← hL] at c0 ⊢
  rw [← hx]
  have hy64 : Hid (y - x = 64) := by show _ = _; omega
  have hib : (i : Int) ≤ 4096 := by omega
  have hyb : (y : Int) ≤ 262144 := by omega
  have hw1 : (i : Int) * 64 = (x : Int) := by omega
  have hw3 : ((i : Int) + 1) * 64 = (y : Int) := by omega
  clear hL hx hy hn hi
  go_enter Try.func55, Try.ntmps55
  go_wp2
  go_ret
  exact ⟨(show Ending.returned (.slice (some ⟨sb, x, none⟩) (y - x) (L - x)) = _ by rw [hy64.out]), rfl⟩

end Go.Proofs.Ytpnebhfegahaoaa
