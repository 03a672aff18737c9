/-
  Contracts of Read.
-/
import Derived.Test.YtbknpfngboioeaaDkV
namespace Go.Proofs.Ytbknpfngboioeaa
open Go.RowKit

theorem tyInt : Try.prog.underlying 3 = some (.int .i64) := by kernel_rfl
theorem tyMap : Try.prog.underlying 83 = some (.map 3 32) := by kernel_rfl
theorem kdInt : Maps.Keyed Try.prog 3 := Maps.int_keyed tyInt
theorem zeroBs (w : World) : (zeroValue 32).run Try.prog w = .ok (.slice none 0 0) w := by kernel_rfl
theorem keyInt {x : Int} (h0 : -9223372036854775808 ≤ x) (h1 : x ≤ 9223372036854775807) : keyOf Try.prog 3 (.int .i64 x) = some (.int .i64 x) :=
  Maps.keyOf_int_mk tyInt (by simp [Lit.wf, IntKind.min, IntKind.max, IntKind.signed, IntKind.bits]; omega)

/-- A key that is there. -/
theorem look_hit {w : World} {F : Nat → Prop} {a n : Nat} {S : Dsk} {sb mb m c : Nat} {A : Option Addr} {D : DataW Value} (h : PDx w F a n S sb mb A m c D) {i : Nat} {xs : List UInt8} (hi : S.ca i = some xs) :
    ∃ g, (Instr.lookup 83 (.map (some mb)) (.int .i64 i) true).run Try.prog w = .ok (.tuple #[.slice (some ⟨g, 0, none⟩) 64 64, .bool true]) w ∧ F g ∧ g ≠ sb ∧ w.heap[g]? = some (.cells (xs.map bv).toArray 5 (0, 0)) := by
  obtain ⟨g, h1, h2, h3, h4⟩ := h.val i xs hi
  have hn := (h.ok.ca i xs hi).1
  have h4096 := h.ok.n4
  obtain ⟨v, ps, hr, hv⟩ := h.map.look_ok kdInt tyMap (zeroBs w) (zd := .held (.slice none 0 0)) (zp := []) rfl (keyInt (x := (i : Int)) (by omega) (by omega))
  rw [h1, (h.has i).2 ⟨i, rfl, by rw [hi]; rfl⟩] at *
  simp only [heldR, Option.some.injEq, Prod.mk.injEq, DataW.held.injEq] at hv
  rw [hv.1] at hr
  exact ⟨g, hr, h2, h3, h4⟩
/-- A key that isn't. -/
theorem look_miss {w : World} {F : Nat → Prop} {a n : Nat} {S : Dsk} {sb mb m c : Nat} {A : Option Addr} {D : DataW Value} (h : PDx w F a n S sb mb A m c D) {x : Int} (hx0 : -9223372036854775808 ≤ x) (hx1 : x ≤ 9223372036854775807)
    (hi : ∀ i : Nat, x = i → S.ca i = none) : (Instr.lookup 83 (.map (some mb)) (.int .i64 x) true).run Try.prog w = .ok (.tuple #[.slice none 0 0, .bool false]) w := by
  have hf : Maps.has D (.int .i64 x) = false := by
    cases hh : Maps.has D (.int .i64 x) with
    | false => rfl
    | true =>
      obtain ⟨i, e, hs⟩ := (h.has x).1 hh
      rw [hi i e] at hs
      cases hs
  obtain ⟨v, ps, hr, hv⟩ := h.map.look_ok kdInt tyMap (zeroBs w) (zd := .held (.slice none 0 0)) (zp := []) rfl (keyInt hx0 hx1)
  rw [Maps.atKey_of_not_has hf] at hv
  simp only [heldR, Option.some.injEq, Prod.mk.injEq, DataW.held.injEq] at hv
  rw [hv.1, hf] at hr
  exact hr

/-- A sector's stored bytes in memory. -/
theorem has_sector {w : World} {F : Nat → Prop} {a n : Nat} {S : Dsk} {sb mb m c : Nat} {A : Option Addr} {D : DataW Value} (h : PDx w F a n S sb mb A m c D) {i : Nat} (hi : i < n) :
    Has w w.heap.size (some ⟨sb, 64 * i, none⟩) 64 ((S.st i).map bv) := by
  have hl := h.ok.st i hi
  refine ⟨by simpa using hl, fun _ => ⟨sb, 64 * i, rfl, lt_of_some h.row, fun j hj => ?_⟩⟩
  have hj64 : j < 64 := by simp [hl] at hj; exact hj
  rw [cell_of_row w sb (64 * i + j) _ _ _ h.row]
  have := flat_get h.ok.st hi hj64
  simp [this, List.getElem?_eq_getElem (show j < (S.st i).length by omega)]

section
variable {w : World} {F : Nat → Prop} {a n : Nat} {S : Dsk}
theorem begin_err (h : PD w F a n S) (ok : Bool) (he : S.err ok ≠ 0) : Calls Try.prog 51 #[.pointer (some ⟨a, 0, none⟩), .bool ok] w fun e w' => e = .returned (.tuple #[.bool false, .int .i64 (S.err ok)]) ∧ PD w' F a n (S.begun ok) ∧ Frm F w w' := by
  refine (begin_any h ok).mono ?_
  rintro e w' ⟨rfl, r⟩
  exact ⟨by simp [he], r⟩
theorem begin_fine (h : PD w F a n S) (ok : Bool) (he : S.err ok = 0) : Calls Try.prog 51 #[.pointer (some ⟨a, 0, none⟩), .bool ok] w fun e w' => e = .returned (.tuple #[.bool (S.pow ok), .int .i64 0]) ∧ PD w' F a n (S.begun ok) ∧ Frm F w w' := by
  refine (begin_any h ok).mono ?_
  rintro e w' ⟨rfl, r⟩
  exact ⟨by simp [he], r⟩
theorem err_ok {S : Dsk} {ok : Bool} (h : S.err ok = 0) : ok = true := by
  unfold Dsk.err at h
  cases ok
  · split at h
    · omega
    · simp at h
  · rfl
end

set_option maxHeartbeats 800000 in
theorem read_err {w : World} {F : Nat → Prop} {a n : Nat} {S : Dsk} (h : PD w F a n S) (i : Int) (he : S.err (inR n i) ≠ 0) :
    Calls Try.prog 11 #[.pointer (some ⟨a, 0, none⟩), .int .i64 i] w fun e w' => e = .returned (.tuple #[.slice none 0 0, .int .i64 (S.err (inR n i))]) ∧ PD w' F a n (S.begun (inR n i)) ∧ Frm F w w' := by
  have hc := contains_any h i
  have hb := begin_err h (inR n i) he
  have he' : (S.err (inR n i) == 0) = false := by simpa using he
  clear he
  generalize S.err (inR n i) = er at *
  go_enter Try.func11, Try.ntmps11
  go_wp2_with (first
    | (go_at_call 52; refine hc.mono ?_; rintro e w' ⟨rfl, rfl⟩)
    | (go_at_call 51; refine hb.mono ?_; rintro e w1 ⟨rfl, hpd, hf⟩))
  go_ret2
  exact ⟨rfl, hpd, hf⟩
set_option maxHeartbeats 800000 in
theorem read_pow {w : World} {F : Nat → Prop} {a n : Nat} {S : Dsk} (h : PD w F a n S) (i : Int) (he : S.err (inR n i) = 0) (hp : S.pow (inR n i) = true) :
    Calls Try.prog 11 #[.pointer (some ⟨a, 0, none⟩), .int .i64 i] w fun e w' => e = .returned (.tuple #[.slice none 0 0, .int .i64 10]) ∧ PD w' F a n (S.begun (inR n i)).cut ∧ Frm F w w' := by
  have hc := contains_any h i
  have hb := begin_fine h (inR n i) he
  rw [hp] at hb
  clear he hp
  go_enter Try.func11, Try.ntmps11
  go_wp2_with (first
    | (go_at_call 52; refine hc.mono ?_; rintro e w' ⟨rfl, rfl⟩)
    | (go_at_call 51; refine hb.mono ?_; rintro e w1 ⟨rfl, hpd, hf⟩)
    | (go_at_call 21; refine (cut_any hpd).mono ?_; rintro e w2 ⟨rfl, hpd2, hf2⟩))
  go_ret2
  exact ⟨rfl, hpd2, hf.trans' hf2⟩
set_option maxHeartbeats 800000 in
theorem read_yes {w : World} {F : Nat → Prop} {a n : Nat} {S : Dsk} (h : PD w F a n S) (i : Nat) (hi : i < n) (he : S.err true = 0) (hp : S.pow true = false) :
    Calls Try.prog 11 #[.pointer (some ⟨a, 0, none⟩), .int .i64 i] w fun e w' => PD w' F a n (S.begun true) ∧ Frm F w w' ∧
      ∃ g, e = .returned (.tuple #[.slice (some ⟨g, 0, none⟩) 64 64, .int .i64 0]) ∧ w.heap.size ≤ g ∧ w'.heap[g]? = some (.cells ((S.sec i).map bv).toArray 5 (0, 0)) := by
  have hin : inR n (i : Int) = true := by simp [inR, hi]
  have hc := contains_any h i
  rw [hin] at hc
  have hb := begin_fine h true he
  rw [hp] at hb
  have hsec : Hid ((S.begun true).sec i = S.sec i) := by
    show _ = _
    unfold Dsk.begun
    split <;> rfl
  have hcab : (S.begun true).ca = S.ca := by unfold Dsk.begun; split <;> rfl
  have h4 := h.ok.n4
  have hH := Lib.hid (And.intro hi (And.intro h4 hcab))
  clear he hp hin hi h4 hcab
  cases hca : S.ca i with
  | some xs =>
    have hs : Hid (S.sec i = xs) := by show _ = _; simp [Dsk.sec, hca]
    have HC := Lib.hid hca
    clear hca
    go_enter Try.func11, Try.ntmps11
    go_wp2_with (first
      | (go_at_call 52; refine hc.mono ?_; rintro e w' ⟨rfl, rfl⟩)
      | (go_at_call 51; refine hb.mono ?_; rintro e w1 ⟨rfl, hpd, hf⟩; obtain ⟨sb, mb, A, m, c, D, hx⟩ := hpd; have c1 := hx.c1; obtain ⟨g1, hl, hg1, hg2, hrow⟩ := look_hit hx (i := i) (xs := xs) (by rw [hH.out.2.2]; exact HC.out); have HX := Lib.hid hx; have HG := Lib.hid hg2; have HR := Lib.hid hrow; clear hx hg2 hrow)
      | (go_at_call 53; refine (copied_any (some ⟨g1, 0, none⟩) 64 64 _ xs w1 (has_of_row HR.out (HX.out.ok.ca i xs (by rw [hH.out.2.2]; exact HC.out)).2) (Nat.le_refl _) (by omega)).mono ?_; rintro e w2 ⟨g, rfl, hg0, hrow2, hb2⟩))
    go_ret2
    have hpd : PD w1 F a n (S.begun true) := ⟨sb, mb, A, m, c, D, HX.out⟩
    have hsz := hf.size
    exact ⟨hpd.below hb2, hf.trans' (Frm.of_below hb2), g, rfl, by omega, by rw [hs.out]; exact hrow2⟩
  | none =>
    have hs : Hid (S.sec i = S.st i) := by show _ = _; simp [Dsk.sec, hca]
    have HC := Lib.hid hca
    clear hca
    have hstb : (S.begun true).st = S.st := by unfold Dsk.begun; split <;> rfl
    have HSB := Lib.hid hstb
    clear hstb
    go_enter Try.func11, Try.ntmps11
    go_wp2_with (first
      | (go_at_call 52; refine hc.mono ?_; rintro e w' ⟨rfl, rfl⟩)
      | (go_at_call 51; refine hb.mono ?_; rintro e w1 ⟨rfl, hpd, hf⟩; obtain ⟨sb, mb, A, m, c, D, hx⟩ := hpd; have c1 := hx.c1; have hl := look_miss hx (x := (i : Int)) (by omega) (by have := hH.out; omega) (fun j e => by rw [hH.out.2.2, show j = i by omega]; exact HC.out); have HX := Lib.hid hx; clear hx)
      | (go_at_call 54; refine (stored_any HX.out i hH.out.1).mono ?_; rintro e w' ⟨rfl, rfl⟩)
      | (go_at_call 53; refine (copied_any (some ⟨sb, 64 * i, none⟩) 64 (64 * n - 64 * i) w1.heap.size (S.st i) w1 (by rw [← HSB.out]; exact has_sector HX.out hH.out.1) (Nat.le_refl _) (by omega)).mono ?_; rintro e w2 ⟨g, rfl, hg0, hrow2, hb2⟩))
    go_ret2
    have hpd : PD w1 F a n (S.begun true) := ⟨sb, mb, A, m, c, D, HX.out⟩
    have hsz := hf.size
    exact ⟨hpd.below hb2, hf.trans' (Frm.of_below hb2), g, rfl, by omega, by rw [hs.out]; exact hrow2⟩

end Go.Proofs.Ytbknpfngboioeaa
