/-
  Contracts of the reference's Off, Cut, Sectors, fault, content, Read.
-/
import Derived.Test.YtpnebhfegahaoaaDr2
import Derived.BigQuiet
import Derived.Test.YtpnebhfegahaoaaDkB
namespace Go.Proofs.Ytpnebhfegahaoaa
open Go.RowKit

theorem tyRows' : Try.prog.underlying 88 = some (.slice 34) := by kernel_rfl
set_option maxHeartbeats 400000 in
theorem roff_any {w : World} {F : Nat → Prop} {a n : Nat} {S : Dsk} (h : RD w F a n S) : Calls Try.prog 28 #[.pointer (some ⟨a, 0, none⟩)] w fun e w' => e = .returned (.bool S.off) ∧ w = w' := by
  obtain ⟨r1, r2, c1, c2, A, m, c, V1, V2, h⟩ := h
  have c4 := h.e4
  clear h
  go_enter Try.func28, Try.ntmps28
  go_wp2
  go_ret
  exact ⟨ret_bool (by simp), rfl⟩
set_option maxHeartbeats 400000 in
theorem rcut_any {w : World} {F : Nat → Prop} {a n : Nat} {S : Dsk} (h : RD w F a n S) : Calls Try.prog 43 #[.pointer (some ⟨a, 0, none⟩)] w fun e w' => e = .returned (.tuple #[]) ∧ RD w' F a n S.cut ∧ Frm F w w' := by
  obtain ⟨r1, r2, c1, c2, A, m, c, V1, V2, h⟩ := h
  have c4 := h.e4
  have f4 := h.fr 4
  have HH := Lib.hid h
  clear h
  go_enter Try.func43, Try.ntmps43
  go_wp2
  go_end0
  have h := HH.out
  have hf : Frm (fun b => b = a) w (w.setCell ⟨a, 4, none⟩ (.bool true)) := (Frm.refl (fun b => b = a) w).setCell (p := ⟨a, 4, none⟩) (.inl rfl) _
  refine ⟨rfl, ⟨r1, r2, c1, c2, A, m, c, V1, V2, h.fields hf h.ok.cut rfl rfl rfl ?_⟩, hf.more fun b e _ => by subst e; exact h.fa⟩
  have := set_field (j := 4) (v := .bool true) h.cells
  simpa [Dsk.cut] using this
set_option maxHeartbeats 400000 in
theorem rsectors_any {w : World} {F : Nat → Prop} {a n : Nat} {S : Dsk} (h : RD w F a n S) : Calls Try.prog 63 #[.pointer (some ⟨a, 0, none⟩)] w fun e w' => e = .returned (.int .i64 n) ∧ w = w' := by
  obtain ⟨r1, r2, c1, c2, A, m, c, V1, V2, h⟩ := h
  have c0 := h.e0
  clear h
  go_enter Try.func63, Try.ntmps63
  go_wp2
  go_ret
  exact ⟨rfl, rfl⟩

theorem rtick {w : World} {F : Nat → Prop} {a n : Nat} {S : Dsk} {r1 r2 c1 c2 m c : Nat} {A : Option Addr} {V1 V2 : Nat → Value} (h1 : RDx w F a n S r1 r2 c1 c2 A m c V1 V2) :
    RDx (w.setCell ⟨a, 3, none⟩ (.int .i64 (wrap64 (S.cnt + 1)))) F a n S.tick r1 r2 c1 c2 A m c V1 V2 ∧ Frm (fun b => b = a) w (w.setCell ⟨a, 3, none⟩ (.int .i64 (wrap64 (S.cnt + 1)))) := by
  have hf : Frm (fun b => b = a) w (w.setCell ⟨a, 3, none⟩ (.int .i64 (wrap64 (S.cnt + 1)))) := (Frm.refl (fun b => b = a) w).setCell (p := ⟨a, 3, none⟩) (.inl rfl) _
  refine ⟨h1.fields hf h1.ok.tick rfl rfl rfl ?_, hf⟩
  have := set_field (j := 3) (v := .int .i64 (wrap64 (S.cnt + 1))) h1.cells
  rw [this]
  rfl
set_option maxRecDepth 20000 in
set_option maxHeartbeats 1600000 in
theorem rfault_any {w : World} {F : Nat → Prop} {a n : Nat} {S : Dsk} (h : RD w F a n S) : Calls Try.prog 56 #[.pointer (some ⟨a, 0, none⟩)] w fun e w' => e = .returned (.int .i64 S.kind) ∧ RD w' F a n S.tick ∧ Frm F w w' := by
  obtain ⟨r1, r2, c1, c2, A, m, c, V1, V2, h⟩ := h
  have HH := Lib.hid h
  have k2 := h.e2
  have hm := h.m64
  have hmw : wrap64 ((m : Int) - 1) = (m : Int) - 1 := by unfold wrap64; omega
  have lta := h.lt a h.fa
  clear h
  go_enter Try.func56, Try.ntmps56
  go_wp2
  go_loopw [3, 4] (fun kv iv wr => ∃ (k : Nat) (z : Int), k ≤ m ∧ z = (k : Int) - 1 ∧ iv = .int .i64 z ∧ kv = .int .i64 (fk (S.fs.drop k) S.cnt) ∧ Hid (Below w.heap.size w wr)) (fun _ iv _ => (RowKit.intOf iv + 1).toNat)
  case atStart => exact ⟨m, (m : Int) - 1, Nat.le_refl _, rfl, rfl, by rw [List.drop_of_length_le (by rw [HH.out.flt.1]; exact Nat.le_refl _)]; rfl, Below.refl _ _⟩
  case round =>
    obtain ⟨k, z, hk, hz, rfl, rfl, HR⟩ := hrel
    have a2 := (HR.out.cell (p := ⟨a, 2, none⟩) lta).trans k2
    have a3 := (HR.out.cell (p := ⟨a, 3, none⟩) lta).trans HH.out.e3
    by_cases hk0 : k = 0
    · subst hk0
      have hz1 : z = -1 := by omega
      subst hz1
      clear hz hk
      have hd : Hid (fk (S.fs.drop 0) S.cnt = S.kind) := rfl
      generalize fk (S.fs.drop 0) S.cnt = kd at hd ⊢
      have f3 := (HR.out.frozen (p := ⟨a, 3, none⟩) lta).trans (HH.out.fr 3)
      go_wp2
      go_ret
      have h1 := HH.out.keep (G := fun _ => False) (Frm.of_below HR.out) fun _ h => h.elim
      obtain ⟨h2, hf⟩ := rtick h1
      exact ⟨ret_int hd.out, ⟨r1, r2, c1, c2, A, m, c, V1, V2, h2⟩, (Frm.of_below HR.out).trans hf fun b e => .inl (e ▸ h1.fa)⟩
    · obtain ⟨j, rfl⟩ : ∃ j, k = j + 1 := ⟨k - 1, by omega⟩
      have hzj : z = (j : Int) := by omega
      subst hzj
      obtain ⟨b, cur, rfl, hFb, hrow, hc⟩ := HH.out.flt.2 (by omega)
      have hjf : j < S.fs.length := by rw [HH.out.flt.1]; omega
      obtain ⟨h1, h2⟩ := hc j hjf
      have d1 := (HR.out.cell (p := ⟨b, j * 2, none⟩) (lt_of_some hrow)).trans ((cell_of_row w b (j * 2) _ _ _ hrow).trans h1)
      have d2 := (HR.out.cell (p := ⟨b, j * 2 + 1, none⟩) (lt_of_some hrow)).trans ((cell_of_row w b (j * 2 + 1) _ _ _ hrow).trans h2)
      have hstep : Hid (fk (S.fs.drop j) S.cnt = if S.fs[j].1 = S.cnt then S.fs[j].2 else fk (S.fs.drop (j + 1)) S.cnt) := by
        show _ = _
        rw [List.drop_eq_getElem_cons hjf, fk_cons]
      generalize S.fs[j].1 = p1 at d1 hstep
      generalize S.fs[j].2 = p2 at d2 hstep
      have hjm : (j : Int) < (m : Int) := by omega
      have hj64 : (j : Int) ≤ 64 := by omega
      have hjw : wrap64 ((j : Int) - 1) = (j : Int) - 1 := by unfold wrap64; omega
      have hrow' := Lib.hid hrow
      clear hc h1 h2 hjf hz hk0 hrow
      by_cases he : p1 = S.cnt
      · have he' : (p1 == S.cnt) = true := by simpa using he
        have HE := Lib.hid he
        clear he
        go_wp2
        go_quiet (fail)
        go_wp2
        go_roundw
        case rel => exact ⟨j, (j : Int) - 1, by omega, rfl, by go_num, by rw [hstep.out, if_pos HE.out], HR.out.trans (below_drewN _ _ _)⟩
        case measure => simp [RowKit.intOf]
      · have he' : (p1 == S.cnt) = false := by simpa using he
        have HE := Lib.hid he
        clear he
        go_wp2
        go_quiet (fail)
        go_wp2
        go_roundw
        case rel => exact ⟨j, (j : Int) - 1, by omega, rfl, by go_num, by rw [hstep.out, if_neg HE.out], HR.out.trans (below_drewN _ _ _)⟩
        case measure => simp [RowKit.intOf]

set_option maxHeartbeats 800000 in
theorem rcontent_any {w : World} {F : Nat → Prop} {a n : Nat} {S : Dsk} (h : RD w F a n S) (i : Nat) (hi : i < n) : Calls Try.prog 69 #[.pointer (some ⟨a, 0, none⟩), .int .i64 i] w fun e w' => (∃ v, e = .returned v ∧ Sl w F v (S.sec i)) ∧ w = w' := by
  obtain ⟨r1, r2, c1, c2, A, m, c, V1, V2, h⟩ := h
  have k0 := h.e0
  have k1 := h.e1
  have d1 := h.row1.cell hi
  have d2 := h.row2.cell hi
  have hv1 := h.v1 i hi
  have hv2 := h.v2 i hi
  have hib : (i : Int) < (n : Int) := by omega
  have h4 := h.ok.n4
  have hi4 : (i : Int) ≤ 4096 := by omega
  clear h h4
  cases hc : S.ca i with
  | none =>
    have hs : Hid (S.sec i = S.st i) := by show _ = _; simp [Dsk.sec, hc]
    rw [hc] at hv2
    have hv2' : V2 i = .slice none 0 0 := hv2
    rw [hv2'] at d2
    have q0 : ∀ W : World, (binOp .neq 34 (.slice none 0 0) (.slice none 0 0)).run Try.prog W = .ok (.bool false) W := fun W => run_neq_slice_nil_any W _ _ none 0 0 0 0 tyBs
    have HV := Lib.hid hv1
    clear hv1 hv2 hv2' hc
    generalize V1 i = v at d1 HV
    go_enter Try.func69, Try.ntmps69
    go_wp2
    go_ret
    exact ⟨⟨v, rfl, by rw [hs.out]; exact HV.out⟩, rfl⟩
  | some xs =>
    have hs : Hid (S.sec i = xs) := by show _ = _; simp [Dsk.sec, hc]
    rw [hc] at hv2
    obtain ⟨g, cg, ev, hF, ho⟩ := (show Sl w F (V2 i) xs from hv2)
    rw [ev] at d2
    have q0 : ∀ W : World, (binOp .neq 34 (.slice (some ⟨g, 0, none⟩) 64 cg) (.slice none 0 0)).run Try.prog W = .ok (.bool true) W := fun W => run_neq_slice_nil_any W _ _ (some ⟨g, 0, none⟩) 64 cg 0 0 tyBs
    have HV := Lib.hid (And.intro hF ho)
    clear hv1 hv2 hc ev hF ho
    go_enter Try.func69, Try.ntmps69
    go_wp2
    go_ret
    exact ⟨⟨.slice (some ⟨g, 0, none⟩) 64 cg, rfl, by rw [hs.out]; exact ⟨g, cg, rfl, HV.out⟩⟩, rfl⟩

end Go.Proofs.Ytpnebhfegahaoaa
