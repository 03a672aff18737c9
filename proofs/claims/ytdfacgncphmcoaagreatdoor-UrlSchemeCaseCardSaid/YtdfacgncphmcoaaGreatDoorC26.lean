/-
URLs' variables in regions that draw their order; what an upgrade keeps.
The examples of the chapter on URLs hold.
-/
import Derived.Test.YtdfacgncphmcoaaGreatDoorC25
import Derived.Deep.RegionHeld3
namespace Go.Proofs.YtdfacgncphmcoaaGreatDoor
section
open Go.RowKit Go.Shelf
set_option maxRecDepth 100000 in
theorem neq_of_eql {t : TypeId} {a b : Array Value} {q : Bool} {W : World} (h : (binOp .eql t (.agg a) (.agg b)).run Tryz.prog W = .ok (.bool q) W) : (binOp .neq t (.agg a) (.agg b)).run Tryz.prog W = .ok (.bool (!q)) W := by
  simp only [binOp, Sem.run_bind] at h ⊢
  cases he : (Op.equal t (.agg a) (.agg b)).run Tryz.prog W with
  | ok v w' =>
    rw [he] at h
    simp only [Result.andThen, Sem.run_pure] at h ⊢
    injection h with h1 h2
    injection h1 with h1
    rw [h1, h2]
  | _ => rw [he] at h; cases h
/-- A URL's variable, its host, one of its cells, loaded in a region that draws its order. -/
theorem yld_url {S : World → Prop} {ops : Array Oper} {o : Oper} {a : Act} (x : Operand) (ho : o.op = .load 29 x) (hw : Region.wanted o (yielded ops a.tmps) = true) (g : Nat) (hx : a.eval x = .pointer (some ⟨g, 0, none⟩)) (C : Array Value) (hS : ∀ W, S W → RowU W g C) (hc : C.size = 15) : YieldsIf Tryz.prog ops S o (.agg C) a :=
  Or.inl ⟨hw, fun W hW => by
    have hl := load_url (hS W hW) hc
    unfold execOp
    simp only [ho, hx, Instr.loadAt, Instr.sureAddr, Sem.run_bind, Sem.run_pure, Result.andThen_ok, hl]⟩
theorem yld_uhost {S : World → Prop} {ops : Array Oper} {o : Oper} {a : Act} (x : Operand) (ho : o.op = .load 27 x) (hw : Region.wanted o (yielded ops a.tmps) = true) (g : Nat) (hx : a.eval x = .pointer (some ⟨g, 2, none⟩)) (C H : Array Value) (hS : ∀ W, S W → RowU W g C) (hH : C.extract 2 13 = H) (hH2 : H.size = 11) : YieldsIf Tryz.prog ops S o (.agg H) a :=
  Or.inl ⟨hw, fun W hW => by
    have hu := hostRow
    obtain ⟨d, hd⟩ : ∃ d, Tryz.prog.underlying 27 = some d := by
      cases hx : Tryz.prog.underlying 27 with
      | none => rw [hx] at hu; cases hu
      | some d => exact ⟨d, rfl⟩
    rw [hd] at hu
    have hr := World.rangeAt_of_block (hS W hW) 2 11
    rw [show 2 + 11 = 13 from rfl, hH] at hr
    have hl := run_loadVar_mid (P := Tryz.prog) W g 2 27 H.toList d hr hd (by simpa using hu) (by rw [Array.length_toList, hH2]; exact hostSize)
    rw [Array.toArray_toList] at hl
    unfold execOp
    simp only [ho, hx, Instr.loadAt, Instr.sureAddr, Sem.run_bind, Sem.run_pure, Result.andThen_ok, hl]⟩
theorem up_parts (u : Uv) : (upU u).user = u.user ∧ (upU u).host = u.host ∧ (upU u).rest = u.rest := by
  unfold upU
  split <;> exact ⟨rfl, rfl, rfl⟩
theorem up_ins (u : Uv) : insL (upU u).scheme = false := by
  cases hi : insL u.scheme with
  | true =>
    unfold upU
    rw [if_pos hi]
    exact (sec_facts _ hi).2.2.2.2.1
  | false =>
    unfold upU
    rw [if_neg (by rw [hi]; simp)]
    exact hi
theorem up_sm {u : Uv} (h : USm u) : USm (upU u) := by
  obtain ⟨e1, e2, e3⟩ := up_parts u
  have e4 : (upU u).scheme.length ≤ 100000000 := by
    unfold upU
    split
    · show (secL u.scheme).length ≤ _
      unfold secL
      split <;> decide
    · exact h.s1
  have e5 : (upU u).port = u.port ∨ (upU u).port = -1 := by
    unfold upU
    split
    · show (if u.port = 443 then -1 else u.port) = u.port ∨ (if u.port = 443 then -1 else u.port) = -1
      split
      · exact .inr rfl
      · exact .inl rfl
    · exact .inl rfl
  have h0 := h.p0
  have h1 := h.p1
  exact ⟨by rw [e2]; exact h.wf, by rw [e2]; exact h.hn, e4, by rw [e1]; exact h.s2, by rw [e3]; exact h.s3, by omega, by omega⟩
end

section
open Go.RowKit Go.Shelf
def uA : Uv := ⟨[104, 116, 116, 112], [117, 58, 112], hvD [101, 120, 97, 109, 112, 108, 101, 46, 99, 111, 109], -1, [47, 63, 113]⟩
def uB : Uv := ⟨[104, 116, 116, 112], [], hvD [97], 443, [47]⟩
theorem ex15_a : parseUL [72, 84, 84, 80, 58, 47, 47, 117, 58, 112, 64, 69, 120, 97, 109, 112, 108, 101, 46, 99, 111, 109, 58, 56, 48, 63, 113] = (0, uA) := by kernel_rfl
theorem ex15_b : parseUL [104, 116, 116, 112, 58, 47, 47, 97, 58, 52, 52, 51, 47] = (0, uB) := by kernel_rfl
theorem ex15_c : parseUL [104, 116, 116, 112, 58, 47, 97] = (4, uv0) := by kernel_rfl
theorem ex15_d : (if validX (upU uB) = true then bs (textX (upU uB)) else ⟨#[]⟩) = ⟨#[104, 116, 116, 112, 115, 58, 47, 47, 97, 47]⟩ := by kernel_rfl
theorem hvA_wf : (hvD [97]).Wf := ⟨by decide, z8_wf.1, z8_wf.2⟩
theorem uB_sm : USm uB := ⟨hvA_wf, by decide, by decide, by decide, by decide, by decide, by decide⟩
theorem uB_up : USm (upU uB) := ⟨hvA_wf, by decide, by decide, by decide, by decide, by decide, by decide⟩
set_option maxRecDepth 20000 in
set_option maxHeartbeats 1000000 in
theorem awake15_any (hPar : HoPar 86) (hF : HoFmt 65) (w : World) (hw : Uw w) :
    Calls Tryz.prog 11 #[] w (Yes w) := by
  have c1 := fun W hW => Parse_any hPar ⟨#[72, 84, 84, 80, 58, 47, 47, 117, 58, 112, 64, 69, 120, 97, 109, 112, 108, 101, 46, 99, 111, 109, 58, 56, 48, 63, 113]⟩ W (by decide) hW
  have c2 := fun W hW => Parse_any hPar ⟨#[104, 116, 116, 112, 58, 47, 47, 97, 58, 52, 52, 51, 47]⟩ W (by decide) hW
  have c3 := fun W hW => Parse_any hPar ⟨#[104, 116, 116, 112, 58, 47, 97]⟩ W (by decide) hW
  have c4 := fun W => urlUpgrade_any uB uB_sm W
  have c5 := fun W hW => urlFormat_any hPar hF (upU uB) uB_up W hW
  simp only [ex15_d] at c5
  unfold UrlPost at c1 c2 c3
  simp only [show ls ⟨#[72, 84, 84, 80, 58, 47, 47, 117, 58, 112, 64, 69, 120, 97, 109, 112, 108, 101, 46, 99, 111, 109, 58, 56, 48, 63, 113]⟩ = [72, 84, 84, 80, 58, 47, 47, 117, 58, 112, 64, 69, 120, 97, 109, 112, 108, 101, 46, 99, 111, 109, 58, 56, 48, 63, 113] from rfl, ex15_a] at c1
  simp only [show ls ⟨#[104, 116, 116, 112, 58, 47, 47, 97, 58, 52, 52, 51, 47]⟩ = [104, 116, 116, 112, 58, 47, 47, 97, 58, 52, 52, 51, 47] from rfl, ex15_b] at c2
  simp only [show ls ⟨#[104, 116, 116, 112, 58, 47, 97]⟩ = [104, 116, 116, 112, 58, 47, 97] from rfl, ex15_c] at c3
  have hA : UC uA.cells ⟨#[104, 116, 116, 112]⟩ ⟨#[117, 58, 112]⟩ (bs uA.host.name) uA.host.cells (-1) ⟨#[47, 63, 113]⟩ := uc_facts uA
  have hB := urv_size uB
  have hB1 := urv_one uB
  have hZ := urv_size uv0
  have hZ1 := urv_one uv0
  generalize uA.cells = A at *
  generalize uA.host.cells = HA at *
  generalize bs uA.host.name = NA at *
  generalize uB.cells = B at *
  generalize uv0.cells = Z at *
  generalize (upU uB).cells = V at *
  have HW := Lib.hid hw
  clear hw
  go_enter Tryz.func11, Tryz.ntmps11
  go_wp2_with fail
  refine (c1 _ HW.out).mono ?_
  rintro e w1 ⟨rfl, hbw⟩
  go_wp2_with (first
    | (refine wpList_alloc_arr _ rfl 1 rfl _ rfl uz zeroUrl ?_
       intro W1 g1 hg1 hl1 hR1 hG1
       have h1 : w.heap.size ≤ g1 := by have := hbw.size; omega
       replace hbw := below_row0 hbw hG1 (Nat.le_refl _))
    | (refine wpList_store_url rfl rfl _ _ rfl g1 (by exact rfl) A (by exact rfl) uz hR1 rfl hA.sz hA.one ?_
       intro w2 hr1 hG2
       replace hbw := below_row hbw hG2 (Nat.le_refl _) h1))
  refine (c2 _ (uw_below HW.out hbw)).mono ?_
  rintro e w3 ⟨rfl, hb3⟩
  replace hr1 : RowU w3 g1 A := Row.below hr1 hb3 (Row.lt hr1)
  replace hbw := hbw.trans (hb3.mono hbw.size)
  clear hR1 hG1 hG2 hb3
  go_wp2_with (first
    | (refine wpList_alloc_arr _ rfl 3 rfl _ rfl uz zeroUrl ?_
       intro W3 g3 hg3 hl3 hR3 hG3
       have hne13 : g1 ≠ g3 := by have := Row.lt hr1; omega
       have h3 : w.heap.size ≤ g3 := by have := hbw.size; omega
       replace hr1 : RowU W3 g1 A := Row.grown0 hr1 hG3
       replace hbw := below_row0 hbw hG3 (Nat.le_refl _))
    | (refine wpList_store_url rfl rfl _ _ rfl g3 (by exact rfl) B (by exact rfl) uz hR3 rfl hB hB1 ?_
       intro w4 hr3 hG4
       replace hr1 : RowU w4 g1 A := Row.grown hr1 hG4 hne13
       replace hbw := below_row hbw hG4 (Nat.le_refl _) h3))
  refine (c3 _ (uw_below HW.out hbw)).mono ?_
  rintro e w5 ⟨rfl, hb5⟩
  replace hr1 : RowU w5 g1 A := Row.below hr1 hb5 (Row.lt hr1)
  replace hr3 : RowU w5 g3 B := Row.below hr3 hb5 (Row.lt hr3)
  replace hbw := hbw.trans (hb5.mono hbw.size)
  clear hR3 hG3 hG4 hb5
  go_wp2_with (first
    | (refine wpList_alloc_arr _ rfl 5 rfl _ rfl uz zeroUrl ?_
       intro W5 g5 hg5 hl5 hR5 hG5
       have hne15 : g1 ≠ g5 := by have := Row.lt hr1; omega
       have hne35 : g3 ≠ g5 := by have := Row.lt hr3; omega
       have h5 : w.heap.size ≤ g5 := by have := hbw.size; omega
       replace hr1 : RowU W5 g1 A := Row.grown0 hr1 hG5
       replace hr3 : RowU W5 g3 B := Row.grown0 hr3 hG5
       replace hbw := below_row0 hbw hG5 (Nat.le_refl _))
    | (refine wpList_store_url rfl rfl _ _ rfl g5 (by exact rfl) Z (by exact rfl) uz hR5 rfl hZ hZ1 ?_
       intro w6 hr5 hG6
       replace hr1 : RowU w6 g1 A := Row.grown hr1 hG6 hne15
       replace hr3 : RowU w6 g3 B := Row.grown hr3 hG6 hne35
       replace hbw := below_row hbw hG6 (Nat.le_refl _) h5
       obtain ⟨e0, e1, e3, e13, e14⟩ := hA.cell hr1)
    | (refine wpList_load_url (by rfl) _ rfl g3 (by exact rfl) B hr3 hB ?_)
    | (go_at_call 25; refine (c4 _).mono ?_; rintro e w7 ⟨rfl, hb7⟩
       replace hbw := hbw.trans (hb7.mono hbw.size))
    | (go_at_call 15; refine (c5 _ (uw_below HW.out hbw)).mono ?_; rintro e w8 ⟨rfl, hb8⟩
       replace hbw := hbw.trans (hb8.mono hbw.size)))
  go_ret
  exact ⟨rfl, hbw⟩
end

end Go.Proofs.YtdfacgncphmcoaaGreatDoor
